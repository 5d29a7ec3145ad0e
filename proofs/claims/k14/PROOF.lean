import PyProof.Rows.All
import Wide.All
import OpenK.AllK
import Wide.FinOn
import Lean
import PyProof.EqAt
import PyProof.EqKinds
import PyProof.TupleCall
import PySem.Challenge.RW_lieask_k14_read
set_option Elab.async false
set_option linter.all false
set_option maxRecDepth 100000
/-! THE HAND LAYER, for ints, bools, texts, own classes, LISTS and tuples (index, slices, in, append, pop ..), calls, loops. Paste it whole ahead of your own text; what your proof does not reach may be deleted. -/
namespace L2
open PySem PySem.Spec PyProof.Rows

/-- a key: an int or a str -/
abbrev Key := Sum Int Str
def keyIs : Key → Value → Bool
  | .inl k, v => Value.isInt k v
  | .inr x, v => Value.isStrOf x v
def keyH (w : World) : Key → Int
  | .inl k => hashInt k
  | .inr x => hashStr w x
theorem keyIs_shape : ∀ {k : Key} {v : Value}, keyIs k v = true → (∃ i t, k = Sum.inl i ∧ v = Value.int i t) ∨ (∃ x t, k = Sum.inr x ∧ v = Value.str x t)
  | .inl i, v, h => by
    obtain ⟨t, e⟩ := Value.isInt_shape (k := i) (v := v) h
    exact .inl ⟨i, t, rfl, e⟩
  | .inr x, v, h => by
    obtain ⟨t, e⟩ := Value.isStrOf_shape (x := x) (v := v) h
    exact .inr ⟨x, t, rfl, e⟩
theorem keyIs_int (i : Int) (t : Tok) : keyIs (.inl i) (.int i t) = true := by simp [keyIs, Value.isInt]
theorem keyIs_str (x : Str) (t : Tok) : keyIs (.inr x) (.str x t) = true := by simp [keyIs, Value.isStrOf]
theorem key_ll (a b : Int) : decide ((Sum.inl a : Key) = Sum.inl b) = (a == b) := by
  by_cases e : a = b
  · subst e; simp
  · have h : ¬ (Sum.inl a : Key) = Sum.inl b := fun q => e (Sum.inl.inj q)
    rw [decide_eq_false h]
    exact (beq_eq_false_iff_ne.mpr e).symm
theorem key_rr (a b : Str) : decide ((Sum.inr a : Key) = Sum.inr b) = decide (a = b) := by
  by_cases e : a = b
  · subst e; simp
  · have h : ¬ (Sum.inr a : Key) = Sum.inr b := fun q => e (Sum.inr.inj q)
    rw [decide_eq_false h, decide_eq_false e]
theorem key_lr (a : Int) (b : Str) : decide ((Sum.inl a : Key) = Sum.inr b) = false := decide_eq_false (fun q => nomatch q)
theorem key_rl (a : Str) (b : Int) : decide ((Sum.inr a : Key) = Sum.inl b) = false := decide_eq_false (fun q => nomatch q)

def mixKind (prog : Program) (w : World) : PySem.KeyKind prog w Key where
  is := keyIs
  hash := keyH w
  inj := fun v a b ha hb => by
    rcases keyIs_shape ha with ⟨i, t, rfl, rfl⟩ | ⟨x, t, rfl, rfl⟩
    · rcases keyIs_shape hb with ⟨j, u, rfl, e⟩ | ⟨y, u, rfl, e⟩
      · injection e with e1 _; rw [e1]
      · exact nomatch e
    · rcases keyIs_shape hb with ⟨j, u, rfl, e⟩ | ⟨y, u, rfl, e⟩
      · exact nomatch e
      · injection e with e1 _; rw [e1]
  byValue := fun k v h => by
    rcases keyIs_shape h with ⟨i, t, rfl, rfl⟩ | ⟨x, t, rfl, rfl⟩ <;> rfl
  pyHash := fun hv h => by
    rcases keyIs_shape hv with ⟨i, t, rfl, rfl⟩ | ⟨x, t, rfl, rfl⟩
    · exact wpAny_pyHash_int h
    · exact wpAny_pyHash_str h
  eqBool := fun hu hv h => by
    rcases keyIs_shape hu with ⟨i, t, rfl, rfl⟩ | ⟨x, t, rfl, rfl⟩
    · rcases keyIs_shape hv with ⟨j, u, rfl, rfl⟩ | ⟨y, u, rfl, rfl⟩
      · rw [key_ll] at h; exact wpAny_eqBool_int h
      · rw [key_lr] at h; exact SeqAt.EqAt.int_str i t y u _ _ _ _ h
    · rcases keyIs_shape hv with ⟨j, u, rfl, rfl⟩ | ⟨y, u, rfl, rfl⟩
      · rw [key_rl] at h; exact SeqAt.EqAt.str_int x t j u _ _ _ _ h
      · rw [key_rr] at h; exact wpAny_eqBool_str h
  «strs» := fun k x t v h => by
    rcases keyIs_shape h with ⟨i, u, rfl, e⟩ | ⟨y, u, rfl, e⟩
    · exact nomatch e
    · injection e with e1 _
      subst e1
      cases v <;> rfl

theorem mixKind_is (prog : Program) (w : World) (k : Key) (v : Value) : (mixKind prog w).is k v = keyIs k v := rfl
theorem mixKind_int (prog : Program) (w : World) (i : Int) (t : Tok) : (mixKind prog w).is (.inl i) (.int i t) = true := keyIs_int i t
theorem mixKind_str (prog : Program) (w : World) (x : Str) (t : Tok) : (mixKind prog w).is (.inr x) (.str x t) = true := keyIs_str x t
end L2

namespace L2
open PySem PySem.Spec PyProof.Rows

/-- a value, without the heap -/
inductive V where
  | non | bl (b : Bool) | int (i : Int) | str (x : Str) | byt (b : Array UInt8) | flt (b : UInt64) | ref (a : Addr) | ty (n : String)
  deriving DecidableEq

def RelV : V → Value → Prop
  | .non, u => u = Value.none
  | .bl b, u => u = Value.bool b
  | .int i, u => ∃ t, u = Value.int i t
  | .str x, u => ∃ t, u = Value.str x t
  | .byt b, u => ∃ t, u = Value.bytes b t
  | .flt b, u => ∃ t, u = Value.float b t
  | .ref a, u => u = Value.ref a
  | .ty n, u => u = Value.type n

abbrev Vals : List V → List Value → Prop := Paired RelV
theorem Vals.length {xs : List V} {us : List Value} (r : Vals xs us) : xs.length = us.length := Paired.length r
theorem Vals.get : ∀ {xs : List V} {us : List Value} {i : Nat} {x : V}, Vals xs us → xs[i]? = some x → ∃ u, us[i]? = some u ∧ RelV x u
  | _, _, _, _, .nil, e => by simp at e
  | _, _, 0, _, .cons r _, e => by simp at e; subst e; exact ⟨_, rfl, r⟩
  | _, _, i + 1, x, .cons _ t, e => by
    obtain ⟨u, h1, h2⟩ := Vals.get (i := i) (x := x) t (by simpa using e)
    exact ⟨u, by simpa using h1, h2⟩
theorem Vals.set {x : V} {u : Value} (r : RelV x u) : ∀ {xs : List V} {us : List Value} (i : Nat), Vals xs us → Vals (xs.set i x) (us.set i u)
  | _, _, _, .nil => .nil
  | _, _, 0, .cons _ t => .cons r t
  | _, _, i + 1, .cons q t => .cons q (Vals.set r i t)
theorem Vals.append : ∀ {xs ys : List V} {us ws : List Value}, Vals xs us → Vals ys ws → Vals (xs ++ ys) (us ++ ws)
  | _, _, _, _, .nil, s => s
  | _, _, _, _, .cons r t, s => .cons r (Vals.append t s)
theorem Vals.take : ∀ {xs : List V} {us : List Value} (n : Nat), Vals xs us → Vals (xs.take n) (us.take n)
  | _, _, 0, _ => .nil
  | _, _, _ + 1, .nil => .nil
  | _, _, n + 1, .cons r t => .cons r (Vals.take n t)
theorem Vals.drop : ∀ {xs : List V} {us : List Value} (n : Nat), Vals xs us → Vals (xs.drop n) (us.drop n)
  | _, _, 0, r => r
  | _, _, _ + 1, .nil => .nil
  | _, _, n + 1, .cons _ t => Vals.drop n t
theorem Vals.none_of : ∀ {xs : List V} {us : List Value} {i : Nat}, Vals xs us → xs[i]? = none → us[i]? = none := fun {xs us i} r e => by
  have h1 := r.length
  have h2 : xs.length ≤ i := List.getElem?_eq_none_iff.mp e
  exact List.getElem?_eq_none_iff.mpr (by omega)

def RelO : Option V → Option Value → Prop
  | some v, some u => RelV v u
  | none, none => True
  | _, _ => False
def KV {κ : Type} : List (κ × V) → List (κ × Value) → Prop := Paired fun (p : κ × V) (q : κ × Value) => p.1 = q.1 ∧ RelV p.2 q.2

/-- a key of a dict (00_mix): an int or a text -/
def kV : Key → V
  | .inl i => .int i
  | .inr x => .str x

/-- what stands at a tracked address -/
inductive HO where
  /-- a list -/
  | lst (xs : List V)
  /-- a tuple (never changes) -/
  | tup (xs : List V)
  /-- a dict whose keys are ints and texts; one whose keys are tuples of ints and texts (the empty one is both) -/
  | dK (kvs : List (Key × V)) | dT (kvs : List (List Key × V))
  /-- a set of ints: its members, its size -/
  | set (S : Int → Bool) (n : Nat)
  /-- an instance of the class at C, its dict at dx, its attributes -/
  | ins (C dx : Addr) (fs : List (Str × V))
  /-- the dict of the instance at x -/
  | own (x : Addr)
  /-- the dict of an exception -/
  | xd (fs : List (Str × V))
  /-- a bound method, f of x -/
  | met (f x : Addr)
  /-- a range object lo, lo + 1, .. below hi -/
  | rng (lo hi : Int)
  /-- a thing that is known to the object (the script; a dict while a loop walks it): read, never written while it is so -/
  | frz (o : Obj) (u : HO)
  /-- a code object's table -/
  | tbl (ps : Array Value)
  /-- any other thing, by what is true of its one object (a def of one's own: SetO a S n := HO.ext fun h => ..) -/
  | ext (φ : Heap → Prop)

abbrev Hp := Addr → Option HO
def upd (H : Hp) (a : Addr) (o : HO) : Hp := fun b => if b = a then some o else H b
theorem upd_same {H : Hp} {a : Addr} {o : HO} : upd H a o a = some o := by unfold upd; rw [if_pos rfl]
theorem upd_ne {H : Hp} {a b : Addr} {o : HO} (h : b ≠ a) : upd H a o b = H b := by unfold upd; rw [if_neg h]
theorem upd_upd {H : Hp} {a : Addr} {o u : HO} : upd (upd H a o) a u = upd H a u := by
  funext b; unfold upd; split <;> rfl
/-- two objects of different content stand apart -/
theorem ne_of {H : Hp} {a b : Addr} {o u : HO} (h : H a = some o) (h' : H b = some u) (d : o ≠ u) : a ≠ b := by
  intro e; subst e; rw [h] at h'; exact d (Option.some.inj h')
theorem ne_of_none {H : Hp} {a b : Addr} {o : HO} (h : H a = some o) (h' : H b = none) : a ≠ b := by
  intro e; subst e; rw [h] at h'; cases h'

section
variable (P : Program) (w : World)
def ObjOk (H : Hp) (h : Heap) (a : Addr) : HO → Prop
  | .lst xs => xs.length ≤ sizeLine ∧ ∃ (its : List Value) (n : Nat), Vals xs its ∧ h.get? a = some { cls := .type "list", data := .seq its.toArray n }
  | .tup xs => xs.length ≤ sizeLine ∧ ∃ its : List Value, Vals xs its ∧ IsTup h a its.toArray
  | .dK kvs => kvs.length ≤ sizeLine ∧ (a == sysModules) = false ∧ ∃ vs, KV kvs vs ∧ h.DictOf (mixKind P w) a vs
  | .dT kvs => kvs.length ≤ sizeLine ∧ (a == sysModules) = false ∧ ∃ xs : List (List Key × Addr × Value),
      Paired (fun (p : List Key × V) (q : List Key × Addr × Value) => p.1 = q.1 ∧ H q.2.1 = some (.tup (p.1.map kV)) ∧ RelV p.2 q.2.2) kvs xs ∧
      ∃ o es ep, h.get? a = some o ∧ o.ExactDict ∧ o.data = .dict es ep ∧ es.toList = xs.map (entryOfKey (tupleKind (mixKind P w))) ∧ (xs.map (·.1)).Nodup
  | .set S n => h.SetOf (intKind P w) a S n
  | .ins C dx fs => H dx = some (.own a) ∧ fs.length ≤ 1000 ∧ dx ≠ a ∧ h.get? a = some (PySem.W.instObj C dx) ∧
      ∃ mA, h.Ns1 dx mA ∧ (∀ f, RelO (fs.lookup f) (mA f)) ∧ PySem.Within mA (fs.map (·.1))
  | .own _ => ∃ o, h.get? a = some o
  | .xd fs => ∃ mA, h.Ns1 a mA ∧ ∀ f, RelO (fs.lookup f) (mA f)
  | .rng lo hi => ∃ t u v, h.get? a = some { cls := .type "range", data := .fields #[.int lo t, .int hi u, .int 1 v] }
  | .frz o u => h.get? a = some o ∧ ObjOk H h a u
  | .tbl ps => h.get? a = some { cls := .none, data := .fields ps }
  | .met f x => h.get? a = some (PySem.W.methodObj (.ref f) (.ref x))
  | .ext φ => φ h ∧ (∃ o, h.get? a = some o) ∧ ∀ h1 h2 : Heap, φ h1 → (∀ o, h1.get? a = some o → h2.get? a = some o) → φ h2
/-- the abstract heap is held -/
def HOk (H : Hp) (h : Heap) : Prop := ∀ a o, H a = some o → ObjOk P w H h a o
end

section
variable {P : Program} {w : World} {H H' : Hp} {h h' : Heap} {a : Addr} {o : HO}
theorem ObjOk.lt (x : ObjOk P w H h a o) : a < h.objs.size := by
  cases o with
  | lst xs => obtain ⟨_, _, _, _, e⟩ := x; exact Heap.lt_size e
  | tup xs => obtain ⟨_, _, _, p⟩ := x; exact p.lt
  | dK kvs => obtain ⟨_, _, _, _, o, _, _, e, _⟩ := x; exact Heap.lt_size e
  | dT kvs => obtain ⟨_, _, _, _, o, _, _, e, _⟩ := x; exact Heap.lt_size e
  | set S n => obtain ⟨o, _, _, _, e, _⟩ := x; exact Heap.lt_size e
  | ins C dx fs => obtain ⟨_, _, _, e, _⟩ := x; exact Heap.lt_size e
  | own y => obtain ⟨_, e⟩ := x; exact Heap.lt_size e
  | xd fs => obtain ⟨_, ⟨_, _, _, e, _⟩, _⟩ := x; exact Heap.lt_size e
  | rng lo hi => obtain ⟨_, _, _, e⟩ := x; exact Heap.lt_size e
  | frz ob u => obtain ⟨e, _⟩ := x; exact Heap.lt_size e
  | tbl ps => exact Heap.lt_size (show h.get? a = some _ from x)
  | met f y => exact Heap.lt_size (show h.get? a = some _ from x)
  | ext φ => obtain ⟨_, ⟨_, e⟩, _⟩ := x; exact Heap.lt_size e
theorem Paired.mapP {α β : Type} {F G : α → β → Prop} : ∀ {l₁ : List α} {l₂ : List β}, Paired F l₁ l₂ → (∀ a b, F a b → G a b) → Paired G l₁ l₂
  | _, _, .nil, _ => .nil
  | _, _, .cons r t, f => .cons (f _ _ r) (Paired.mapP t f)
theorem Paired.imp' {α β : Type} {F G : α → β → Prop} (f : ∀ a b, F a b → G a b) {l₁ : List α} {l₂ : List β} (r : Paired F l₁ l₂) : Paired G l₁ l₂ := Paired.mapP r f
/-- what an object's description leans on: its own object, its own dict, the tuples -/
theorem ObjOk.stay (x : ObjOk P w H h a o) (k : ∀ b u, (b = a ∨ H b = some (.own a)) → h.get? b = some u → h'.get? b = some u)
    (ho : ∀ b, H b = some (.own a) → H' b = some (.own a)) (ht : ∀ b xs, H b = some (.tup xs) → H' b = some (.tup xs)) : ObjOk P w H' h' a o := by
  induction o with
  | lst xs => obtain ⟨z, its, n, r, e⟩ := x; exact ⟨z, its, n, r, k _ _ (.inl rfl) e⟩
  | tup xs => obtain ⟨z, its, r, ob, e, c⟩ := x; exact ⟨z, its, r, ob, k _ _ (.inl rfl) e, c⟩
  | dK kvs => obtain ⟨z, y, vs, r, ob, es, ep, e, c⟩ := x; exact ⟨z, y, vs, r, ob, es, ep, k _ _ (.inl rfl) e, c⟩
  | dT kvs =>
    obtain ⟨z, y, xs, r, ob, es, ep, e, c⟩ := x
    exact ⟨z, y, xs, Paired.mapP r fun p q z => ⟨z.1, ht _ _ z.2.1, z.2.2⟩, ob, es, ep, k _ _ (.inl rfl) e, c⟩
  | set S n => obtain ⟨ob, es, ep, t, e, c⟩ := x; exact ⟨ob, es, ep, t, k _ _ (.inl rfl) e, c⟩
  | ins C dx fs =>
    obtain ⟨d, z, ne, e, mA, ⟨od, es, ep, e2, c⟩, r⟩ := x
    exact ⟨ho _ d, z, ne, k _ _ (.inl rfl) e, mA, ⟨od, es, ep, k _ _ (.inr d) e2, c⟩, r⟩
  | own y => obtain ⟨ob, e⟩ := x; exact ⟨ob, k _ _ (.inl rfl) e⟩
  | xd fs => obtain ⟨mA, ⟨od, es, ep, e, c⟩, r⟩ := x; exact ⟨mA, ⟨od, es, ep, k _ _ (.inl rfl) e, c⟩, r⟩
  | rng lo hi => obtain ⟨t, u, v, e⟩ := x; exact ⟨t, u, v, k _ _ (.inl rfl) e⟩
  | frz ob u ih => obtain ⟨e, q⟩ := x; exact ⟨k _ _ (.inl rfl) e, ih q⟩
  | tbl ps =>
    have e : h.get? a = some { cls := .none, data := .fields ps } := x
    show h'.get? a = some { cls := .none, data := .fields ps }
    exact k a _ (.inl rfl) e
  | met f y =>
    have e : h.get? a = some (PySem.W.methodObj (.ref f) (.ref y)) := x
    show h'.get? a = some (PySem.W.methodObj (.ref f) (.ref y))
    exact k a _ (.inl rfl) e
  | ext φ => obtain ⟨p, ⟨o, e⟩, st⟩ := x; exact ⟨st _ _ p fun o q => k _ _ (.inl rfl) q, ⟨o, k _ _ (.inl rfl) e⟩, st⟩
theorem HOk.lt (x : HOk P w H h) (e : H a = some o) : a < h.objs.size := (x a o e).lt
theorem HOk.fresh (x : HOk P w H h) (e : h.objs.size ≤ a) : H a = none := by
  cases q : H a with
  | none => rfl
  | some u => exact absurd (Nat.lt_of_lt_of_le (x.lt q) e) (Nat.lt_irrefl _)
/-- every object of the heap is kept -/
theorem HOk.kept (x : HOk P w H h) (k : ∀ b u, h.get? b = some u → h'.get? b = some u) : HOk P w H h' := fun a o e =>
  (x a o e).stay (fun b u _ q => k b u q) (fun _ q => q) fun _ _ q => q
/-- a new object is laid and tracked -/
theorem HOk.laid (x : HOk P w H h) (k : ∀ b u, h.get? b = some u → h'.get? b = some u) (hp : h.objs.size ≤ a) (new : ObjOk P w (upd H a o) h' a o) : HOk P w (upd H a o) h' := fun b u e => by
  have hn := x.fresh hp
  by_cases hb : b = a
  · subst hb; rw [upd_same] at e; cases e; exact new
  · rw [upd_ne hb] at e
    exact (x b u e).stay (fun c v _ q => k c v q) (fun c q => by rw [upd_ne (ne_of_none q hn)]; exact q) fun c xs q => by rw [upd_ne (ne_of_none q hn)]; exact q
end

/-- what may be read as u: it is u, or a known u -/
def Rd (H : Hp) (a : Addr) (u : HO) : Prop := H a = some u ∨ ∃ o, H a = some (.frz o u)
theorem Rd.of {H : Hp} {a : Addr} {u : HO} (h : H a = some u) : Rd H a u := .inl h
theorem Rd.ok {P : Program} {w : World} {H : Hp} {h : Heap} {a : Addr} {u : HO} (r : Rd H a u) (x : HOk P w H h) : ObjOk P w H h a u := by
  rcases r with r | ⟨o, r⟩
  · exact x a u r
  · obtain ⟨_, q⟩ := x a _ r
    exact q
/-- what may be written -/
def Mut : Option HO → Prop
  | some (.lst _) => True
  | some (.dK _) => True
  | some (.dT _) => True
  | some (.set _ _) => True
  | some (.ins _ _ _) => True
  | some (.ext _) => True
  | _ => False
section
variable {P : Program} {w : World} {H : Hp} {h h' : Heap} {x e : Addr} {o' : HO}
/-- the object at e is changed: x itself, or the dict of the instance x -/
theorem HOk.write (ok : HOk P w H h) (mu : Mut (H x)) (he : e = x ∨ H e = some (.own x)) (k : ∀ b u, b ≠ e → h.get? b = some u → h'.get? b = some u) (heo : ∃ u, h'.get? e = some u)
    (new : ObjOk P w (upd H x o') h' x o') : HOk P w (upd H x o') h' := fun b u q => by
  have nown : ∀ c y, H c = some (.own y) → c ≠ x := fun c y r z => by subst z; rw [r] at mu; exact mu
  have ntup : ∀ c xs, H c = some (.tup xs) → c ≠ x := fun c xs r z => by subst z; rw [r] at mu; exact mu
  by_cases hb : b = x
  · subst hb; rw [upd_same] at q; cases q; exact new
  · rw [upd_ne hb] at q
    by_cases hbe : b = e
    · have q' : H b = some (.own x) := by
        rcases he with z | z
        · exact absurd (hbe.trans z) hb
        · rw [hbe]; exact z
      rw [q] at q'; cases q'
      obtain ⟨v, hv⟩ := heo
      exact ⟨v, by rw [hbe]; exact hv⟩
    · refine (ok b u q).stay (fun c v hc r => k c v ?_ r) (fun c r => by rw [upd_ne (nown c b r)]; exact r) fun c xs r => by rw [upd_ne (ntup c xs r)]; exact r
      rcases hc with rfl | hc
      · exact hbe
      · rintro rfl
        rcases he with z | z
        · exact nown c b hc z
        · rw [hc] at z; cases z; exact hb rfl
end

/-! ### kept unless tracked; of the frames at fs (the callers') the slots may change (an exception that passes writes there); of the records at ex (iterators) nothing is said -/
structure Un (fs ex : List Addr) (H H' : Hp) (h h' : Heap) : Prop where
  keep : ∀ b o, h.get? b = some o → H b = none → b ∉ fs → b ∉ ex → h'.get? b = some o
  slot : ∀ b o, h.get? b = some o → H b = none → b ∈ fs → b ∉ ex → ∃ sl, h'.get? b = some { o with slots := sl }
  free : ∀ b o, h.get? b = some o → H b = none → b ∉ ex → H' b = none
  there : ∀ b o, h.get? b = some o → b ∉ ex → ∃ o', h'.get? b = some o'
  tups : ∀ b xs, H b = some (.tup xs) → H' b = some (.tup xs)
  frzs : ∀ b o u, H b = some (.frz o u) → H' b = some (.frz o u)
  tbls : ∀ b ps, H b = some (.tbl ps) → ∃ more, H' b = some (.tbl (ps ++ more))
section
variable {fs fs' ex ex' : List Addr} {H H1 H2 : Hp} {h h1 h2 h' : Heap} {a x e : Addr} {o : HO}
theorem Un.any (u : Un fs ex H H1 h h1) {b : Addr} {ob : Obj} (q : h.get? b = some ob) (n : H b = none) (hx : b ∉ ex) : ∃ sl, h1.get? b = some { ob with slots := sl } := by
  by_cases hb : b ∈ fs
  · exact u.slot b ob q n hb hx
  · exact ⟨ob.slots, u.keep b ob q n hb hx⟩
theorem Un.trans (a : Un fs ex H H1 h h1) (b : Un fs ex H1 H2 h1 h2) : Un fs ex H H2 h h2 where
  keep := fun c ob q n hc hx => b.keep c ob (a.keep c ob q n hc hx) (a.free c ob q n hx) hc hx
  slot := fun c ob q n hc hx => by
    obtain ⟨sl, e1⟩ := a.slot c ob q n hc hx
    obtain ⟨sl', e2⟩ := b.slot c _ e1 (a.free c ob q n hx) hc hx
    exact ⟨sl', e2⟩
  free := fun c ob q n hx => by
    obtain ⟨o', e1⟩ := a.there c ob q hx
    exact b.free c o' e1 (a.free c ob q n hx) hx
  there := fun c ob q hx => by
    obtain ⟨o', e1⟩ := a.there c ob q hx
    exact b.there c o' e1 hx
  tups := fun c xs q => b.tups c xs (a.tups c xs q)
  frzs := fun c ob xs q => b.frzs c ob xs (a.frzs c ob xs q)
  tbls := fun c ps q => by
    obtain ⟨m1, e1⟩ := a.tbls c ps q
    obtain ⟨m2, e2⟩ := b.tbls c _ e1
    exact ⟨m1 ++ m2, by rw [e2, Array.append_assoc]⟩
theorem Un.kept (k : ∀ b u, h.get? b = some u → h'.get? b = some u) : Un fs ex H H h h' :=
  ⟨fun b ob q _ _ _ => k b ob q, fun b ob q _ _ _ => ⟨ob.slots, k b ob q⟩, fun _ _ _ n _ => n, fun b ob q _ => ⟨ob, k b ob q⟩, fun _ _ q => q, fun _ _ _ q => q, fun _ ps q => ⟨#[], by rw [q]; simp⟩⟩
theorem Un.refl : Un fs ex H H h h := Un.kept fun _ _ q => q
theorem Un.laid (k : ∀ b u, h.get? b = some u → h'.get? b = some u) (hp : h.objs.size ≤ a) (hn : H a = none) : Un fs ex H (upd H a o) h h' where
  keep := fun b u q _ _ _ => k b u q
  slot := fun b u q _ _ _ => ⟨u.slots, k b u q⟩
  free := fun b u q n _ => by rw [upd_ne (Nat.ne_of_lt (Nat.lt_of_lt_of_le (Heap.lt_size q) hp))]; exact n
  there := fun b u q _ => ⟨u, k b u q⟩
  tups := fun b xs q => by rw [upd_ne (ne_of_none q hn)]; exact q
  frzs := fun b u xs q => by rw [upd_ne (ne_of_none q hn)]; exact q
  tbls := fun b ps q => ⟨#[], by rw [upd_ne (ne_of_none q hn), q]; simp⟩
theorem Un.write (mu : Mut (H x)) (he : e = x ∨ H e = some (.own x)) (k : ∀ b u, b ≠ e → h.get? b = some u → h'.get? b = some u) (heo : ∃ u, h'.get? e = some u) : Un fs ex H (upd H x o) h h' := by
  have hx : ∀ b, H b = none → b ≠ x := fun b n z => by subst z; rw [n] at mu; exact mu
  have hb : ∀ b, H b = none → b ≠ e := fun b n z => by
    subst z
    rcases he with r | r
    · exact hx b n r
    · rw [n] at r; cases r
  have hm : ∀ b u, H b = some u → ¬ Mut (some u) → b ≠ x := fun b u q nm z => by subst z; rw [q] at mu; exact nm mu
  refine ⟨fun b u q n _ _ => k b u (hb b n) q, fun b u q n _ _ => ⟨u.slots, k b u (hb b n) q⟩, fun b u q n _ => by rw [upd_ne (hx b n)]; exact n, fun b u q _ => ?_,
    fun b xs q => by rw [upd_ne (hm b _ q fun z => z)]; exact q, fun b u xs q => by rw [upd_ne (hm b _ q fun z => z)]; exact q, fun b ps q => ⟨#[], by rw [upd_ne (hm b _ q fun z => z), q]; simp⟩⟩
  by_cases hbe : b = e
  · subst hbe; exact heo
  · exact ⟨u, k b u hbe q⟩
theorem Un.mono (u : Un fs ex H H1 h h1) (hs : ∀ b ∈ fs, b ∈ fs') (hx : ∀ b ∈ ex, b ∈ ex') : Un fs' ex' H H1 h h1 :=
  ⟨fun b ob q n hb he => u.keep b ob q n (fun z => hb (hs b z)) fun z => he (hx b z), fun _ _ q n _ he => u.any q n fun z => he (hx _ z), fun b ob q n he => u.free b ob q n fun z => he (hx b z), fun b ob q he => u.there b ob q fun z => he (hx b z), u.tups, u.frzs, u.tbls⟩
end

/-! ### the heap without what is tracked -/
def trk (h : Heap) (H : Hp) : List Addr := (List.range h.objs.size).filter fun a => (H a).isSome
def hidT (h : Heap) (H : Hp) : Heap := PySem.W.hideAll h (trk h H)
theorem hidT_size (h : Heap) (H : Hp) : (hidT h H).objs.size = h.objs.size := PySem.W.hideAll_size _ _
theorem hidT_get {h : Heap} {H : Hp} {b : Addr} {o : Obj} (e : h.get? b = some o) (n : H b = none) : (hidT h H).get? b = some o :=
  PySem.W.hideAll_get _ e fun hm => by
    have q : (H b).isSome = true := (List.mem_filter.mp hm).2
    rw [n] at q; simp at q
theorem of_hidT {h : Heap} {H : Hp} {b : Addr} {o : Obj} (e : (hidT h H).get? b = some o) : h.get? b = some o ∧ H b = none := by
  have e' : h.get? b = some o := PySem.W.of_hideAll (trk h H) e
  refine ⟨e', ?_⟩
  cases q : H b with
  | none => rfl
  | some x =>
    have hm : b ∈ trk h H := List.mem_filter.mpr ⟨List.mem_range.mpr (Heap.lt_size e'), by simp [q]⟩
    have z : (hidT h H).get? b = none := PySem.W.hideAll_none (trk h H) hm
    rw [z] at e; cases e

/-! ### OpenK's ledger, filled with every new object but one -/
def allNews (g h : Heap) (L : Addr) : List (Addr × Obj) := (List.range h.objs.size).filterMap fun a => if a = L ∨ (g.get? a).isSome = true then none else (h.get? a).map fun o => (a, o)
theorem mem_allNews {g h : Heap} {L a : Addr} {o : Obj} (h1 : a ≠ L) (h2 : g.get? a = none) (h3 : h.get? a = some o) : (a, o) ∈ allNews g h L :=
  List.mem_filterMap.mpr ⟨a, List.mem_range.mpr (Heap.lt_size h3), by simp [h1, h2, h3]⟩
theorem of_mem_allNews {g h : Heap} {L : Addr} {p : Addr × Obj} (hp : p ∈ allNews g h L) : p.1 ≠ L ∧ g.get? p.1 = none ∧ h.get? p.1 = some p.2 := by
  obtain ⟨b, _, e⟩ := List.mem_filterMap.mp hp
  split at e
  · cases e
  · rename_i hn
    cases q : h.get? b with
    | none => rw [q] at e; simp at e
    | some u =>
      rw [q] at e
      simp only [Option.map_some, Option.some.injEq] at e
      subst e
      refine ⟨fun z => hn (.inl z), ?_, q⟩
      show g.get? b = none
      cases r : g.get? b with
      | none => rfl
      | some v => exact (hn (.inr (by simp [r]))).elim
def rest (g h : Heap) (L d : Addr) : List (Addr × Obj) := (allNews g h L).filter fun p => decide (p.1 ≠ d)
theorem rest_ne {g h : Heap} {L d : Addr} : ∀ p ∈ rest g h L d, p.1 ≠ d := fun p hp => of_decide_eq_true (List.mem_filter.mp hp).2
theorem mem_rest {g h : Heap} {L d a : Addr} {o : Obj} (h1 : a ≠ L) (h2 : g.get? a = none) (h3 : h.get? a = some o) (h4 : a ≠ d) : (a, o) ∈ rest g h L d :=
  List.mem_filter.mpr ⟨mem_allNews h1 h2 h3, decide_eq_true h4⟩
theorem news_all {g h : Heap} {L : Addr} : News g L h (allNews g h L) := fun p hp => let ⟨a, b, c⟩ := of_mem_allNews hp; ⟨c, a, b⟩
theorem news_at {g h : Heap} {L d : Addr} {o : Obj} (h1 : d ≠ L) (h2 : g.get? d = none) (h3 : h.get? d = some o) : News g L h ((d, o) :: rest g h L d) := fun p hp => by
  rcases List.mem_cons.mp hp with rfl | hp
  · exact ⟨h3, h1, h2⟩
  · exact news_all p (List.mem_filter.mp hp).1
/-- behind a rule that changed d alone: all else but the frame is kept -/
theorem kept_of_news {g h h' : Heap} {L d : Addr} {m : Str → Option Value} (k : ∀ b o, g.get? b = some o → h.get? b = some o) (F : Fr g L h' m) (N : News g L h' (rest g h L d)) :
    ∀ b o, b ≠ L → b ≠ d → h.get? b = some o → h'.get? b = some o := fun b o h1 h2 e => by
  cases q : g.get? b with
  | some u =>
    have := k b u q
    rw [e] at this; cases this
    exact F.keep b _ q
  | none => exact (N (b, o) (mem_rest h1 q e h2)).1
end L2

namespace L2
open PySem PySem.Spec PyProof.Rows

/-- the module's facts, over the base: the heap at the law's entry without what is tracked there -/
structure Mod (K : PySem.W.Frag) (mg : Str → Option Value) (base : Heap) : Prop where
  kin : K.In base
  glob : base.Ns mainGlobals mg
  blt : ∃ mb, base.Ns builtinsNs mb ∧ ∀ x : Str, x ≠ "__name__" → mb x = bootBuiltins x
  nolimit : base.NoLimit

/-- the context: a def's body (or a comprehension's block) running. base: fixed through the whole law; s₀, H₀: the entry; outer: the frames whose slots others may change (a def's callers); stack: all frames that run;
   ex: iterators that were made ahead of the entry and are walked here (a comprehension's); fn: the names whose cells were made at the entry (a def: all; a comprehension's block: its own); calm: not within an except suite; pn: pins that every state bears; xe: what is wanted of an exception that leaves the code -/
structure Cx where
  prog : Program
  w : World
  K : PySem.W.Frag
  mg : Str → Option Value
  base : Heap
  A : Around
  N : List Str
  s₀ : Shared
  H₀ : Hp
  env : Env
  outer : List Env
  stack : List Env
  ex : List Addr
  fn : Str → Bool
  calm : Bool
  pn : List (Addr × Obj)
  xe : Value → Shared → Prop
/-- the callers' frames -/
def frs (l : List Env) : List Addr := l.filterMap (·.frame)
abbrev Cx.fs (X : Cx) : List Addr := frs X.outer

def Vis (sc : Scope) (x : Str) : Prop := sc.names.lookup x = some .local ∨ sc.names.lookup x = some .cell ∨ sc.names.lookup x = some .free
def Loc (sc : Scope) (x : Str) : Prop := sc.names.lookup x = some .local ∨ sc.names.lookup x = some .cell
def Look (env : Env) (h : Heap) (m : Str → Option Value) (x : Str) (u : Value) : Prop :=
  (env.kindOf x = some .local ∧ m x = some u) ∨ ((env.kindOf x = some .cell ∨ env.kindOf x = some .free) ∧ ∃ c, env.cells.lookup x = some c ∧ h.IsCell c (some u))

structure Cx.Ok (X : Cx) : Prop where
  mod : Mod X.K X.mg X.base
  kind : X.env.scope.kind = .function
  glob : X.env.globals = mainGlobals
  blt : X.env.builtins = builtinsNs
  above : X.s₀.heap.objs.size ≤ X.env.locals
  inj : ∀ x y c, X.env.cells.lookup x = some c → X.env.cells.lookup y = some c → x = y
  has : ∀ x, (X.env.kindOf x = some .cell ∨ X.env.kindOf x = some .free) → ∃ c, X.env.cells.lookup x = some c
  cab : ∀ x c, X.fn x = true → X.env.cells.lookup x = some c → X.s₀.heap.objs.size ≤ c
  hd : X.calm = true → X.A.handled = none
  frames : X.A.frames = some X.stack
  stk : X.stack = X.outer ∨ (X.stack = X.env :: X.outer ∧ X.env.frame = some X.env.locals)
  exf : ∀ b ∈ X.ex, b ≠ X.env.locals ∧ ∀ x c, X.env.cells.lookup x = some c → c ≠ b
  bs : ∀ b o, X.base.get? b = some o → X.s₀.heap.get? b = some o ∧ X.H₀ b = none
  bsz : X.base.objs.size ≤ X.s₀.heap.objs.size
  noex : ∀ b o, X.base.get? b = some o → b ∉ X.ex
  exfs : ∀ b ∈ X.ex, b ∉ X.fs
  funs : X.s₀.heap.FunFrames X.base X.outer
  frf : ∀ b ∈ X.fs, X.H₀ b = none

structure Inv (X : Cx) (pins : List (Addr × Obj)) (σ : List (Option V)) (H : Hp) (s : Shared) : Prop where
  ok : X.Ok
  os : s.os = X.s₀.os
  bare : AllBare s.gens
  base : Un X.fs X.ex X.H₀ H X.s₀.heap s.heap
  loc : ∃ m, s.heap.Ns X.env.locals m ∧ ∀ (i : Nat) (x : Str) (v : V), X.N[i]? = some x → σ[i]? = some (some v) → Vis X.env.scope x → ∃ u, RelV v u ∧ Look X.env s.heap m x u
  cell : ∀ x c, X.env.cells.lookup x = some c → ∃ v, s.heap.IsCell c v
  free : H X.env.locals = none
  freeC : ∀ x c, X.env.cells.lookup x = some c → H c = none
  pin : ∀ p ∈ X.pn ++ pins, s.heap.get? p.1 = some p.2 ∧ H p.1 = none ∧ p.1 ≠ X.env.locals ∧ p.1 ∉ X.fs ∧ ∀ v, p.2.data ≠ .cell v
  hok : HOk X.prog X.w H s.heap
  len : σ.length = X.N.length

section
variable {X : Cx} {pins : List (Addr × Obj)} {σ : List (Option V)} {H H' : Hp} {s : Shared} {h' : Heap}

theorem Cx.Ok.nofr (ok : X.Ok) {b : Addr} {o : Obj} (e : X.base.get? b = some o) : b ∉ X.fs := fun hb => by
  have := (ok.funs.mem hb).1
  rw [e] at this; cases this
theorem Inv.bs (I : Inv X pins σ H s) : ∀ b o, X.base.get? b = some o → s.heap.get? b = some o ∧ H b = none := fun b o e =>
  ⟨I.base.keep b o (I.ok.bs b o e).1 (I.ok.bs b o e).2 (I.ok.nofr e) (I.ok.noex b o e), I.base.free b o (I.ok.bs b o e).1 (I.ok.bs b o e).2 (I.ok.noex b o e)⟩
theorem Inv.bk (I : Inv X pins σ H s) : ∀ b o, X.base.get? b = some o → s.heap.get? b = some o := fun b o e => (I.bs b o e).1
theorem Inv.mod (I : Inv X pins σ H s) : Mod X.K X.mg X.base := I.ok.mod
theorem Inv.kIn (I : Inv X pins σ H s) : X.K.In s.heap := I.ok.mod.kin.keeps I.bk
theorem Inv.nolimit (I : Inv X pins σ H s) : s.heap.NoLimit := I.ok.mod.nolimit.keeps I.bk
/-- the frame over the base: for OpenK's rules (K.In X.base is I.mod.kin) -/
theorem Inv.fr (I : Inv X pins σ H s) : ∃ m, Fr X.base X.env.locals s.heap m :=
  let ⟨m, hn, _⟩ := I.loc
  ⟨m, hn, I.bk, Nat.le_trans I.ok.bsz I.ok.above⟩
theorem Inv.lt (I : Inv X pins σ H s) : X.env.locals < s.heap.objs.size := let ⟨_, hn, _⟩ := I.loc; hn.lt
theorem Inv.sz (I : Inv X pins σ H s) : X.s₀.heap.objs.size ≤ s.heap.objs.size := Nat.le_trans I.ok.above (Nat.le_of_lt I.lt)
theorem Inv.nofs (I : Inv X pins σ H s) {a : Addr} (h : s.heap.objs.size ≤ a) : a ∉ X.fs := fun hb => by
  obtain ⟨_, o, ho, _⟩ := I.ok.funs.mem hb
  exact absurd (Nat.lt_of_lt_of_le (Heap.lt_size ho) (Nat.le_trans I.sz h)) (Nat.lt_irrefl _)
theorem Inv.cne (I : Inv X pins σ H s) : ∀ x c, X.env.cells.lookup x = some c → c ≠ X.env.locals := fun x c e z => by
  obtain ⟨v, o, ho, hd⟩ := I.cell x c e
  obtain ⟨m, ⟨o', es, ep, ho', hd', _⟩, _⟩ := I.loc
  rw [z, ho'] at ho; cases ho; rw [hd'] at hd; cases hd
theorem Inv.funs (I : Inv X pins σ H s) : s.heap.FunFrames X.base X.outer := by
  have all : ∀ (l : List Env), (∀ b ∈ frs l, b ∈ X.fs) → X.s₀.heap.FunFrames X.base l → s.heap.FunFrames X.base l := by
    intro l
    induction l with
    | nil => intro _ _; trivial
    | cons env r ih =>
      intro hs hl
      obtain ⟨hk, ⟨L, o, hf, hn, ho, hd⟩, hr⟩ := hl
      have hL : L ∈ X.fs := hs L (by unfold frs; rw [List.filterMap_cons, hf]; exact List.mem_cons_self)
      obtain ⟨sl, e⟩ := I.base.slot L o ho (I.ok.frf L hL) hL fun z => I.ok.exfs L z hL
      exact ⟨hk, ⟨L, _, hf, hn, e, hd⟩, ih (fun b hb => hs b (by unfold frs; rw [List.filterMap_cons, hf]; exact List.mem_cons_of_mem _ hb)) hr⟩
  exact all X.outer (fun _ hb => hb) I.ok.funs

/-- the frames that run, for a call -/
theorem Inv.stack (I : Inv X pins σ H s) : s.heap.FunFrames X.base X.stack := by
  rcases I.ok.stk with e | ⟨e, hf⟩
  · rw [e]; exact I.funs
  · rw [e]
    obtain ⟨m, hn, _⟩ := I.loc
    refine .cons (by rw [I.ok.kind]; decide) hf hn ?_ I.funs
    exact Heap.get?_none_of_le (Nat.le_trans I.ok.bsz I.ok.above)
theorem Inv.stkSub (I : Inv X pins σ H s) : ∀ b ∈ frs X.stack, b ∈ X.env.locals :: X.fs := fun b hb => by
  rcases I.ok.stk with e | ⟨e, hf⟩
  · rw [e] at hb; exact List.mem_cons_of_mem _ hb
  · rw [e] at hb
    unfold frs at hb
    rw [List.filterMap_cons, hf] at hb
    exact hb
theorem Inv.stkFree (I : Inv X pins σ H s) : ∀ b ∈ frs X.stack, H b = none := fun b hb => by
  rcases List.mem_cons.mp (I.stkSub b hb) with e | hb
  · rw [e]; exact I.free
  · obtain ⟨_, o, ho, _⟩ := I.ok.funs.mem hb
    exact I.base.free b o ho (I.ok.frf b hb) fun z => I.ok.exfs b z hb

/-- THE STEP: the untracked objects but the frame and the records at ch are kept (the callers' frames up to slots), the frame's map is kept, the new abstract heap is held -/
theorem Inv.step {g' : Array GenState} {t' : Nat} {d' : Drawn} {ch : List Addr} (I : Inv X pins σ H s)
    (hch : ∀ b ∈ ch, (b ∈ X.ex ∨ X.s₀.heap.objs.size ≤ b) ∧ b ≠ X.env.locals ∧ (∀ x c, X.env.cells.lookup x = some c → c ≠ b) ∧ ∀ p ∈ X.pn ++ pins, p.1 ≠ b)
    (keep : ∀ b o, b ≠ X.env.locals → b ∉ X.fs → b ∉ ch → s.heap.get? b = some o → H b = none → h'.get? b = some o)
    (slot : ∀ b o, b ≠ X.env.locals → b ∈ X.fs → b ∉ ch → s.heap.get? b = some o → H b = none → ∃ sl, h'.get? b = some { o with slots := sl }) (free : ∀ b o, b ∉ ch → s.heap.get? b = some o → H b = none → H' b = none)
    (there : ∀ b o, b ∉ ch → s.heap.get? b = some o → ∃ o', h'.get? b = some o')
    (tups : ∀ b xs, H b = some (.tup xs) → H' b = some (.tup xs)) (frzs : ∀ b o u, H b = some (.frz o u) → H' b = some (.frz o u)) (tbls : ∀ b ps, H b = some (.tbl ps) → ∃ more, H' b = some (.tbl (ps ++ more)))
    (ns : ∀ m, s.heap.Ns X.env.locals m → h'.Ns X.env.locals m) (hok : HOk X.prog X.w H' h') (hg : AllBare g') :
    Inv X pins σ H' { s with heap := h', gens := g', drawn := d', toks := t' } := by
  have neL : ∀ b o, X.s₀.heap.get? b = some o → b ≠ X.env.locals := fun b o e => Nat.ne_of_lt (Nat.lt_of_lt_of_le (Heap.lt_size e) I.ok.above)
  have neC : ∀ b o, X.s₀.heap.get? b = some o → b ∉ X.ex → b ∉ ch := fun b o e hx hb => by
    rcases (hch b hb).1 with z | z
    · exact hx z
    · exact absurd (Nat.lt_of_lt_of_le (Heap.lt_size e) z) (Nat.lt_irrefl _)
  have cellK : ∀ x c, X.env.cells.lookup x = some c → ∀ v, s.heap.IsCell c v → h'.IsCell c v := fun x c e v ⟨o, ho, hd⟩ => by
    have nch : c ∉ ch := fun z => (hch c z).2.2.1 x c e rfl
    by_cases hc : c ∈ X.fs
    · obtain ⟨sl, q⟩ := slot c o (I.cne x c e) hc nch ho (I.freeC x c e)
      exact ⟨_, q, hd⟩
    · exact ⟨o, keep c o (I.cne x c e) hc nch ho (I.freeC x c e), hd⟩
  refine ⟨I.ok, I.os, hg, ⟨fun b o e n hb hx => ?_, fun b o e n hb hx => ?_, fun b o e n hx => ?_, fun b o e hx => ?_, fun b xs e => tups b xs (I.base.tups b xs e), fun b o xs e => frzs b o xs (I.base.frzs b o xs e), fun b ps e => ?_⟩, ?_, fun x c e => ?_, ?_, fun x c e => ?_, fun p hp => ?_, hok, I.len⟩
  · exact keep b o (neL b o e) hb (neC b o e hx) (I.base.keep b o e n hb hx) (I.base.free b o e n hx)
  · obtain ⟨sl, e1⟩ := I.base.slot b o e n hb hx
    obtain ⟨sl', e2⟩ := slot b _ (neL b o e) hb (neC b o e hx) e1 (I.base.free b o e n hx)
    exact ⟨sl', e2⟩
  · obtain ⟨o', e1⟩ := I.base.there b o e hx
    exact free b o' (neC b o e hx) e1 (I.base.free b o e n hx)
  · obtain ⟨o', e1⟩ := I.base.there b o e hx
    exact there b o' (neC b o e hx) e1
  · obtain ⟨m1, e1⟩ := I.base.tbls b ps e
    obtain ⟨m2, e2⟩ := tbls b _ e1
    exact ⟨m1 ++ m2, by rw [e2, Array.append_assoc]⟩
  · obtain ⟨m, hn, hl⟩ := I.loc
    refine ⟨m, ns m hn, fun i x v e1 e2 e3 => ?_⟩
    obtain ⟨u, r, l⟩ := hl i x v e1 e2 e3
    refine ⟨u, r, ?_⟩
    rcases l with l | ⟨k, c, e, z⟩
    · exact .inl l
    · exact .inr ⟨k, c, e, cellK x c e _ z⟩
  · obtain ⟨v, z⟩ := I.cell x c e
    exact ⟨v, cellK x c e v z⟩
  · obtain ⟨m, ⟨o, _, _, ho, _⟩, _⟩ := I.loc
    exact free _ o (fun z => (hch _ z).2.1 rfl) ho I.free
  · obtain ⟨v, o, ho, hd⟩ := I.cell x c e
    exact free c o (fun z => (hch c z).2.2.1 x c e rfl) ho (I.freeC x c e)
  · obtain ⟨e, n, ne, nf, d⟩ := I.pin p hp
    have nch : p.1 ∉ ch := fun z => (hch p.1 z).2.2.2 p hp rfl
    exact ⟨keep p.1 p.2 ne nf nch e n, free p.1 p.2 nch e n, ne, nf, d⟩
/-- .. where the frame's own object is kept too -/
theorem Inv.un {t' : Nat} (I : Inv X pins σ H s) (u : Un X.fs [] H H' s.heap h') (hok : HOk X.prog X.w H' h') : Inv X pins σ H' { s with heap := h', toks := t' } := by
  obtain ⟨m, ⟨o, es, ep, ho, r⟩, _⟩ := id I.loc
  obtain ⟨sl, hL⟩ := u.any ho I.free (by simp)
  exact I.step (g' := s.gens) (d' := s.drawn) (ch := []) (fun _ z => nomatch z) (fun b o _ hb _ e n => u.keep b o e n hb (by simp)) (fun b o _ hb _ e n => u.slot b o e n hb (by simp)) (fun b o _ e n => u.free b o e n (by simp)) (fun b o _ e => u.there b o e (by simp)) u.tups u.frzs u.tbls (fun m' hm => by
    obtain ⟨o', es', ep', ho', r'⟩ := hm
    rw [ho] at ho'; cases ho'
    exact ⟨_, es', ep', hL, r'⟩) hok I.bare
/-- behind a call (or a comprehension's block): the slots of this frame may have changed too, the records at ch may have turned -/
theorem Inv.call {g' : Array GenState} {t' : Nat} {d' : Drawn} {ch : List Addr} (I : Inv X pins σ H s) (u : Un (frs X.stack) ch H H' s.heap h') (hok : HOk X.prog X.w H' h') (hg : AllBare g')
    (hch : ∀ b ∈ ch, (b ∈ X.ex ∨ X.s₀.heap.objs.size ≤ b) ∧ b ≠ X.env.locals ∧ (∀ x c, X.env.cells.lookup x = some c → c ≠ b) ∧ ∀ p ∈ X.pn ++ pins, p.1 ≠ b) :
    Inv X pins σ H' { s with heap := h', gens := g', drawn := d', toks := t' } := by
  obtain ⟨m, ⟨o, es, ep, ho, r⟩, _⟩ := id I.loc
  obtain ⟨sl, hL⟩ := u.any ho I.free fun z => (hch _ z).2.1 rfl
  exact I.step (ch := ch) hch (fun b o hL hb hc e n => u.keep b o e n (fun z => (List.mem_cons.mp (I.stkSub b z)).elim hL hb) hc) (fun b o _ _ hc e n => u.any e n hc) (fun b o hc e n => u.free b o e n hc) (fun b o hc e => u.there b o e hc) u.tups u.frzs u.tbls (fun m' hm => by
    obtain ⟨o', es', ep', ho', r'⟩ := hm
    rw [ho] at ho'; cases ho'
    exact ⟨_, es', ep', hL, r'⟩) hok hg
/-- an untracked record of ours (an iterator) has turned -/
theorem Inv.turned {t' : Nat} {it : Addr} (I : Inv X pins σ H s) (k : ∀ b o, b ≠ it → s.heap.get? b = some o → h'.get? b = some o) (hn : H it = none) (hL : it ≠ X.env.locals)
    (h1 : it ∈ X.ex ∨ X.s₀.heap.objs.size ≤ it) (h2 : ∀ x c, X.env.cells.lookup x = some c → c ≠ it) (h3 : ∀ p ∈ X.pn ++ pins, p.1 ≠ it) : Inv X pins σ H { s with heap := h', toks := t' } := by
  have nit : ∀ b u, H b = some u → b ≠ it := fun b u e z => by rw [z, hn] at e; cases e
  refine I.step (g' := s.gens) (d' := s.drawn) (ch := [it]) (fun b hb => ?_) (fun b o _ _ hc e _ => k b o (fun z => hc (by simp [z])) e) (fun b o _ _ hc e _ => ⟨o.slots, k b o (fun z => hc (by simp [z])) e⟩) (fun _ _ _ _ n => n)
    (fun b o hc e => ⟨o, k b o (fun z => hc (by simp [z])) e⟩) (fun _ _ e => e) (fun _ _ _ e => e) (fun b ps e => ⟨#[], by rw [e]; simp⟩) (fun m hm => ?_) (fun b u e => ?_) I.bare
  · have e : b = it := by simpa using hb
    subst e
    exact ⟨h1, hL, h2, h3⟩
  · obtain ⟨o, es, ep, ho, r⟩ := hm
    exact ⟨o, es, ep, k _ o (Ne.symm hL) ho, r⟩
  · refine (I.hok b u e).stay (fun c v hc q => k c v ?_ q) (fun _ q => q) fun _ _ q => q
    rcases hc with z | z
    · rw [z]; exact nit b u e
    · exact nit c _ z
theorem Inv.tok (I : Inv X pins σ H s) (t : Nat) : Inv X pins σ H { s with toks := t } := I.un (h' := s.heap) (t' := t) Un.refl I.hok
/-- all objects kept -/
theorem Inv.kept {t' : Nat} (I : Inv X pins σ H s) (k : ∀ b u, s.heap.get? b = some u → h'.get? b = some u) : Inv X pins σ H { s with heap := h', toks := t' } := I.un (Un.kept k) (I.hok.kept k)
/-- a new object laid and tracked -/
theorem Inv.laid {a : Addr} {o : HO} {t' : Nat} (I : Inv X pins σ H s) (k : ∀ b u, s.heap.get? b = some u → h'.get? b = some u) (hp : s.heap.objs.size ≤ a) (new : ObjOk X.prog X.w (upd H a o) h' a o) :
    Inv X pins σ (upd H a o) { s with heap := h', toks := t' } := I.un (Un.laid k hp (I.hok.fresh hp)) (I.hok.laid k hp new)
/-- an object written -/
theorem Inv.write {x e : Addr} {o : HO} {t' : Nat} (I : Inv X pins σ H s) (mu : Mut (H x)) (he : e = x ∨ H e = some (.own x)) (k : ∀ b u, b ≠ e → s.heap.get? b = some u → h'.get? b = some u) (heo : ∃ u, h'.get? e = some u)
    (new : ObjOk X.prog X.w (upd H x o) h' x o) : Inv X pins σ (upd H x o) { s with heap := h', toks := t' } := I.un (Un.write mu he k heo) (I.hok.write mu he k heo new)
/-- forgetting slots, pins -/
theorem Inv.weak {σ' : List (Option V)} (I : Inv X pins σ H s) (hl : σ'.length = σ.length) (w : ∀ (i : Nat) v, σ'[i]? = some (some v) → σ[i]? = some (some v)) : Inv X pins σ' H s :=
  ⟨I.ok, I.os, I.bare, I.base, let ⟨m, hn, hl'⟩ := I.loc; ⟨m, hn, fun i x v e1 e2 e3 => hl' i x v e1 (w i v e2) e3⟩, I.cell, I.free, I.freeC, I.pin, I.hok, hl.trans I.len⟩
theorem Inv.pins_of {pins' : List (Addr × Obj)} (I : Inv X pins σ H s) (h : ∀ p ∈ pins', s.heap.get? p.1 = some p.2 ∧ H p.1 = none ∧ p.1 ≠ X.env.locals ∧ p.1 ∉ X.fs ∧ ∀ v, p.2.data ≠ .cell v) : Inv X pins' σ H s :=
  ⟨I.ok, I.os, I.bare, I.base, I.loc, I.cell, I.free, I.freeC, fun p hp => (List.mem_append.mp hp).elim (fun z => I.pin p (List.mem_append_left _ z)) (h p), I.hok, I.len⟩

theorem nodup_ix {N : List Str} (hN : N.Nodup) {i j : Nat} {x : Str} (a : N[i]? = some x) (b : N[j]? = some x) : i = j := by
  obtain ⟨h1, e1⟩ := List.getElem?_eq_some_iff.mp a
  obtain ⟨h2, e2⟩ := List.getElem?_eq_some_iff.mp b
  exact (List.getElem_inj hN).mp (e1.trans e2.symm)

/-- a name is stored; what changed -/
theorem store_ok2 {M : Model} {A : Around} {E : Value → Shared → Prop} {i : Nat} {x : Str} {v : V} {u : Value} {Q : Unit → Shared → Prop} (I : Inv X pins σ H s) (hN : X.N.Nodup) (hi : X.N[i]? = some x) (hx : Loc X.env.scope x) (r : RelV v u)
    (h : ∀ s', Inv X pins (σ.set i (some v)) H s' → (∃ a, Heap.SameBut a s.heap s'.heap ∧ (a = X.env.locals ∨ X.env.cells.lookup x = some a)) → Q () s') (hf : X.fn x = true ∨ X.env.scope.names.lookup x = some .local := by first | exact .inl rfl | exact .inr rfl | assumption) : wpAny M A (storeName X.env x u) Q E s := by
  obtain ⟨m, hn, hl⟩ := id I.loc
  have hcls : (X.env.scope.kind == .class || (X.env.scope.kind == .module && X.env.locals != X.env.globals)) = false := by rw [I.ok.kind]; rfl
  have hiσ : i < σ.length := by rw [I.len]; exact (List.getElem?_eq_some_iff.mp hi).1
  have cne := I.cne
  have tracked : ∀ {a : Addr} {h' : Heap}, (∃ o, s.heap.get? a = some o ∧ H a = none) → Heap.SameBut a s.heap h' → HOk X.prog X.w H h' := fun {a h'} ha hs b ob e => by
    obtain ⟨_, _, hfree⟩ := ha
    refine (I.hok b ob e).stay (fun c w' hc q => (hs.2 c ?_).trans q) (fun _ q => q) fun _ _ q => q
    rintro rfl
    rcases hc with rfl | hc
    · rw [hfree] at e; cases e
    · rw [hfree] at hc; cases hc
  rcases hx with hk | hk
  · refine wpAny_storeName_local hk hn (fun h' hn' hs => ?_) hcls
    obtain ⟨oL, _, _, hoL, _⟩ := id hn
    refine h _ ⟨I.ok, I.os, I.bare, ⟨fun b o e n hb hx => ?_, fun b o e n hb hx => ?_, I.base.free, fun b o e hx => ?_, I.base.tups, I.base.frzs, I.base.tbls⟩, ⟨_, hn', fun j y v' e1 e2 e3 => ?_⟩, fun y c e => ?_, I.free, I.freeC, fun p hp => ?_, tracked ⟨oL, hoL, I.free⟩ hs, by simpa using I.len⟩ ⟨_, hs, .inl rfl⟩
    · exact (hs.2 b (Nat.ne_of_lt (Nat.lt_of_lt_of_le (Heap.lt_size e) I.ok.above))).trans (I.base.keep b o e n hb hx)
    · obtain ⟨sl, e1⟩ := I.base.slot b o e n hb hx
      exact ⟨sl, (hs.2 b (Nat.ne_of_lt (Nat.lt_of_lt_of_le (Heap.lt_size e) I.ok.above))).trans e1⟩
    · obtain ⟨o', e1⟩ := I.base.there b o e hx
      exact ⟨o', (hs.2 b (Nat.ne_of_lt (Nat.lt_of_lt_of_le (Heap.lt_size e) I.ok.above))).trans e1⟩
    · by_cases hj : j = i
      · subst hj
        rw [hi] at e1; cases e1
        rw [List.getElem?_set_self hiσ] at e2
        cases e2
        exact ⟨u, r, .inl ⟨hk, by simp⟩⟩
      · rw [List.getElem?_set_ne (Ne.symm hj)] at e2
        obtain ⟨u', r', q⟩ := hl j y v' e1 e2 e3
        refine ⟨u', r', ?_⟩
        rcases q with ⟨k, e⟩ | ⟨k, c, e, z⟩
        · refine .inl ⟨k, ?_⟩
          have : y ≠ x := fun e => hj (nodup_ix hN e1 (e ▸ hi))
          simp [this, e]
        · exact .inr ⟨k, c, e, z.sameBut hs (cne y c e)⟩
    · obtain ⟨w', z⟩ := I.cell y c e
      exact ⟨w', z.sameBut hs (cne y c e)⟩
    · obtain ⟨e, n, ne, nf, d⟩ := I.pin p hp
      exact ⟨(hs.2 p.1 ne).trans e, n, ne, nf, d⟩
  · have hfn : X.fn x = true := by
      rcases hf with z | z
      · exact z
      · rw [z] at hk; cases hk
    obtain ⟨c, hc⟩ := I.ok.has x (.inl hk)
    obtain ⟨w', z⟩ := I.cell x c hc
    refine wpAny_storeName_cell I.ok.kind hk hc z (fun h' hc' hs => ?_)
    obtain ⟨oc, hoc, hocd⟩ := id z
    refine h { s with heap := h' } ⟨I.ok, I.os, I.bare, ⟨fun b o e n hb hx => ?_, fun b o e n hb hx => ?_, I.base.free, fun b o e hx => ?_, I.base.tups, I.base.frzs, I.base.tbls⟩, ⟨m, hn.sameBut hs (Ne.symm (cne x c hc)), fun j y v' e1 e2 e3 => ?_⟩, fun y c' e => ?_, I.free, I.freeC, fun p hp => ?_, tracked ⟨oc, hoc, I.freeC x c hc⟩ hs, by simpa using I.len⟩ ⟨c, hs, .inr hc⟩
    · exact (hs.2 b (Nat.ne_of_lt (Nat.lt_of_lt_of_le (Heap.lt_size e) (I.ok.cab x c hfn hc)))).trans (I.base.keep b o e n hb hx)
    · obtain ⟨sl, e1⟩ := I.base.slot b o e n hb hx
      exact ⟨sl, (hs.2 b (Nat.ne_of_lt (Nat.lt_of_lt_of_le (Heap.lt_size e) (I.ok.cab x c hfn hc)))).trans e1⟩
    · obtain ⟨o', e1⟩ := I.base.there b o e hx
      exact ⟨o', (hs.2 b (Nat.ne_of_lt (Nat.lt_of_lt_of_le (Heap.lt_size e) (I.ok.cab x c hfn hc)))).trans e1⟩
    · by_cases hj : j = i
      · subst hj
        rw [hi] at e1; cases e1
        rw [List.getElem?_set_self hiσ] at e2
        cases e2
        exact ⟨u, r, .inr ⟨.inl hk, c, hc, hc'⟩⟩
      · rw [List.getElem?_set_ne (Ne.symm hj)] at e2
        obtain ⟨u', r', q⟩ := hl j y v' e1 e2 e3
        refine ⟨u', r', ?_⟩
        rcases q with q | ⟨k, c', e, z'⟩
        · exact .inl q
        · refine .inr ⟨k, c', e, z'.sameBut hs ?_⟩
          rintro rfl
          exact hj (nodup_ix hN e1 (I.ok.inj _ _ _ e hc ▸ hi))
    · by_cases hcc : c' = c
      · subst hcc; exact ⟨_, hc'⟩
      · obtain ⟨w2, z2⟩ := I.cell y c' e
        exact ⟨w2, z2.sameBut hs hcc⟩
    · obtain ⟨e, n, ne, nf, d⟩ := I.pin p hp
      refine ⟨(hs.2 p.1 ?_).trans e, n, ne, nf, d⟩
      intro q
      rw [q, hoc] at e
      have q' : oc = p.2 := Option.some.inj e
      exact d w' (by rw [← q']; exact hocd)
theorem store_ok {M : Model} {A : Around} {E : Value → Shared → Prop} {i : Nat} {x : Str} {v : V} {u : Value} {Q : Unit → Shared → Prop} (I : Inv X pins σ H s) (hN : X.N.Nodup) (hi : X.N[i]? = some x) (hx : Loc X.env.scope x) (r : RelV v u)
    (h : ∀ s', Inv X pins (σ.set i (some v)) H s' → Q () s') (hf : X.fn x = true ∨ X.env.scope.names.lookup x = some .local := by first | exact .inl rfl | exact .inr rfl | assumption) : wpAny M A (storeName X.env x u) Q E s :=
  store_ok2 I hN hi hx r (fun s' I' _ => h s' I') hf
/-- behind a call or a block, the state as it is -/
theorem Inv.call' {s' : Shared} {ch : List Addr} (I : Inv X pins σ H s) (ho : s'.os = s.os) (u : Un (frs X.stack) ch H H' s.heap s'.heap) (hok : HOk X.prog X.w H' s'.heap) (hg : AllBare s'.gens)
    (hch : ∀ b ∈ ch, (b ∈ X.ex ∨ X.s₀.heap.objs.size ≤ b) ∧ b ≠ X.env.locals ∧ (∀ x c, X.env.cells.lookup x = some c → c ≠ b) ∧ ∀ p ∈ X.pn ++ pins, p.1 ≠ b) : Inv X pins σ H' s' := by
  obtain ⟨h', g', d', t', o'⟩ := s'
  have e : o' = s.os := ho
  subst e
  exact I.call (g' := g') (t' := t') (d' := d') u hok hg hch
end

/-! ### the judgements -/
/-- an exception: its class, its own dict's address (where it has one), the abstract heap behind it -/
abbrev XK := Value → Option Addr → Hp → Prop
abbrev St := List (Option V)
abbrev VK := V → Hp → Prop
/-- an expression's reading; a test's; an argument list's -/
abbrev TE := St → Hp → VK → Prop
abbrev TT := St → Hp → (Bool → Hp → Prop) → Prop
abbrev TA := St → Hp → (List V → Hp → Prop) → Prop
/-- what is wanted behind a statement -/
structure Ends where
  nx : St → Hp → Prop
  rt : VK
  bk : St → Hp → Prop := fun _ _ => False
  ct : St → Hp → Prop := fun _ _ => False
abbrev TS := Ends → St → Hp → Prop

def EP (X : Cx) (pins : List (Addr × Obj)) (σ : St) (Q : VK) (u : Value) (s' : Shared) : Prop := ∃ v H', Inv X pins σ H' s' ∧ RelV v u ∧ Q v H'
def TP (X : Cx) (pins : List (Addr × Obj)) (σ : St) (Q : Bool → Hp → Prop) (b : Bool) (s' : Shared) : Prop := ∃ H', Inv X pins σ H' s' ∧ Q b H'
def AP (X : Cx) (pins : List (Addr × Obj)) (σ : St) (Q : List V → Hp → Prop) (us : List Value) (s' : Shared) : Prop := ∃ vs H', Inv X pins σ H' s' ∧ Vals vs us ∧ Q vs H'
def SP (X : Cx) (pins : List (Addr × Obj)) (D : Ends) (f : Flow) (s' : Shared) : Prop :=
  match f with
  | .next => ∃ σ' H', Inv X pins σ' H' s' ∧ D.nx σ' H'
  | .brk => ∃ σ' H', Inv X pins σ' H' s' ∧ D.bk σ' H'
  | .cont => ∃ σ' H', Inv X pins σ' H' s' ∧ D.ct σ' H'
  | .ret u => ∃ v σ' H', Inv X pins σ' H' s' ∧ RelV v u ∧ D.rt v H'

def PE (X : Cx) (e : Expr) (t : TE) : Prop :=
  ∀ (pins : List (Addr × Obj)) (s : Shared) (σ : St) (H : Hp) (Q : VK), Inv X pins σ H s → t σ H Q → wpAny (model X.prog X.w) X.A (eval e X.env) (EP X pins σ Q) X.xe s
def PT (X : Cx) (e : Expr) (t : TT) : Prop :=
  ∀ (pins : List (Addr × Obj)) (s : Shared) (σ : St) (H : Hp) (Q : Bool → Hp → Prop), Inv X pins σ H s → t σ H Q → wpAny (model X.prog X.w) X.A (isTrue e X.env (eval e X.env)) (TP X pins σ Q) X.xe s
/-- a test whatever its 'whole' is (and, or) -/
def PW (X : Cx) (e : Expr) (t : TT) : Prop :=
  ∀ (whole : Sem Value) (pins : List (Addr × Obj)) (s : Shared) (σ : St) (H : Hp) (Q : Bool → Hp → Prop), Inv X pins σ H s → t σ H Q → wpAny (model X.prog X.w) X.A (isTrue e X.env whole) (TP X pins σ Q) X.xe s
theorem PW.pt {X : Cx} {e : Expr} {t : TT} (h : PW X e t) : PT X e t := h _
/-- an argument list (no star), from the left -/
def PA (X : Cx) (es : List Expr) (t : TA) : Prop :=
  ∀ (pos : Pos) (pins : List (Addr × Obj)) (s : Shared) (σ : St) (H : Hp) (Q : List V → Hp → Prop), Inv X pins σ H s → t σ H Q → wpAny (model X.prog X.w) X.A (spliced (backTo pos (starEach es X.env))) (AP X pins σ Q) X.xe s
def PS (X : Cx) (st : Stmt) (t : TS) : Prop :=
  ∀ (pins : List (Addr × Obj)) (s : Shared) (σ : St) (H : Hp) (D : Ends), Inv X pins σ H s → t D σ H → wpAny (model X.prog X.w) X.A (exec st X.env) (SP X pins D) X.xe s
def PSs (X : Cx) (st : List Stmt) (t : TS) : Prop :=
  ∀ (pins : List (Addr × Obj)) (s : Shared) (σ : St) (H : Hp) (D : Ends), Inv X pins σ H s → t D σ H → wpAny (model X.prog X.w) X.A (execs st X.env) (SP X pins D) X.xe s
/-- weaken the end -/
theorem thn {α : Type} {t : Sem α} {Q Q' : α → Shared → Prop} {M : Model} {A : Around} {E : Value → Shared → Prop} {s : Shared} (h : wpAny M A t Q E s) (hQ : ∀ a s, Q a s → Q' a s) : wpAny M A t Q' E s := wpAny_mono h hQ fun _ _ x => x
end L2

namespace L2
open PySem PySem.Spec PyProof.Rows
section
variable {X : Cx}

/-- two expressions in a row -/
theorem bin {a b : Expr} {ta tb : TE} (ha : PE X a ta) (hb : PE X b tb) {pins : List (Addr × Obj)} {s : Shared} {σ : St} {H : Hp} {R : V → V → Hp → Prop} (I : Inv X pins σ H s) (h : ta σ H fun x H1 => tb σ H1 fun y H2 => R x y H2)
    {α : Type} {Q : α → Shared → Prop} {f : Value → Value → Sem α}
    (hf : ∀ v u s2 x y H2, Inv X pins σ H2 s2 → RelV x v → RelV y u → R x y H2 → wpAny (model X.prog X.w) X.A (f v u) Q X.xe s2) :
    wpAny (model X.prog X.w) X.A (eval a X.env) (fun v s₁ => wpAny (model X.prog X.w) X.A (eval b X.env) (fun u s₂ => wpAny (model X.prog X.w) X.A (f v u) Q X.xe s₂) X.xe s₁) X.xe s := by
  refine thn (ha pins s σ H _ I h) fun v s1 ⟨x, H1, I1, r1, q1⟩ => ?_
  refine thn (hb pins s1 σ H1 _ I1 q1) fun u s2 ⟨y, H2, I2, r2, q2⟩ => ?_
  exact hf v u s2 x y H2 I2 r1 r2 q2

/-! ### names and constants -/
def tVar (i : Nat) : TE := fun σ H Q => ∃ v, σ[i]? = some (some v) ∧ Q v H
def tC (v : V) : TE := fun _ H Q => Q v H
theorem pe_var {i : Nat} {x : Str} {pos : Pos} (hN : X.N[i]? = some x) (hv : Vis X.env.scope x) (hd : (x == ("__debug__" : Str)) = false := by decide) (hcd : (x == ("__classdict__" : Str)) = false := by decide) : PE X (.Name x pos) (tVar i) := by
  intro pins s σ H Q I h
  obtain ⟨v, e, h⟩ := h
  obtain ⟨m, hn, hl⟩ := I.loc
  obtain ⟨u, r, l⟩ := hl i x v hN e hv
  have fin : EP X pins σ Q u s := ⟨v, H, I, r, h⟩
  rcases l with ⟨hk, hm⟩ | ⟨hk, c, hc, hcell⟩
  · exact wpAny_Name (wpAny_loadName_local I.ok.kind hk hn hm fin) hd
  · rcases hk with hk | hk
    · exact wpAny_Name (wpAny_loadName_cell I.ok.kind hk hc hcell fin) hd
    · exact wpAny_Name (wpAny_loadName_free I.ok.kind hk hc hcell fin hcd) hd
theorem pe_int {i j pos} : PE X (.Constant (.int i) j pos) (tC (.int i)) := fun _ _ _ H _ I h => wpAny_Constant_int ⟨.int i, H, I.tok _, ⟨_, rfl⟩, h⟩
theorem pe_bl {b j pos} : PE X (.Constant (.bool b) j pos) (tC (.bl b)) := fun _ _ _ H _ I h => Constant_bool ⟨.bl b, H, I, rfl, h⟩
theorem pe_non {j pos} : PE X (.Constant .none j pos) (tC .non) := fun _ _ _ H _ I h => Constant_none ⟨.non, H, I, rfl, h⟩
theorem pe_str {x j pos} : PE X (.Constant (.str x) j pos) (tC (.str x)) := fun _ _ _ H _ I h => Calls.Constant_str ⟨.str x, H, I.tok _, ⟨_, rfl⟩, h⟩

/-- a global name of the def -/
def Gl (X : Cx) (x : Str) : Prop := X.env.kindOf x = some .globalImplicit
theorem ld_glob {E : Value → Shared → Prop} {pins : List (Addr × Obj)} {s : Shared} {σ : St} {H : Hp} {x : Str} {u : Value} {pos : Pos} {Q : Value → Shared → Prop} (I : Inv X pins σ H s) (hg : Gl X x) (hm : X.mg x = some u) (h : Q u s)
    (hd : (x == ("__debug__" : Str)) = false := by decide) : wpAny (model X.prog X.w) X.A (eval (.Name x pos) X.env) Q E s :=
  Calls.Name_function_global I.ok.kind hg (Calls.loadGlobal_global (by rw [I.ok.glob]; exact I.mod.glob.keeps I.bk) hm h) hd
theorem ld_blt {E : Value → Shared → Prop} {pins : List (Addr × Obj)} {s : Shared} {σ : St} {H : Hp} {x : Str} {u : Value} {pos : Pos} {Q : Value → Shared → Prop} (I : Inv X pins σ H s) (hg : Gl X x) (hm : X.mg x = none) (hv : bootBuiltins x = some u) (h : Q u s)
    (hn : x ≠ "__name__" := by decide) (hd : (x == ("__debug__" : Str)) = false := by decide) : wpAny (model X.prog X.w) X.A (eval (.Name x pos) X.env) Q E s := by
  obtain ⟨mb, h1, h2⟩ := I.mod.blt
  exact Calls.Name_function_global I.ok.kind hg (Calls.loadGlobal_builtin (by rw [I.ok.glob]; exact I.mod.glob.keeps I.bk) hm (by rw [I.ok.blt]; exact h1.keeps I.bk) ((h2 x hn).trans hv) h) hd
/-- a module's constant, a class, a function, as a value -/
theorem pe_glob {x : Str} {v : V} {u : Value} {pos : Pos} (hg : Gl X x) (hm : X.mg x = some u) (r : RelV v u) (hd : (x == ("__debug__" : Str)) = false := by decide) : PE X (.Name x pos) (tC v) :=
  fun _ _ _ H _ I h => ld_glob I hg hm ⟨v, H, I, r, h⟩ hd
theorem pe_bltn {x : Str} {v : V} {u : Value} {pos : Pos} (hg : Gl X x) (hm : X.mg x = none) (hv : bootBuiltins x = some u) (r : RelV v u) (hn : x ≠ "__name__" := by decide) (hd : (x == ("__debug__" : Str)) = false := by decide) : PE X (.Name x pos) (tC v) :=
  fun _ _ _ H _ I h => ld_blt I hg hm hv ⟨v, H, I, r, h⟩ hn hd

/-! ### arithmetic -/
/-- two ints -/
def t2I (ta tb : TE) (k : Int → Int → Hp → Prop) : St → Hp → Prop := fun σ H => ta σ H fun x H1 => tb σ H1 fun y H2 => ∃ i j, x = .int i ∧ y = .int j ∧ k i j H2
def tAdd (ta tb : TE) : TE := fun σ H Q => t2I ta tb (fun i j H2 => Q (.int (i + j)) H2) σ H
def tSub (ta tb : TE) : TE := fun σ H Q => t2I ta tb (fun i j H2 => Q (.int (i - j)) H2) σ H
/-- the left factor below 2^64 -/
def tMul (ta tb : TE) : TE := fun σ H Q => t2I ta tb (fun i j H2 => (-(2 ^ 64) < i ∧ i < 2 ^ 64) ∧ Q (.int (i * j)) H2) σ H
variable {a b : Expr} {ta tb : TE} {pos : Pos}
theorem pe_add (ha : PE X a ta) (hb : PE X b tb) : PE X (.BinOp a .Add b pos) (tAdd ta tb) := by
  intro pins s σ H Q I h
  refine wpAny_BinOp (bin ha hb I h fun v u s2 x y H2 I2 rx ry q => ?_)
  obtain ⟨i, j, rfl, rfl, q⟩ := q
  obtain ⟨t, rfl⟩ := rx
  obtain ⟨t', rfl⟩ := ry
  exact add_int ⟨.int _, H2, I2.tok _, ⟨_, rfl⟩, q⟩
theorem pe_sub (ha : PE X a ta) (hb : PE X b tb) : PE X (.BinOp a .Sub b pos) (tSub ta tb) := by
  intro pins s σ H Q I h
  refine wpAny_BinOp (bin ha hb I h fun v u s2 x y H2 I2 rx ry q => ?_)
  obtain ⟨i, j, rfl, rfl, q⟩ := q
  obtain ⟨t, rfl⟩ := rx
  obtain ⟨t', rfl⟩ := ry
  exact sub_int ⟨.int _, H2, I2.tok _, ⟨_, rfl⟩, q⟩
theorem pe_mul (ha : PE X a ta) (hb : PE X b tb) : PE X (.BinOp a .Mult b pos) (tMul ta tb) := by
  intro pins s σ H Q I h
  refine wpAny_BinOp (bin ha hb I h fun v u s2 x y H2 I2 rx ry q => ?_)
  obtain ⟨i, j, rfl, rfl, ⟨q1, q2⟩, q⟩ := q
  obtain ⟨t, rfl⟩ := rx
  obtain ⟨t', rfl⟩ := ry
  exact mul_int ⟨.int _, H2, I2.tok _, ⟨_, rfl⟩, q⟩ (.of_left (intBits_le_64 q1 q2))

/-! ### comparisons -/
def PC (X : Cx) (op : CmpOp) (a b : Expr) (t : TE) : Prop :=
  ∀ (pins : List (Addr × Obj)) (s : Shared) (σ : St) (H : Hp) (Q : VK), Inv X pins σ H s → t σ H Q →
    wpAny (model X.prog X.w) X.A (eval a X.env) (fun v s₁ => wpAny (model X.prog X.w) X.A (eval b X.env) (fun u s₂ => wpAny (model X.prog X.w) X.A (compareOp op v u) (EP X pins σ Q) X.xe s₂) X.xe s₁) X.xe s
theorem nobehind (b : Expr) {op : CmpOp} (h : op ≠ .In) (h2 : op ≠ .NotIn) : behindInMarks op b = false := by
  have e1 : (op == CmpOp.In) = false := by cases op <;> first | rfl | exact absurd rfl h
  have e2 : (op == CmpOp.NotIn) = false := by cases op <;> first | rfl | exact absurd rfl h2
  cases b <;> simp [behindInMarks, e1, e2]
def tCmp (p : Int → Int → Bool) (ta tb : TE) : TE := fun σ H Q => t2I ta tb (fun i j H2 => Q (.bl (p i j)) H2) σ H
abbrev tLt : TE → TE → TE := tCmp fun i j => decide (i < j)
abbrev tLe : TE → TE → TE := tCmp fun i j => decide (i ≤ j)
abbrev tGt : TE → TE → TE := tCmp fun i j => decide (j < i)
abbrev tGe : TE → TE → TE := tCmp fun i j => decide (j ≤ i)
abbrev tEqI : TE → TE → TE := tCmp fun i j => decide (i = j)
abbrev tNeI : TE → TE → TE := tCmp fun i j => !decide (i = j)
/-- a comparison of two ints, by its rule -/
theorem pc_int {op : CmpOp} {p : Int → Int → Bool} (ha : PE X a ta) (hb : PE X b tb)
    (rule : ∀ (i j : Int) (t u : Tok) (Q : Value → Shared → Prop) (s : Shared), Q (.bool (p i j)) s → wpAny (model X.prog X.w) X.A (compareOp op (.int i t) (.int j u)) Q X.xe s) : PC X op a b (tCmp p ta tb) := by
  intro pins s σ H Q I h
  refine bin ha hb I h fun v u s2 x y H2 I2 rx ry q => ?_
  obtain ⟨i, j, rfl, rfl, q⟩ := q
  obtain ⟨t, rfl⟩ := rx
  obtain ⟨t', rfl⟩ := ry
  exact rule i j t t' _ s2 ⟨.bl _, H2, I2, rfl, q⟩
theorem pc_lt (ha : PE X a ta) (hb : PE X b tb) : PC X .Lt a b (tLt ta tb) := pc_int ha hb fun _ _ _ _ _ _ h => lt_int h
theorem pc_le (ha : PE X a ta) (hb : PE X b tb) : PC X .LtE a b (tLe ta tb) := pc_int ha hb fun _ _ _ _ _ _ h => le_int h
theorem pc_gt (ha : PE X a ta) (hb : PE X b tb) : PC X .Gt a b (tGt ta tb) := pc_int ha hb fun _ _ _ _ _ _ h => gt_int h
theorem pc_ge (ha : PE X a ta) (hb : PE X b tb) : PC X .GtE a b (tGe ta tb) := pc_int ha hb fun _ _ _ _ _ _ h => ge_int h
theorem pc_eqI (ha : PE X a ta) (hb : PE X b tb) : PC X .Eq a b (tEqI ta tb) := pc_int ha hb fun _ _ _ _ _ _ h => eq_int (by rw [Bool.beq_eq_decide_eq]; exact h)
theorem pc_neI (ha : PE X a ta) (hb : PE X b tb) : PC X .NotEq a b (tNeI ta tb) := pc_int ha hb fun _ _ _ _ _ _ h => ne_int (by rw [bne, Bool.beq_eq_decide_eq]; exact h)
/-- is None -/
def tIsN (ta : TE) : TE := fun σ H Q => ta σ H fun x H1 => Q (.bl (decide (x = .non))) H1
def tNotN (ta : TE) : TE := fun σ H Q => ta σ H fun x H1 => Q (.bl (!decide (x = .non))) H1
theorem RelV.none_iff {x : V} {v : Value} (r : RelV x v) : (v == Value.none) = decide (x = .non) := by
  cases x with
  | non => cases r; rfl
  | bl _ => cases r; rfl
  | int _ => obtain ⟨t, rfl⟩ := r; rfl
  | str _ => obtain ⟨t, rfl⟩ := r; rfl
  | byt _ => obtain ⟨t, rfl⟩ := r; rfl
  | flt _ => obtain ⟨t, rfl⟩ := r; rfl
  | ref _ => cases r; rfl
  | ty _ => cases r; rfl
theorem pc_isN {j pos'} (ha : PE X a ta) : PC X .Is a (.Constant .none j pos') (tIsN ta) := by
  intro pins s σ H Q I h
  refine thn (ha pins s σ H _ I h) fun v s1 ⟨x, H1, I1, r1, q1⟩ => ?_
  exact Constant_none (is_none_gen ⟨.bl _, H1, I1, by rw [r1.none_iff]; rfl, q1⟩)
theorem pc_notN {j pos'} (ha : PE X a ta) : PC X .IsNot a (.Constant .none j pos') (tNotN ta) := by
  intro pins s σ H Q I h
  refine thn (ha pins s σ H _ I h) fun v s1 ⟨x, H1, I1, r1, q1⟩ => ?_
  exact Constant_none (isnot_none_gen ⟨.bl _, H1, I1, by rw [r1.none_iff]; rfl, q1⟩)
/-- a comparison as a value, as a test -/
def tB (t : TE) : TT := fun σ H Q => t σ H fun x H1 => ∃ c, x = .bl c ∧ Q c H1
theorem pe_cmp {op : CmpOp} {t : TE} (h : PC X op a b t) (h1 : behindInMarks op b = false := by first | exact nobehind _ (by decide) (by decide) | rfl) : PE X (.Compare a [op] [b] pos) t := fun pins s σ H Q I hw => wpAny_Compare1 (h pins s σ H Q I hw) h1
theorem pt_cmp {op : CmpOp} {t : TE} (h : PC X op a b t) (h1 : behindInMarks op b = false := by first | exact nobehind _ (by decide) (by decide) | rfl) : PT X (.Compare a [op] [b] pos) (tB t) := by
  intro pins s σ H Q I hw
  refine wpAny_isTrue_Compare1 (thn (h pins s σ H _ I hw) fun v s1 h1 => thn h1 fun u s2 h2 => thn h2 fun c s3 ⟨x, H1, I1, r1, q1⟩ => ?_) h1
  obtain ⟨d, rfl, q⟩ := q1
  cases r1
  exact wpAny_truthy_bool ⟨H1, I1, q⟩
/-- an expression whose value is a bool, as a test -/
theorem pt_val {e : Expr} {t : TE} (h : PE X e t) (he : ∀ whole, isTrue e X.env whole = (do let v ← whole; standAt e.pos; holding [v] (truthy v)) := by intro _; rfl) : PT X e (tB t) := by
  intro pins s σ H Q I hw
  refine isTrue_plain (thn (h pins s σ H _ I hw) fun v s1 ⟨x, H1, I1, r1, q1⟩ => ?_) (he _)
  obtain ⟨d, rfl, q⟩ := q1
  cases r1
  exact wpAny_truthy_bool ⟨H1, I1, q⟩

/-! ### and, or, not -/
variable {tA tB' : TT} {rest : List Expr}
def tAnd (t u : TT) : TT := fun σ H Q => t σ H fun c H1 => if c = true then u σ H1 Q else Q false H1
def tOr (t u : TT) : TT := fun σ H Q => t σ H fun c H1 => if c = true then Q true H1 else u σ H1 Q
def tNot (t : TT) : TT := fun σ H Q => t σ H fun c H1 => Q (!c) H1
theorem pw_and1 (ha : PT X a tA) : PW X (.BoolOp .And [a] pos) tA := by
  intro wh pins s σ H Q I h
  refine isTrue_and (thn (ha pins s σ H Q I h) fun c s1 e => ?_)
  cases c with
  | true => exact isTrue_and_nil e
  | false => exact e
theorem pw_or1 (ha : PT X a tA) : PW X (.BoolOp .Or [a] pos) tA := by
  intro wh pins s σ H Q I h
  refine isTrue_or (thn (ha pins s σ H Q I h) fun c s1 e => ?_)
  cases c with
  | false => exact isTrue_or_nil e
  | true => exact e
theorem pw_and (ha : PT X a tA) (hb : PW X (.BoolOp .And (b :: rest) pos) tB') : PW X (.BoolOp .And (a :: b :: rest) pos) (tAnd tA tB') := by
  intro wh pins s σ H Q I h
  refine isTrue_and (thn (ha pins s σ H _ I h) fun c s1 ⟨H1, I1, q1⟩ => ?_)
  cases c with
  | true => exact hb wh pins s1 σ H1 Q I1 q1
  | false => exact ⟨H1, I1, q1⟩
theorem pw_or (ha : PT X a tA) (hb : PW X (.BoolOp .Or (b :: rest) pos) tB') : PW X (.BoolOp .Or (a :: b :: rest) pos) (tOr tA tB') := by
  intro wh pins s σ H Q I h
  refine isTrue_or (thn (ha pins s σ H _ I h) fun c s1 ⟨H1, I1, q1⟩ => ?_)
  cases c with
  | true => exact ⟨H1, I1, q1⟩
  | false => exact hb wh pins s1 σ H1 Q I1 q1
theorem pt_not (ha : PT X a tA) : PT X (.UnaryOp .Not a pos) (tNot tA) := by
  intro pins s σ H Q I h
  exact isTrue_not (ha pins s σ H (fun c H1 => Q (!c) H1) I h)
/-- .. as values (bools) -/
def tAndV (ta tb : TE) : TE := fun σ H Q => ta σ H fun x H1 => ∃ c, x = .bl c ∧ if c = true then tb σ H1 Q else Q (.bl false) H1
def tOrV (ta tb : TE) : TE := fun σ H Q => ta σ H fun x H1 => ∃ c, x = .bl c ∧ if c = true then Q (.bl true) H1 else tb σ H1 Q
def tNotV (ta : TE) : TE := fun σ H Q => ta σ H fun x H1 => ∃ c, x = .bl c ∧ Q (.bl (!c)) H1
theorem pe_one {op} {t : TE} (h : PE X a t) : PE X (.BoolOp op [a] pos) t := fun pins s σ H Q I hw => BoolOp_one (h pins s σ H Q I hw)
theorem pe_and (ha : PE X a ta) (hb : PE X (.BoolOp .And (b :: rest) pos) tb) : PE X (.BoolOp .And (a :: b :: rest) pos) (tAndV ta tb) := by
  intro pins s σ H Q I h
  refine BoolOp_and (thn (ha pins s σ H _ I h) fun v s1 ⟨x, H1, I1, r1, q1⟩ => ?_)
  obtain ⟨c, rfl, q1⟩ := q1
  cases r1
  refine wpAny_truthy_bool ?_
  cases c with
  | true => exact hb pins s1 σ H1 Q I1 q1
  | false => exact ⟨.bl false, H1, I1, rfl, q1⟩
theorem pe_or (ha : PE X a ta) (hb : PE X (.BoolOp .Or (b :: rest) pos) tb) : PE X (.BoolOp .Or (a :: b :: rest) pos) (tOrV ta tb) := by
  intro pins s σ H Q I h
  refine BoolOp_or (thn (ha pins s σ H _ I h) fun v s1 ⟨x, H1, I1, r1, q1⟩ => ?_)
  obtain ⟨c, rfl, q1⟩ := q1
  cases r1
  refine wpAny_truthy_bool ?_
  cases c with
  | false => exact hb pins s1 σ H1 Q I1 q1
  | true => exact ⟨.bl true, H1, I1, rfl, q1⟩
theorem pe_not (ha : PE X a ta) : PE X (.UnaryOp .Not a pos) (tNotV ta) := by
  intro pins s σ H Q I h
  refine UnaryOp_ (thn (ha pins s σ H _ I h) fun v s1 ⟨x, H1, I1, r1, q1⟩ => ?_)
  obtain ⟨c, rfl, q1⟩ := q1
  cases r1
  exact not_of (wpAny_truthy_bool ⟨.bl (!c), H1, I1, rfl, q1⟩)
/-- a if t else b -/
def tIf (t : TT) (ta tb : TE) : TE := fun σ H Q => t σ H fun c H1 => if c = true then ta σ H1 Q else tb σ H1 Q
theorem pe_ifExp {c : Expr} (hc : PT X c tA) (ha : PE X a ta) (hb : PE X b tb) : PE X (.IfExp c a b pos) (tIf tA ta tb) := by
  intro pins s σ H Q I h
  refine wpAny_IfExp (thn (hc pins s σ H _ I h) fun d s1 ⟨H1, I1, q1⟩ => ?_)
  cases d with
  | true => exact ha pins s1 σ H1 Q I1 q1
  | false => exact hb pins s1 σ H1 Q I1 q1
end
end L2

namespace L2
open PySem PySem.Spec PyProof.Rows

/-! ### a list, a tuple that is read: tracked, frozen, or an object of the module -/
def SqL (K : PySem.W.Frag) (H : Hp) (a : Addr) (xs : List V) : Prop :=
  Rd H a (.lst xs) ∨
    ∃ (o : Obj) (its : Array Value) (n : Nat), K.lookup a = some o ∧ o.cls = .type "list" ∧ o.dict = none ∧ o.data = .seq its n ∧ its.size ≤ sizeLine ∧ Vals xs its.toList
def SqT (K : PySem.W.Frag) (H : Hp) (a : Addr) (xs : List V) : Prop :=
  Rd H a (.tup xs) ∨
    ∃ (o : Obj) (its : Array Value) (n : Nat), K.lookup a = some o ∧ o.cls = .type "tuple" ∧ o.data = .seq its n ∧ its.size ≤ sizeLine ∧ Vals xs its.toList
def absV : Value → Option V
  | .none => some .non
  | .bool b => some (.bl b)
  | .int i _ => some (.int i)
  | .str x _ => some (.str x)
  | .bytes b _ => some (.byt b)
  | .float b _ => some (.flt b)
  | .ref a => some (.ref a)
  | .type n => some (.ty n)
  | _ => none
theorem RelV.abs {x : V} {u : Value} (r : RelV x u) : absV u = some x := by
  cases x with
  | non => cases r; rfl
  | bl _ => cases r; rfl
  | int _ => obtain ⟨t, rfl⟩ := r; rfl
  | str _ => obtain ⟨t, rfl⟩ := r; rfl
  | byt _ => obtain ⟨t, rfl⟩ := r; rfl
  | flt _ => obtain ⟨t, rfl⟩ := r; rfl
  | ref _ => cases r; rfl
  | ty _ => cases r; rfl
theorem RelV.inj {x y : V} {u : Value} (r : RelV x u) (q : RelV y u) : x = y := Option.some.inj (r.abs.symm.trans q.abs)
theorem Vals.inj : ∀ {xs ys : List V} {us : List Value}, Vals xs us → Vals ys us → xs = ys
  | _, _, _, .nil, .nil => rfl
  | _, _, _, .cons r t, .cons r' t' => by rw [r.inj r', Vals.inj t t']
section
variable {X : Cx} {pins : List (Addr × Obj)} {σ : St} {H : Hp} {s : Shared} {a : Addr} {xs ys : List V}
theorem SqL.of {K : PySem.W.Frag} (h : H a = some (.lst xs)) : SqL K H a xs := .inl (.inl h)
theorem SqT.of {K : PySem.W.Frag} (h : H a = some (.tup xs)) : SqT K H a xs := .inl (.inl h)
theorem Inv.list (I : Inv X pins σ H s) (h : SqL X.K H a xs) : ∃ its : List Value, Vals xs its ∧ PlainL s.heap a its.toArray ∧ xs.length ≤ sizeLine := by
  rcases h with h | ⟨o, its, n, hk, hc, hd, hs, hz, r⟩
  · obtain ⟨z, its, n, r, e⟩ := h.ok I.hok
    exact ⟨its, r, ⟨_, n, e, rfl, rfl, rfl⟩, z⟩
  · refine ⟨its.toList, r, ⟨o, n, I.kIn a o hk, hc, hd, by simpa using hs⟩, ?_⟩
    have e := r.length
    simp only [Array.length_toList] at e
    omega
theorem Inv.tuple (I : Inv X pins σ H s) (h : SqT X.K H a xs) : ∃ its : List Value, Vals xs its ∧ IsTup s.heap a its.toArray ∧ xs.length ≤ sizeLine := by
  rcases h with h | ⟨o, its, n, hk, hc, hs, hz, r⟩
  · obtain ⟨z, its, r, p⟩ := h.ok I.hok
    exact ⟨its, r, p, z⟩
  · refine ⟨its.toList, r, ⟨o, I.kIn a o hk, hc, n, by simpa using hs⟩, ?_⟩
    have e := r.length
    simp only [Array.length_toList] at e
    omega
theorem Inv.list_inj (I : Inv X pins σ H s) (h : SqL X.K H a xs) (h' : SqL X.K H a ys) : xs = ys := by
  obtain ⟨its, r, ⟨o, n, e, _, _, d⟩, _⟩ := I.list h
  obtain ⟨its', r', ⟨o', n', e', _, _, d'⟩, _⟩ := I.list h'
  rw [e] at e'; cases e'
  rw [d] at d'
  injection d' with d1 _
  have : its = its' := by simpa using congrArg Array.toList d1
  subst this
  exact r.inj r'
theorem Inv.tuple_inj (I : Inv X pins σ H s) (h : SqT X.K H a xs) (h' : SqT X.K H a ys) : xs = ys := by
  obtain ⟨its, r, ⟨o, e, _, n, d⟩, _⟩ := I.tuple h
  obtain ⟨its', r', ⟨o', e', _, n', d'⟩, _⟩ := I.tuple h'
  rw [e] at e'; cases e'
  rw [d] at d'
  injection d' with d1 _
  have : its = its' := by simpa using congrArg Array.toList d1
  subst this
  exact r.inj r'
end

/-! ### another wish about exceptions -/
abbrev Cx.wish (X : Cx) (E : Value → Shared → Prop) : Cx := { X with xe := E }
/-- no exception leaves -/
abbrev Cx.nox (X : Cx) : Cx := X.wish fun _ _ => False
theorem Cx.Ok.wish {X : Cx} (ok : X.Ok) (E : Value → Shared → Prop) : (X.wish E).Ok :=
  ⟨ok.mod, ok.kind, ok.glob, ok.blt, ok.above, ok.inj, ok.has, ok.cab, ok.hd, ok.frames, ok.stk, ok.exf, ok.bs, ok.bsz, ok.noex, ok.exfs, ok.funs, ok.frf⟩
theorem Cx.Ok.unwish {X : Cx} {E : Value → Shared → Prop} (ok : (X.wish E).Ok) : X.Ok :=
  ⟨ok.mod, ok.kind, ok.glob, ok.blt, ok.above, ok.inj, ok.has, ok.cab, ok.hd, ok.frames, ok.stk, ok.exf, ok.bs, ok.bsz, ok.noex, ok.exfs, ok.funs, ok.frf⟩
section
variable {X : Cx} {pins : List (Addr × Obj)} {σ : St} {H : Hp} {s : Shared} {E : Value → Shared → Prop}
theorem Inv.wish (I : Inv X pins σ H s) (E : Value → Shared → Prop) : Inv (X.wish E) pins σ H s := ⟨I.ok.wish E, I.os, I.bare, I.base, I.loc, I.cell, I.free, I.freeC, I.pin, I.hok, I.len⟩
theorem Inv.unwish (I : Inv (X.wish E) pins σ H s) : Inv X pins σ H s := ⟨I.ok.unwish, I.os, I.bare, I.base, I.loc, I.cell, I.free, I.freeC, I.pin, I.hok, I.len⟩
theorem SP.unwish {D : Ends} {f : Flow} {s' : Shared} (h : SP (X.wish E) pins D f s') : SP X pins D f s' := by
  cases f with
  | next => obtain ⟨σ', H', I, q⟩ := h; exact ⟨σ', H', I.unwish, q⟩
  | brk => obtain ⟨σ', H', I, q⟩ := h; exact ⟨σ', H', I.unwish, q⟩
  | cont => obtain ⟨σ', H', I, q⟩ := h; exact ⟨σ', H', I.unwish, q⟩
  | ret u => obtain ⟨v, σ', H', I, r, q⟩ := h; exact ⟨v, σ', H', I.unwish, r, q⟩
theorem PE.nox {e : Expr} {t : TE} (h : PE X.nox e t) : PE X e t := fun pins s σ H Q I hw =>
  wpAny_mono (h pins s σ H Q (I.wish _) hw) (fun _ _ ⟨v, H', I', r, q⟩ => ⟨v, H', I'.unwish, r, q⟩) fun _ _ z => False.elim z
theorem PT.nox {e : Expr} {t : TT} (h : PT X.nox e t) : PT X e t := fun pins s σ H Q I hw =>
  wpAny_mono (h pins s σ H Q (I.wish _) hw) (fun _ _ ⟨H', I', q⟩ => ⟨H', I'.unwish, q⟩) fun _ _ z => False.elim z
theorem PSs.nox {st : List Stmt} {t : TS} (h : PSs X.nox st t) : PSs X st t := fun pins s σ H D I hw =>
  wpAny_mono (h pins s σ H D (I.wish _) hw) (fun _ _ q => q.unwish) fun _ _ z => False.elim z
end

/-! ### blocks and small statements -/
section
variable {X : Cx} {st : Stmt} {rest : List Stmt} {t u : TS} {e : Expr} {te : TE} {pos : Pos}
def tNext : TS := fun D σ H => D.nx σ H
def tSeq (t u : TS) : TS := fun D σ H => t { D with nx := u D } σ H
theorem pss_nil : PSs X [] tNext := fun _ _ σ H _ I h => wpAny_execs_nil ⟨σ, H, I, h⟩
theorem pss_cons (h1 : PS X st t) (h2 : PSs X rest u) : PSs X (st :: rest) (tSeq t u) := by
  intro pins s σ H D I h
  refine wpAny_execs_cons (thn (h1 pins s σ H { D with nx := u D } I h) fun f s1 q => ?_)
  cases f with
  | next =>
    obtain ⟨σ', H', I', q⟩ := q
    exact h2 pins s1 σ' H' D I' q
  | ret v => exact q
  | brk => exact q
  | cont => exact q
theorem pss_one (h1 : PS X st t) : PSs X [st] t := by
  intro pins s σ H D I h
  refine wpAny_execs_cons (thn (h1 pins s σ H D I h) fun f s1 q => ?_)
  cases f with
  | next => exact wpAny_execs_nil q
  | ret v => exact q
  | brk => exact q
  | cont => exact q
def tBreak : TS := fun D σ H => D.bk σ H
def tCont : TS := fun D σ H => D.ct σ H
theorem ps_pass : PS X (.Pass pos) tNext := fun _ _ σ H _ I h => wpAny_Pass ⟨σ, H, I, h⟩
theorem ps_break : PS X (.Break pos) tBreak := fun _ _ σ H _ I h => wpAny_Break ⟨σ, H, I, h⟩
theorem ps_continue : PS X (.Continue pos) tCont := fun _ _ σ H _ I h => wpAny_Continue ⟨σ, H, I, h⟩
/-- in a def's body nothing is shown -/
theorem Inv.quiet {pins : List (Addr × Obj)} {σ : St} {H : Hp} {s : Shared} (I : Inv X pins σ H s) : interactive X.env = false := by simp [interactive, I.ok.kind]
/-- a docstring -/
theorem ps_doc {x j pos pos'} : PS X (.Expr (.Constant (.str x) j pos) pos') tNext := fun _ s σ H _ I h => wpAny_Expr (Calls.Constant_str (show SP X _ _ .next { s with toks := s.toks + 1 } from ⟨σ, H, I.tok _, h⟩)) I.quiet
/-- an expression whose value is dropped -/
def tDrop (te : TE) : TS := fun D σ H => te σ H fun _ H1 => D.nx σ H1
theorem ps_expr (he : PE X e te) (hs : swapsWith e none pos.line X.env = pure false := by rfl) : PS X (.Expr e pos) (tDrop te) := by
  intro pins s σ H D I h
  exact wpAny_Expr_any (thn (he pins s σ H _ I h) fun v s1 ⟨x, H1, I1, r1, q1⟩ => ⟨σ, H1, I1, q1⟩) I.quiet hs
def tRet (te : TE) : TS := fun D σ H => te σ H D.rt
theorem ps_ret (he : PE X e te) : PS X (.Return (some e) pos) (tRet te) := by
  intro pins s σ H D I h
  exact wpAny_Return_some (thn (he pins s σ H _ I h) fun v s1 ⟨x, H1, I1, r1, q1⟩ => ⟨x, σ, H1, I1, r1, q1⟩)
def tRetN : TS := fun D _ H => D.rt .non H
theorem ps_retN : PS X (.Return none pos) tRetN := fun _ _ σ H _ I h => wpAny_Return_none ⟨.non, σ, H, I, rfl, h⟩
def tIfS (c : TT) (t u : TS) : TS := fun D σ H => c σ H fun b H1 => if b = true then t D σ H1 else u D σ H1
theorem ps_if {c : Expr} {a b : List Stmt} {tc : TT} (hc : PT X c tc) (ha : PSs X a t) (hb : PSs X b u) : PS X (.If c a b pos) (tIfS tc t u) := by
  intro pins s σ H D I h
  refine wpAny_If (thn (hc pins s σ H _ I h) fun d s1 ⟨H1, I1, q1⟩ => ?_)
  cases d with
  | true => exact ha pins s1 σ H1 D I1 q1
  | false => exact hb pins s1 σ H1 D I1 q1
/-- code that the proof never comes to -/
def tNever : TS := fun _ _ _ => False
theorem ps_never : PS X st tNever := fun _ _ _ _ _ _ h => h.elim
theorem pss_never {sts : List Stmt} : PSs X sts tNever := fun _ _ _ _ _ _ h => h.elim
end

/-! ### targets -/
abbrev TG := V → St → Hp → (St → Hp → Prop) → Prop
abbrev TGs := List V → St → Hp → (St → Hp → Prop) → Prop
def PG (X : Cx) (target : Expr) (t : TG) : Prop :=
  ∀ (pins : List (Addr × Obj)) (s : Shared) (σ : St) (H : Hp) (v : V) (u : Value) (Q : St → Hp → Prop), Inv X pins σ H s → RelV v u → t v σ H Q →
    wpAny (model X.prog X.w) X.A (assign target X.env u) (fun _ s' => ∃ σ' H', Inv X pins σ' H' s' ∧ Q σ' H') X.xe s
/-- several targets, one after another -/
def PGs (X : Cx) (ts : List Expr) (t : TGs) : Prop :=
  ∀ (pins : List (Addr × Obj)) (s : Shared) (σ : St) (H : Hp) (vs : List V) (us : List Value) (Q : St → Hp → Prop), Inv X pins σ H s → Vals vs us → t vs σ H Q →
    wpAny (model X.prog X.w) X.A (assignInOrder ((assignEach ts X.env).map (·.2)) us) (fun _ s' => ∃ σ' H', Inv X pins σ' H' s' ∧ Q σ' H') X.xe s
/-- o[i] = v, by values -/
abbrev TSet := V → V → V → Hp → (Hp → Prop) → Prop
def PSet (X : Cx) (t : TSet) : Prop :=
  ∀ (pins : List (Addr × Obj)) (s : Shared) (σ : St) (H : Hp) (o i v : V) (ov iv u : Value) (Q : Hp → Prop), Inv X pins σ H s → RelV o ov → RelV i iv → RelV v u → t o i v H Q →
    wpAny (model X.prog X.w) X.A (setItem ov iv u) (fun _ s' => ∃ H', Inv X pins σ H' s' ∧ Q H') X.xe s
/-- a op= b, by values -/
abbrev TIp := V → V → Hp → VK → Prop
def PIp (X : Cx) (op : Operator) (t : TIp) : Prop :=
  ∀ (pins : List (Addr × Obj)) (s : Shared) (σ : St) (H : Hp) (x y : V) (v u : Value) (Q : VK), Inv X pins σ H s → RelV x v → RelV y u → t x y H Q →
    wpAny (model X.prog X.w) X.A (inplaceOp op v u) (EP X pins σ Q) X.xe s
section
variable {X : Cx} {pos : Pos}
def gName (i : Nat) : TG := fun v σ H Q => Q (σ.set i (some v)) H
theorem pg_name {i : Nat} {x : Str} (hN : X.N.Nodup) (hi : X.N[i]? = some x) (hx : Loc X.env.scope x) (hf : X.fn x = true ∨ X.env.scope.names.lookup x = some .local := by first | exact .inl rfl | exact .inr rfl | assumption) : PG X (.Name x pos) (gName i) := by
  intro pins s σ H v u Q I r h
  exact wpAny_assign_Name (store_ok I hN hi hx r (fun s' I' => ⟨_, H, I', h⟩) hf)
def gNil : TGs := fun vs σ H Q => vs = [] ∧ Q σ H
def gCons (t : TG) (u : TGs) : TGs := fun vs σ H Q => ∃ v r, vs = v :: r ∧ t v σ H fun σ' H' => u r σ' H' Q
theorem pgs_nil : PGs X [] gNil := by
  intro pins s σ H vs us Q I r h
  obtain ⟨e, h⟩ := h
  subst e
  cases r
  exact assignInOrder_nil ⟨σ, H, I, h⟩
theorem pgs_cons {e : Expr} {es : List Expr} {t : TG} {u : TGs} (h1 : PG X e t) (h2 : PGs X es u)
    (hs : (assignEach (e :: es) X.env).map (·.2) = assign e X.env :: (assignEach es X.env).map (·.2) := by rfl) : PGs X (e :: es) (gCons t u) := by
  intro pins s σ H vs us Q I r h
  obtain ⟨v, vr, e1, h⟩ := h
  subst e1
  cases r with
  | cons r rr =>
    rw [hs]
    refine assignInOrder_cons (thn (h1 pins s σ H _ _ _ I r h) fun _ s1 ⟨σ1, H1, I1, q1⟩ => ?_)
    exact h2 pins s1 σ1 H1 _ _ Q I1 rr q1
/-- (a, b, ..) = a tuple of that length -/
def gTup (K : PySem.W.Frag) (n : Nat) (t : TGs) : TG := fun v σ H Q => ∃ a xs, v = .ref a ∧ SqT K H a xs ∧ xs.length = n ∧ t xs σ H Q
theorem pg_tup {es : List Expr} {k : Nat} {t : TGs} {n : Nat} (hc : X.calm = true) (h : PGs X es t)
    (hn : (assignEach es X.env).length = n := by rfl) (hst : (assignEach es X.env).findIdx? (·.1) = none := by rfl) : PG X (.Tuple es k pos) (gTup X.K n t) := by
  intro pins s σ H v u Q I r hw
  obtain ⟨a, xs, e1, hq, hl, hw⟩ := hw
  subst e1
  cases r
  obtain ⟨its, rv, ht, hz⟩ := I.tuple hq
  refine assign_Tuple_tuple (I.ok.hd hc) ht (by simp [hn, ← hl, rv.length]) hst fun h' hx => ?_
  have I1 : Inv X pins σ H { s with heap := h' } := I.kept (t' := s.toks) fun b o e => hx b o (Nat.ne_of_lt (Heap.lt_size e)) e
  exact h pins _ σ H xs _ Q I1 (by simpa using rv) hw
/-- o[i] = .. -/
def gSub (to ti : TE) (t : TSet) : TG := fun v σ H Q => to σ H fun o H1 => ti σ H1 fun i H2 => t o i v H2 fun H3 => Q σ H3
theorem pg_sub {o i : Expr} {to ti : TE} {t : TSet} (ho : PE X o to) (hi : PE X i ti) (hs : PSet X t)
    (ha : ∀ v, assign (.Subscript o i pos) X.env v = (do
      let ov ← holding [v] (eval o X.env)
      let iv ← holding [v, ov] (eval i X.env)
      standAt pos
      holding [v, ov, iv] (setItem ov iv v)
      release [v, ov, iv] []) := by intro _; rfl) : PG X (.Subscript o i pos) (gSub to ti t) := by
  intro pins s σ H v u Q I r h
  rw [ha]
  refine wpAny_bind (wpAny_holding (thn (ho pins s σ H _ I h) fun ov s1 ⟨x, H1, I1, r1, q1⟩ => ?_))
  refine wpAny_bind (wpAny_holding (thn (hi pins s1 σ H1 _ I1 q1) fun iv s2 ⟨y, H2, I2, r2, q2⟩ => ?_))
  refine wpAny_bind (wpAny_standAt (wpAny_bind (wpAny_holding (thn (hs pins s2 σ H2 x y v ov iv u _ I2 r1 r2 r q2) fun _ s3 ⟨H3, I3, q3⟩ => ?_))))
  exact wpAny_release ⟨σ, H3, I3, q3⟩
/-- target = value -/
def tAsg (te : TE) (g : TG) : TS := fun D σ H => te σ H fun x H1 => g x σ H1 D.nx
theorem ps_asg {tg e : Expr} {te : TE} {g : TG} (he : PE X e te) (hg : PG X tg g) (hs : swapsWithSole [tg] e pos.line X.env = pure false := by rfl) (hw : swappedStores [tg] e X.env = pure none := by rfl)
    (h1 : (assignEach [tg] X.env).map (·.2) = [assign tg X.env] := by rfl) : PS X (.Assign [tg] e pos) (tAsg te g) := by
  intro pins s σ H D I h
  refine wpAny_Assign_stores (thn (he pins s σ H _ I h) fun v s1 ⟨x, H1, I1, r1, q1⟩ => ?_) hs hw
  rw [h1]
  exact thn (hg pins s1 σ H1 x v _ I1 r1 q1) fun _ s2 q => q
/-- name = value -/
theorem ps_set {i : Nat} {x : Str} {e : Expr} {te : TE} {pos' : Pos} (hN : X.N.Nodup) (hi : X.N[i]? = some x) (hx : Loc X.env.scope x) (he : PE X e te) (hs : swapsWith e (some (.Name x pos')) pos.line X.env = pure false := by rfl) (hf : X.fn x = true ∨ X.env.scope.names.lookup x = some .local := by first | exact .inl rfl | exact .inr rfl | assumption) :
    PS X (.Assign [.Name x pos'] e pos) (tAsg te (gName i)) := by
  intro pins s σ H D I h
  refine wpAny_Assign_Name (thn (he pins s σ H _ I h) fun v s1 ⟨y, H1, I1, r1, q1⟩ => ?_) hs
  exact store_ok I1 hN hi hx r1 (fun s2 I2 => ⟨_, H1, I2, q1⟩) hf
/-- a, b = x, y with plain local names: stored from the right; the pair itself is not tracked (the opening rows as in PyProof/Rows/TupAssign.lean:23) -/
def tPar (i j : Nat) (ta : TA) : TS := fun D σ H => ta σ H fun vs H1 => ∃ v w, vs = [v, w] ∧ D.nx ((σ.set i (some v)).set j (some w)) H1
theorem ps_par {i j : Nat} {x y : Str} {a b : Expr} {ta : TA} {px py pt : Pos} {kt k2 pt2} (hc : X.calm = true) (hN : X.N.Nodup) (hi : X.N[i]? = some x) (hj : X.N[j]? = some y) (hij : i ≠ j)
    (hx : X.env.scope.names.lookup x = some .local) (hy : X.env.scope.names.lookup y = some .local) (ha : PA X [a, b] ta)
    (hw : swappedStores [.Tuple [.Name x px, .Name y py] kt pt] (.Tuple [a, b] k2 pt2) X.env = pure (some [x, y]))
    (hs : swapsWithSole [.Tuple [.Name x px, .Name y py] kt pt] (.Tuple [a, b] k2 pt2) pos.line X.env = pure false := by rfl) :
    PS X (.Assign [.Tuple [.Name x px, .Name y py] kt pt] (.Tuple [a, b] k2 pt2) pos) (tPar i j ta) := by
  intro pins s σ H D I h
  rw [exec_Assign_arm]
  refine wpAny_bind (wpAny_standAt ?_)
  rw [hs]
  refine wpAny_bind (wpAny_pure ?_)
  rw [if_neg (by decide)]
  refine wpAny_bind (Tuple_ (thn (ha _ pins s σ H _ I h) fun us s1 ⟨vs, H1, I1, r1, q1⟩ => ?_))
  obtain ⟨v, w, e1, q1⟩ := q1
  subst e1
  obtain ⟨u1, u2, rfl, rv, rw'⟩ : ∃ u1 u2, us = [u1, u2] ∧ RelV v u1 ∧ RelV w u2 := by
    cases r1 with
    | cons p q =>
      cases q with
      | cons p' q' =>
        cases q'
        exact ⟨_, _, rfl, p, p'⟩
  refine wpAny_newObj_type ?_ (by show 2 ≤ sizeLine; decide)
  have I2 : Inv X pins σ H1 { s1 with heap := s1.heap.push { cls := .type "tuple", data := .seq [u1, u2].toArray } } := I1.kept (t' := s1.toks) fun b o e => Heap.get?_push_of_some _ e
  rw [hw]
  refine wpAny_bind (wpAny_pure ?_)
  show wpAny (model X.prog X.w) X.A (do rule "assign.swapped-stores"; let items ← unpackItems (.ref s1.heap.objs.size) 2 none; assignInOrder [fun v => bindName X.env y v, fun v => bindName X.env x v] items.reverse; pure Flow.next) _ _ _
  refine wpAny_bind (wpAny_rule (wpAny_bind (unpackItems_tuple (items := #[u1, u2]) (I.ok.hd hc) (IsTup.new s1.heap _) fun h' hx' => ?_)))
  have I3 := I2.kept (h' := h') (t' := s1.toks) fun b o e => hx' b o (Nat.ne_of_lt (Heap.lt_size e)) e
  show wpAny _ _ (assignInOrder [fun v => bindName X.env y v, fun v => bindName X.env x v] [u2, u1] >>= fun _ => pure Flow.next) _ _ _
  refine wpAny_bind (assignInOrder_cons (wpAny_bindName (store_ok I3 hN hj (.inl hy) rw' (fun s2 I4 => ?_) (.inr hy))))
  refine assignInOrder_cons (wpAny_bindName (store_ok I4 hN hi (.inl hx) rv (fun s3 I5 => assignInOrder_nil (wpAny_pure ?_)) (.inr hx)))
  rw [List.set_comm _ _ (Ne.symm hij)] at I5
  exact ⟨_, H1, I5, q1⟩
/-- name op= e -/
def tAug (i : Nat) (te : TE) (ti : TIp) : TS := fun D σ H => ∃ x, σ[i]? = some (some x) ∧ te σ H fun y H1 => ti x y H1 fun z H2 => D.nx (σ.set i (some z)) H2
theorem ps_aug {i : Nat} {x : Str} {e : Expr} {te : TE} {op : Operator} {ti : TIp} {pos' : Pos} (hN : X.N.Nodup) (hi : X.N[i]? = some x) (hx : Loc X.env.scope x) (he : PE X e te) (ho : PIp X op ti) (hf : X.fn x = true ∨ X.env.scope.names.lookup x = some .local := by first | exact .inl rfl | exact .inr rfl | assumption) :
    PS X (.AugAssign (.Name x pos') op e pos) (tAug i te ti) := by
  intro pins s σ H D I h
  obtain ⟨v, e1, h⟩ := h
  obtain ⟨m, hn, hl⟩ := I.loc
  have vis : Vis X.env.scope x := by rcases hx with k | k; exact .inl k; exact .inr (.inl k)
  obtain ⟨u, r, l⟩ := hl i x v hi e1 vis
  refine wpAny_AugAssign_Name ?_
  have go : wpAny (model X.prog X.w) X.A (eval e X.env) (fun w s₂ => wpAny (model X.prog X.w) X.A (inplaceOp op u w) (fun r s₃ => wpAny (model X.prog X.w) X.A (storeName X.env x r) (fun _ => SP X pins D .next) X.xe s₃) X.xe s₂) X.xe s := by
    refine thn (he pins s σ H _ I h) fun w s1 ⟨y, H1, I1, r1, q1⟩ => ?_
    refine thn (ho pins s1 σ H1 v y u w _ I1 r r1 q1) fun z s2 ⟨zv, H2, I2, r2, q2⟩ => ?_
    exact store_ok I2 hN hi hx r2 (fun s3 I3 => ⟨_, H2, I3, q2⟩) hf
  rcases l with ⟨hk, hm⟩ | ⟨hk, c, hc, hcell⟩
  · exact wpAny_loadName_local I.ok.kind hk hn hm go
  · rcases hk with hk | hk
    · exact wpAny_loadName_cell I.ok.kind hk hc hcell go
    · rcases hx with k | k
      · have : X.env.scope.names.lookup x = some .free := hk
        rw [k] at this; cases this
      · have : X.env.scope.names.lookup x = some .free := hk
        rw [k] at this; cases this
/-- o[i] op= e -/
def tAugS (to ti te : TE) (tget : V → V → Hp → VK → Prop) (tip : TIp) (tset : TSet) : TS := fun D σ H => to σ H fun o H1 => ti σ H1 fun i H2 => tget o i H2 fun x H3 => te σ H3 fun y H4 => tip x y H4 fun z H5 => tset o i z H5 fun H6 => D.nx σ H6
/-- o[i], by values -/
def PGet (X : Cx) (t : V → V → Hp → VK → Prop) : Prop :=
  ∀ (pins : List (Addr × Obj)) (s : Shared) (σ : St) (H : Hp) (o i : V) (ov iv : Value) (Q : VK), Inv X pins σ H s → RelV o ov → RelV i iv → t o i H Q →
    wpAny (model X.prog X.w) X.A (getItem ov iv) (EP X pins σ Q) X.xe s
theorem ps_augS {o i e : Expr} {to ti te : TE} {tget : V → V → Hp → VK → Prop} {tip : TIp} {tset : TSet} {op : Operator} {tpos : Pos} (ho : PE X o to) (hi : PE X i ti) (hg : PGet X tget) (he : PE X e te) (hp : PIp X op tip) (hs : PSet X tset)
    (ha : ∀ ov iv new, augStore i ov iv new = (do holding [new, ov, iv] (setItem ov iv new); release [new, ov, iv] []; pure .next) := by intros; rfl) : PS X (.AugAssign (.Subscript o i tpos) op e pos) (tAugS to ti te tget tip tset) := by
  intro pins s σ H D I h
  refine wpAny_AugAssign_SubscriptAny (thn (ho pins s σ H _ I h) fun ov s1 ⟨x1, H1, I1, r1, q1⟩ => ?_) ha
  refine thn (hi pins s1 σ H1 _ I1 q1) fun iv s2 ⟨x2, H2, I2, r2, q2⟩ => ?_
  refine thn (hg pins s2 σ H2 x1 x2 ov iv _ I2 r1 r2 q2) fun old s3 ⟨x3, H3, I3, r3, q3⟩ => ?_
  refine thn (he pins s3 σ H3 _ I3 q3) fun v s4 ⟨x4, H4, I4, r4, q4⟩ => ?_
  refine thn (hp pins s4 σ H4 x3 x4 old v _ I4 r3 r4 q4) fun new s5 ⟨x5, H5, I5, r5, q5⟩ => ?_
  exact thn (hs pins s5 σ H5 x1 x2 x5 ov iv new _ I5 r1 r2 r5 q5) fun _ s6 ⟨H6, I6, q6⟩ => ⟨σ, H6, I6, q6⟩
/-- ints -/
def ipI (f : Int → Int → Int) : TIp := fun x y H Q => ∃ i j, x = .int i ∧ y = .int j ∧ Q (.int (f i j)) H
theorem ip_add : PIp X .Add (ipI fun i j => i + j) := by
  intro pins s σ H x y v u Q I r1 r2 h
  obtain ⟨i, j, e1, e2, q⟩ := h
  subst e1; subst e2
  obtain ⟨t, rfl⟩ := r1
  obtain ⟨t', rfl⟩ := r2
  exact iadd_int ⟨.int _, H, I.tok _, ⟨_, rfl⟩, q⟩
theorem ip_sub : PIp X .Sub (ipI fun i j => i - j) := by
  intro pins s σ H x y v u Q I r1 r2 h
  obtain ⟨i, j, e1, e2, q⟩ := h
  subst e1; subst e2
  obtain ⟨t, rfl⟩ := r1
  obtain ⟨t', rfl⟩ := r2
  exact isub_int ⟨.int _, H, I.tok _, ⟨_, rfl⟩, q⟩
end

/-! ### while -/
section
variable {X : Cx} {pos : Pos}
/-- the invariant W with its measure -/
def tWhile (c : TT) (tb : TS) : TS := fun D σ H => ∃ W : Nat → St → Hp → Prop, (∃ m, W m σ H) ∧ ∀ m σ H, W m σ H →
  c σ H fun b H1 => if b = true then ∃ N : St → Hp → Prop, (∀ σ' H', N σ' H' → ∃ m', m' < m ∧ W m' σ' H') ∧ tb { D with nx := N, ct := N, bk := D.nx } σ H1 else D.nx σ H1
theorem ps_while {c : Expr} {body : List Stmt} {tc : TT} {tb : TS} (hp : PassesOwn (model X.prog X.w) X.A X.env X.xe) (hc : PT X c tc) (hb : PSs X body tb) : PS X (.While c body [] pos) (tWhile tc tb) := by
  intro pins s σ H D I h
  obtain ⟨W, ⟨m0, w0⟩, turn⟩ := h
  refine wpAny_While (codeAny_whileLoop (fun n s' => ∃ σ' H', Inv X pins σ' H' s' ∧ W n σ' H') ?_ m0 ⟨σ, H, I, w0⟩)
  rintro n s1 ⟨σ1, H1, I1, w1⟩
  refine wpAny_passesOwn hp (thn (hc pins s1 σ1 H1 _ I1 (turn n σ1 H1 w1)) fun b s2 ⟨H2, I2, q2⟩ => ?_)
  cases b with
  | true =>
    obtain ⟨N, hN, q2⟩ := q2
    rw [if_pos rfl]
    refine wpAny_passesOwn hp (thn (hb pins s2 σ1 H2 _ I2 q2) fun f s3 q3 => ?_)
    cases f with
    | next =>
      obtain ⟨σ3, H3, I3, n3⟩ := q3
      obtain ⟨m', hm, w3⟩ := hN σ3 H3 n3
      exact ⟨m', hm, σ3, H3, I3, w3⟩
    | cont =>
      obtain ⟨σ3, H3, I3, n3⟩ := q3
      obtain ⟨m', hm, w3⟩ := hN σ3 H3 n3
      exact ⟨m', hm, σ3, H3, I3, w3⟩
    | brk => exact q3
    | ret v => exact q3
  | false =>
    rw [if_neg Bool.false_ne_true]
    exact wpAny_execs_nil ⟨σ1, H2, I2, q2⟩
end

/-! ### what a loop or a comprehension walks -/
/-- at turn i: it yields x (the heap may grow), or it stops -/
structure It where
  go : Nat → Hp → Prop
  yld : Nat → Hp → V → Hp → Prop
  stop : Nat → Hp → Prop
/-- the iterator's own objects may turn: they are not the frame's, not pinned, younger than the entry (or a comprehension's own) -/
def FpOk (X : Cx) (pins : List (Addr × Obj)) (H : Hp) (b : Addr) : Prop :=
  H b = none ∧ b ≠ X.env.locals ∧ b ∉ X.fs ∧ (b ∈ X.ex ∨ X.s₀.heap.objs.size ≤ b) ∧ (∀ x c, X.env.cells.lookup x = some c → c ≠ b) ∧ ∀ p ∈ X.pn ++ pins, p.1 ≠ b
theorem Inv.fpOk {X : Cx} {pins : List (Addr × Obj)} {σ : St} {H H' : Hp} {s : Shared} {b : Addr} (I : Inv X pins σ H s) (hb : s.heap.objs.size ≤ b) (hn : H' b = none) : FpOk X pins H' b := by
  refine ⟨hn, Nat.ne_of_gt (Nat.lt_of_lt_of_le I.lt hb), I.nofs hb, .inr (Nat.le_trans I.sz hb), fun x c e z => ?_, fun p hp z => ?_⟩
  · obtain ⟨v, q⟩ := I.cell x c e
    exact absurd (Nat.lt_of_lt_of_le q.lt (by rw [z]; exact hb)) (Nat.lt_irrefl _)
  · exact absurd (Nat.lt_of_lt_of_le (Heap.lt_size (I.pin p hp).1) (by rw [z]; exact hb)) (Nat.lt_irrefl _)
structure Turn (P : Program) (w : World) (K : PySem.W.Frag) (tg : Expr) (J : It) (fp : List Addr) (it : Addr) (tn : Nat → Heap → Prop) : Prop where
  mem : it ∈ fp
  obj : ∀ i h, tn i h → ∀ b ∈ fp, ∃ o, h.get? b = some o ∧ ∀ v, o.data ≠ .cell v
  keep : ∀ i h h', tn i h → (∀ b ∈ fp, ∀ o, h.get? b = some o → h'.get? b = some o) → tn i h'
  item : ∀ (X : Cx), X.prog = P → X.w = w → X.K = K → X.calm = true → ∀ (i : Nat) (pins : List (Addr × Obj)) (s : Shared) (σ : St) (H : Hp) (E : Value → Shared → Prop), Inv X pins σ H s → (∀ b ∈ fp, FpOk X pins H b) → tn i s.heap → J.go i H →
    wpAny (model P w) X.A (pyNext (.ref it)) (fun r s1 => ∃ u, r = some u ∧
      wpAny (model P w) X.A (letOwnedTupleGo tg (.ref it) u) (fun _ s2 => ∃ x H', Inv X pins σ H' s2 ∧ RelV x u ∧ J.yld i H x H' ∧ tn (i + 1) s2.heap ∧ ∀ b ∈ fp, H' b = none) E s1) E s
  done : ∀ (X : Cx), X.prog = P → X.w = w → X.K = K → X.calm = true → ∀ (i : Nat) (pins : List (Addr × Obj)) (s : Shared) (σ : St) (H : Hp) (E : Value → Shared → Prop), Inv X pins σ H s → (∀ b ∈ fp, FpOk X pins H b) → tn i s.heap → J.stop i H →
    wpAny (model P w) X.A (pyNext (.ref it)) (fun r s1 => r = none ∧ Inv X pins σ H s1) E s
  self : ∀ (A : Around) (i : Nat) (s : Shared) (Q : Value → Shared → Prop) (E : Value → Shared → Prop), tn i s.heap → Q (.ref it) s → wpAny (model P w) A (pyIter (.ref it)) Q E s
abbrev TI := St → Hp → (It → Hp → Prop) → Prop
/-- an iterator has come -/
def PIE (X : Cx) (pins : List (Addr × Obj)) (σ : St) (tg : Expr) (R : It → Hp → Prop) (itv : Value) (s2 : Shared) : Prop :=
  ∃ (it : Addr) (fp : List Addr) (tn : Nat → Heap → Prop) (J : It) (H' : Hp), itv = .ref it ∧ Inv X pins σ H' s2 ∧ Turn X.prog X.w X.K tg J fp it tn ∧ tn 0 s2.heap ∧ (∀ b ∈ fp, FpOk X pins H' b) ∧ R J H'
def PI (X : Cx) (tg iter : Expr) (wi : TI) : Prop :=
  ∀ (pins : List (Addr × Obj)) (s : Shared) (σ : St) (H : Hp) (R : It → Hp → Prop), Inv X pins σ H s → wi σ H R →
    wpAny (model X.prog X.w) X.A (eval iter X.env) (fun v s1 => wpAny (model X.prog X.w) X.A (pyIter v) (PIE X pins σ tg R) X.xe s1) X.xe s

/-- the step ahead of the store is nothing for an iterator that keeps no tuple -/
theorem go_of {M : Model} {A : Around} {E : Value → Shared → Prop} {s : Shared} {tg : Expr} {it : Addr} {u : Value} {o : Obj} {n : String} {vs : Array Value} {Q : Unit → Shared → Prop} (ho : s.heap.get? it = some o) (hc : o.cls = .type n) (hd : o.data = .fields vs)
    (hn : ["enumerate", "zip", "dict_itemiterator", "dict_reverseitemiterator", "odict_iterator", "itertools.zip_longest", "itertools.pairwise"].contains n = false) (hQ : Q () s) : wpAny M A (letOwnedTupleGo tg (.ref it) u) Q E s := by
  unfold letOwnedTupleGo
  cases tg <;> first
    | exact wpAny_pure hQ
    | (cases u <;> first
        | exact wpAny_pure hQ
        | (refine wpAny_bind (wpAny_load ho ?_)
           rw [hc, hd]
           show wpAny M A (if (["enumerate", "zip", "dict_itemiterator", "dict_reverseitemiterator", "odict_iterator", "itertools.zip_longest", "itertools.pairwise"].contains n && vs[0]? == some (rawInt _)) = true then _ else _) Q E s
           rw [if_neg (by intro h; rw [hn, Bool.false_and] at h; cases h)]
           exact wpAny_pure hQ))

/-- the list at a, as it stands at each turn (a loop may append to it) -/
def Itl (K : PySem.W.Frag) (a : Addr) : It :=
  ⟨fun i H => ∃ xs x, SqL K H a xs ∧ xs[i]? = some x, fun i H x H' => H' = H ∧ ∀ xs, SqL K H a xs → xs[i]? = some x, fun i H => ∃ xs, SqL K H a xs ∧ xs.length ≤ i⟩
def Itt (K : PySem.W.Frag) (a : Addr) : It :=
  ⟨fun i H => ∃ xs x, SqT K H a xs ∧ xs[i]? = some x, fun i H x H' => H' = H ∧ ∀ xs, SqT K H a xs → xs[i]? = some x, fun i H => ∃ xs, SqT K H a xs ∧ xs.length ≤ i⟩
/-- lo, lo + 1, .. (n of them) -/
def Itr (lo : Int) (n : Nat) : It := ⟨fun i _ => i < n, fun i H x H' => H' = H ∧ x = .int (lo + i), fun i _ => n ≤ i⟩
theorem turn_list {P : Program} {w : World} {K : PySem.W.Frag} {tg : Expr} (a it : Addr) : Turn P w K tg (Itl K a) [it] it (fun i h => h.IsListIter it a i) where
  mem := by simp
  obj := fun i h st b hb => by
    have e : b = it := by simpa using hb
    subst e
    obtain ⟨o, e, c, d⟩ := st
    exact ⟨o, e, fun v z => by rw [d] at z; cases z⟩
  keep := fun i h h' st k => st.at fun o e => k it (by simp) o e
  item := by
    intro X hP hw hK hc i pins s σ H E I hf st hg
    subst hP hw hK
    obtain ⟨xs, x, hq, hx⟩ := hg
    obtain ⟨its, rv, p, hz⟩ := I.list hq
    obtain ⟨u, hu, ru⟩ := rv.get hx
    obtain ⟨f0, f1, f2, f3, f4, f5⟩ := hf it (by simp)
    refine wpAny_pyNext_list_item st p.isList (x := u) (by simpa using hu) fun h' st' sb => ?_
    have I1 : Inv X pins σ H { s with heap := h' } := I.turned (t' := s.toks) (fun b o hb e => (sb.2 b hb).trans e) f0 f1 f3 f4 f5
    obtain ⟨o, e, c, d⟩ := id st'
    exact ⟨u, rfl, go_of (s := { s with heap := h' }) e c d (by decide) ⟨x, H, I1, ru, ⟨rfl, fun ys hy => by rw [I.list_inj hy hq]; exact hx⟩, st', fun b hb => (hf b hb).1⟩⟩
  done := by
    intro X hP hw hK hc i pins s σ H E I hf st hg
    subst hP hw hK
    obtain ⟨xs, hq, hx⟩ := hg
    obtain ⟨its, rv, p, hz⟩ := I.list hq
    obtain ⟨f0, f1, f2, f3, f4, f5⟩ := hf it (by simp)
    have hl := rv.length
    exact wpAny_pyNext_list_end (I.ok.hd hc) st p.isList (by simp; omega) fun h' eb => ⟨rfl, I.turned (t' := s.toks) (fun b o hb e => eb b o hb e) f0 f1 f3 f4 f5⟩
  self := fun _ _ _ _ _ st h => wpAny_pyIter_listiter st h
theorem turn_tuple {P : Program} {w : World} {K : PySem.W.Frag} {tg : Expr} (a it : Addr) : Turn P w K tg (Itt K a) [it] it (fun i h => h.IsTupleIter it a i) where
  mem := by simp
  obj := fun i h st b hb => by
    have e : b = it := by simpa using hb
    subst e
    obtain ⟨o, e, c, d⟩ := st
    exact ⟨o, e, fun v z => by rw [d] at z; cases z⟩
  keep := fun i h h' st k => st.at fun o e => k it (by simp) o e
  item := by
    intro X hP hw hK hc i pins s σ H E I hf st hg
    subst hP hw hK
    obtain ⟨xs, x, hq, hx⟩ := hg
    obtain ⟨its, rv, p, hz⟩ := I.tuple hq
    obtain ⟨u, hu, ru⟩ := rv.get hx
    obtain ⟨f0, f1, f2, f3, f4, f5⟩ := hf it (by simp)
    refine wpAny_pyNext_tuple_item st (show s.heap.IsTuple a its.toArray from p) (x := u) (by simpa using hu) fun h' st' sb => ?_
    have I1 : Inv X pins σ H { s with heap := h' } := I.turned (t' := s.toks) (fun b o hb e => (sb.2 b hb).trans e) f0 f1 f3 f4 f5
    obtain ⟨o, e, c, d⟩ := id st'
    exact ⟨u, rfl, go_of (s := { s with heap := h' }) e c d (by decide) ⟨x, H, I1, ru, ⟨rfl, fun ys hy => by rw [I.tuple_inj hy hq]; exact hx⟩, st', fun b hb => (hf b hb).1⟩⟩
  done := by
    intro X hP hw hK hc i pins s σ H E I hf st hg
    subst hP hw hK
    obtain ⟨xs, hq, hx⟩ := hg
    obtain ⟨its, rv, p, hz⟩ := I.tuple hq
    obtain ⟨f0, f1, f2, f3, f4, f5⟩ := hf it (by simp)
    have hl := rv.length
    exact wpAny_pyNext_tuple_end (I.ok.hd hc) st (show s.heap.IsTuple a its.toArray from p) (by simp; omega) fun h' eb => ⟨rfl, I.turned (t' := s.toks) (fun b o hb e => eb b o hb e) f0 f1 f3 f4 f5⟩
  self := fun _ _ _ _ _ st h => wpAny_pyIter_tupleiter st h
theorem turn_range {P : Program} {w : World} {K : PySem.W.Frag} {tg : Expr} (it : Addr) (lo : Int) (n : Nat) : Turn P w K tg (Itr lo n) [it] it (fun i h => IsRangeIter h it (lo + (i : Nat) * 1) ((n : Int) - (i : Nat)) 1) where
  mem := by simp
  obj := fun i h st b hb => by
    have e : b = it := by simpa using hb
    subst e
    exact ⟨_, st, fun v z => by
      have z' : Data.fields _ = Data.cell v := z
      cases z'⟩
  keep := fun i h h' st k => k it (by simp) _ st
  item := by
    intro X hP hw hK hc i pins s σ H E I hf st hg
    subst hP hw hK
    obtain ⟨f0, f1, f2, f3, f4, f5⟩ := hf it (by simp)
    have W := Walks.range (prog := X.prog) (w := X.w) (I.ok.hd hc) it lo 1 n
    refine W.item i s _ _ hg st fun v h' tk hv st' kk => ?_
    obtain ⟨t, rfl⟩ := hv
    have I1 : Inv X pins σ H { s with heap := h', toks := tk } := I.turned (fun b o hb e => kk b o (by simpa using hb) e) f0 f1 f3 f4 f5
    refine ⟨_, rfl, go_of (s := { s with heap := h', toks := tk }) (n := "range_iterator") st' rfl rfl (by decide) ⟨.int (lo + i), H, I1, ⟨t, ?_⟩, ⟨rfl, rfl⟩, st', fun b hb => (hf b hb).1⟩⟩
    rw [Int.mul_one]
  done := by
    intro X hP hw hK hc i pins s σ H E I hf st hg
    subst hP hw hK
    obtain ⟨f0, f1, f2, f3, f4, f5⟩ := hf it (by simp)
    exact wpAny_pyNext_range_end (I.ok.hd hc) st (by have : n ≤ i := hg; omega) fun h' eb => ⟨rfl, I.turned (t' := s.toks) (fun b o hb e => eb b o hb e) f0 f1 f3 f4 f5⟩
  self := fun _ _ _ _ _ st h => wpAny_pyIter_rangeiter st h
end L2

namespace L2
open PySem PySem.Spec PyProof.Rows
section
variable {X : Cx} {tg : Expr}
def iList (K : PySem.W.Frag) (tl : TE) : TI := fun σ H R => tl σ H fun x H1 => ∃ a, x = .ref a ∧ (∃ xs, SqL K H1 a xs) ∧ R (Itl K a) H1
def iTup (K : PySem.W.Frag) (tl : TE) : TI := fun σ H R => tl σ H fun x H1 => ∃ a, x = .ref a ∧ (∃ xs, SqT K H1 a xs) ∧ R (Itt K a) H1
theorem pi_list {l : Expr} {tl : TE} (hl : PE X l tl) : PI X tg l (iList X.K tl) := by
  intro pins s σ H R I h
  refine thn (hl pins s σ H _ I h) fun v s1 ⟨x, H1, I1, r1, q1⟩ => ?_
  obtain ⟨a, e, ⟨xs, hq⟩, q⟩ := q1
  subst e
  cases r1
  obtain ⟨its, rv, p, hz⟩ := I1.list hq
  refine wpAny_pyIter_list p.isList ?_
  refine ⟨s1.heap.objs.size, [s1.heap.objs.size], _, _, H1, rfl, I1.kept (t' := s1.toks) fun b o e => Heap.get?_push_of_some _ e, turn_list a _, ⟨_, Heap.get?_push_size _ rfl, rfl, rfl⟩, fun b hb => ?_, q⟩
  have e : b = s1.heap.objs.size := by simpa using hb
  subst e
  exact I1.fpOk (Nat.le_refl _) (I1.hok.fresh (Nat.le_refl _))
theorem pi_tup {l : Expr} {tl : TE} (hl : PE X l tl) : PI X tg l (iTup X.K tl) := by
  intro pins s σ H R I h
  refine thn (hl pins s σ H _ I h) fun v s1 ⟨x, H1, I1, r1, q1⟩ => ?_
  obtain ⟨a, e, ⟨xs, hq⟩, q⟩ := q1
  subst e
  cases r1
  obtain ⟨its, rv, p, hz⟩ := I1.tuple hq
  refine wpAny_pyIter_tuple (show s1.heap.IsTuple a its.toArray from p) ?_
  refine ⟨s1.heap.objs.size, [s1.heap.objs.size], _, _, H1, rfl, I1.kept (t' := s1.toks) fun b o e => Heap.get?_push_of_some _ e, turn_tuple a _, ⟨_, Heap.get?_push_size _ rfl, rfl, rfl⟩, fun b hb => ?_, q⟩
  have e : b = s1.heap.objs.size := by simpa using hb
  subst e
  exact I1.fpOk (Nat.le_refl _) (I1.hok.fresh (Nat.le_refl _))
/-- a range object just made, walked -/
theorem range_it {pins : List (Addr × Obj)} {σ : St} {H : Hp} {s : Shared} {R : It → Hp → Prop} {E : Value → Shared → Prop} {lo hi : Int} {t u v : Tok} {tk : Nat} (I : Inv X pins σ H s) (h1 : -(2 ^ 62) ≤ lo) (h2 : lo < 2 ^ 62) (h3 : -(2 ^ 62) ≤ hi) (h4 : hi < 2 ^ 62)
    (q : R (Itr lo (hi - lo).toNat) H) : wpAny (model X.prog X.w) X.A (pyIter (.ref s.heap.objs.size)) (PIE X pins σ tg R) E { s with heap := s.heap.push { cls := .type "range", data := .fields #[.int lo t, .int hi u, .int 1 v] }, toks := tk } := by
  refine wpAny_pyIter_range (IsRange.new ..) (small_one h1 h2 h3 h4) ?_
  have I1 : Inv X pins σ H { s with heap := s.heap.push { cls := .type "range", data := .fields #[.int lo t, .int hi u, .int 1 v] }, toks := tk } := I.kept fun b o e => Heap.get?_push_of_some _ e
  refine ⟨(s.heap.push { cls := .type "range", data := .fields #[.int lo t, .int hi u, .int 1 v] }).objs.size, [(s.heap.push { cls := .type "range", data := .fields #[.int lo t, .int hi u, .int 1 v] }).objs.size], _, _, H, rfl,
    I1.kept (t' := tk) fun b o e => Heap.get?_push_of_some _ e, turn_range _ lo (hi - lo).toNat, ?_, fun b hb => ?_, q⟩
  · have e1 : lo + ((0 : Nat) : Int) * 1 = lo := by simp
    have e2 : (((hi - lo).toNat : Nat) : Int) - ((0 : Nat) : Int) = Builtin.Range.rangeSize lo hi 1 := by rw [rangeSize_one]; split <;> omega
    show IsRangeIter _ _ (lo + ((0 : Nat) : Int) * 1) ((((hi - lo).toNat : Nat) : Int) - ((0 : Nat) : Int)) 1
    rw [e1, e2]
    exact Heap.get?_push_size _ rfl
  · have e : b = (s.heap.push { cls := .type "range", data := .fields #[.int lo t, .int hi u, .int 1 v] }).objs.size := by simpa using hb
    subst e
    exact I1.fpOk (Nat.le_refl _) (I1.hok.fresh (Nat.le_refl _))
def iRng1 (ta : TA) : TI := fun σ H R => ta σ H fun vs H1 => ∃ j : Int, vs = [.int j] ∧ -(2 ^ 62) ≤ j ∧ j < 2 ^ 62 ∧ R (Itr 0 j.toNat) H1
def iRng2 (ta : TA) : TI := fun σ H R => ta σ H fun vs H1 => ∃ i j : Int, vs = [.int i, .int j] ∧ (-(2 ^ 62) ≤ i ∧ i < 2 ^ 62 ∧ -(2 ^ 62) ≤ j ∧ j < 2 ^ 62) ∧ R (Itr i (j - i).toNat) H1
theorem pi_range1 {a : Expr} {ta : TA} {p pos : Pos} (hg : Gl X "range") (hm : X.mg "range" = none) (ha : PA X [a] ta) (hs : starEach [a] X.env = [(false, eval a X.env)] := by rfl) : PI X tg (.Call (.Name "range" p) [a] [] pos) (iRng1 ta) := by
  intro pins s σ H R I h
  refine Call_ (ld_blt I hg hm boot_range (PyProof.Rows.callWith_type1 (thn (ha pos pins s σ H _ I h) fun us s1 ⟨vs, H1, I1, r1, q1⟩ => ?_) hs rfl))
  obtain ⟨j, e, q1, q2, q⟩ := q1
  subst e
  cases r1 with
  | cons r rr =>
    cases rr
    obtain ⟨t, rfl⟩ := r
    exact call_range_1 (range_it I1 (by omega) (by omega) q1 q2 (by simpa using q))
theorem pi_range2 {a b : Expr} {ta : TA} {p pos : Pos} (hg : Gl X "range") (hm : X.mg "range" = none) (ha : PA X [a, b] ta) (hs : starEach [a, b] X.env = [(false, eval a X.env), (false, eval b X.env)] := by rfl) (hs2 : starEach [b] X.env = [(false, eval b X.env)] := by rfl) :
    PI X tg (.Call (.Name "range" p) [a, b] [] pos) (iRng2 ta) := by
  intro pins s σ H R I h
  refine Call_ (ld_blt I hg hm boot_range (PyProof.Rows.callWith_type1 (thn (ha pos pins s σ H _ I h) fun us s1 ⟨vs, H1, I1, r1, q1⟩ => ?_) (by rw [hs, hs2]) (by rw [hs2]; rfl)))
  obtain ⟨i, j, e, ⟨q1, q2, q3, q4⟩, q⟩ := q1
  subst e
  cases r1 with
  | cons r rr =>
    cases rr with
    | cons r' rr =>
      cases rr
      obtain ⟨t, rfl⟩ := r
      obtain ⟨t', rfl⟩ := r'
      exact call_range_2 (range_it I1 q1 q2 q3 q4 q)

/-! ### for -/
/-- W: the invariant by the turn and a measure; N: what the body is to reach -/
def tFor (wi : TI) (g : TG) (tb : TS) : TS := fun D σ H => wi σ H fun J H1 => ∃ W : Nat → Nat → St → Hp → Prop, (∃ m, W 0 m σ H1) ∧ ∀ i m σ H, W i m σ H →
  (J.stop i H ∧ D.nx σ H) ∨ (J.go i H ∧ ∃ N : St → Hp → Prop, (∀ σ' H', N σ' H' → ∃ m', m' < m ∧ W (i + 1) m' σ' H') ∧ ∀ x H', J.yld i H x H' → g x σ H' fun σ2 H2 => tb { D with nx := N, ct := N, bk := D.nx } σ2 H2)
/-- the records at fp as they stand -/
def pinsAt (fp : List Addr) (h : Heap) : List (Addr × Obj) := fp.filterMap fun b => (h.get? b).map fun o => (b, o)
theorem mem_pinsAt {fp : List Addr} {h : Heap} {b : Addr} {o : Obj} (hb : b ∈ fp) (e : h.get? b = some o) : (b, o) ∈ pinsAt fp h := List.mem_filterMap.mpr ⟨b, hb, by rw [e]; rfl⟩
theorem of_pinsAt {fp : List Addr} {h : Heap} {p : Addr × Obj} (hp : p ∈ pinsAt fp h) : p.1 ∈ fp ∧ h.get? p.1 = some p.2 := by
  obtain ⟨b, hb, e⟩ := List.mem_filterMap.mp hp
  cases q : h.get? b with
  | none => rw [q] at e; cases e
  | some o =>
    rw [q] at e
    have e' : (b, o) = p := Option.some.inj e
    subst e'
    exact ⟨hb, q⟩
theorem Inv.pinned {pins : List (Addr × Obj)} {σ : St} {H : Hp} {s : Shared} {fp : List Addr} (I : Inv X pins σ H s) (hf : ∀ b ∈ fp, FpOk X pins H b) (ho : ∀ b ∈ fp, ∃ o, s.heap.get? b = some o ∧ ∀ v, o.data ≠ .cell v) : Inv X (pins ++ pinsAt fp s.heap) σ H s :=
  I.pins_of fun p hp => (List.mem_append.mp hp).elim (fun z => I.pin p (List.mem_append_right _ z)) fun z => by
    obtain ⟨hb, e⟩ := of_pinsAt z
    obtain ⟨f0, f1, f2, _⟩ := hf p.1 hb
    obtain ⟨o, e', d⟩ := ho p.1 hb
    rw [e] at e'; cases e'
    exact ⟨e, f0, f1, f2, d⟩
theorem Inv.unpinned {pins pl : List (Addr × Obj)} {σ : St} {H : Hp} {s : Shared} (I : Inv X (pins ++ pl) σ H s) : Inv X pins σ H s := I.pins_of fun p hp => I.pin p (List.mem_append_right _ (List.mem_append_left _ hp))
theorem ps_for {iter : Expr} {body : List Stmt} {wi : TI} {g : TG} {tb : TS} {pos : Pos} (hp : PassesOwn (model X.prog X.w) X.A X.env X.xe) (hc : X.calm = true) (hi : PI X tg iter wi) (hg : PG X tg g) (hb : PSs X body tb)
    (hs : ∀ x, foldedSetIterable iter X.env x = pure x := by intro _; rfl) : PS X (.For tg iter body [] pos) (tFor wi g tb) := by
  intro pins s σ H D I h
  refine wpAny_For (thn (hi pins s σ H _ I h) fun v s1 h1 => thn h1 fun itv s2 h2 => ?_) hs
  obtain ⟨it, fp, tn, J, H2, e, I2, T, st2, f2, W, ⟨m0, w0⟩, turn⟩ := h2
  subst e
  -- what stays true of the iterator's objects through the loop
  have stat : ∀ {H' : Hp}, (∀ b ∈ fp, H' b = none) → ∀ b ∈ fp, FpOk X pins H' b := fun hn b hb => ⟨hn b hb, (f2 b hb).2⟩
  refine codeAny_forLoop_any (fun n s' => ∃ i σ' H', Inv X pins σ' H' s' ∧ tn i s'.heap ∧ (∀ b ∈ fp, H' b = none) ∧ W i n σ' H') ?_ m0 ⟨0, σ, H2, I2, st2, fun b hb => (f2 b hb).1, w0⟩
  rintro n s3 ⟨i, σ3, H3, I3, st3, fr3, w3⟩
  rcases turn i n σ3 H3 w3 with ⟨stop, qn⟩ | ⟨go, N, hN, step⟩
  · refine wpAny_passesOwn hp (thn (T.done X rfl rfl rfl hc i pins s3 σ3 H3 X.xe I3 (stat fr3) st3 stop) fun r s4 ⟨hr, I4⟩ => ?_)
    subst hr
    exact wpAny_execs_nil ⟨σ3, H3, I4, qn⟩
  · refine wpAny_passesOwn hp (thn (T.item X rfl rfl rfl hc i pins s3 σ3 H3 X.xe I3 (stat fr3) st3 go) fun r s4 ⟨u, hr, h4⟩ => ?_)
    subst hr
    refine wpAny_passesOwn hp (thn h4 fun _ s5 ⟨x, H5, I5, r5, y5, st5, fr5⟩ => ?_)
    have I5' := I5.pinned (stat fr5) (T.obj _ _ st5)
    refine wpAny_passesOwn hp (thn (hg _ s5 σ3 H5 x u _ I5' r5 (step x H5 y5)) fun _ s6 ⟨σ6, H6, I6, q6⟩ => ?_)
    refine wpAny_passesOwn hp (thn (hb _ s6 σ6 H6 _ I6 q6) fun f s7 q7 => ?_)
    have again : ∀ {σ7 : St} {H7 : Hp}, Inv X (pins ++ pinsAt fp s5.heap) σ7 H7 s7 → N σ7 H7 → ∃ m, m < n ∧ ∃ i σ' H', Inv X pins σ' H' s7 ∧ tn i s7.heap ∧ (∀ b ∈ fp, H' b = none) ∧ W i m σ' H' := fun {σ7 H7} I7 n7 => by
      obtain ⟨m', hm, w7⟩ := hN σ7 H7 n7
      refine ⟨m', hm, i + 1, σ7, H7, I7.unpinned, T.keep _ _ _ st5 fun b hb o e => (I7.pin (b, o) (List.mem_append_right _ (List.mem_append_right _ (mem_pinsAt hb e)))).1, fun b hb => ?_, w7⟩
      obtain ⟨o, e, d⟩ := T.obj _ _ st5 b hb
      exact (I7.pin (b, o) (List.mem_append_right _ (List.mem_append_right _ (mem_pinsAt hb e)))).2.1
    cases f with
    | next => obtain ⟨σ7, H7, I7, n7⟩ := q7; exact again I7 n7
    | cont => obtain ⟨σ7, H7, I7, n7⟩ := q7; exact again I7 n7
    | brk => obtain ⟨σ7, H7, I7, q7⟩ := q7; exact ⟨σ7, H7, I7.unpinned, q7⟩
    | ret v => obtain ⟨x7, σ7, H7, I7, r7, q7⟩ := q7; exact ⟨x7, σ7, H7, I7.unpinned, r7, q7⟩
end

/-! ### the forms one uses -/
/-- over a list that the body leaves as it is -/
theorem for_list {K : PySem.W.Frag} {a : Addr} {xs : List V} {g : TG} {tb : TS} {D : Ends} {σ : St} {H : Hp} (Pv : Nat → St → Hp → Prop) (h0 : Pv 0 σ H) (hl : ∀ i σ H, i ≤ xs.length → Pv i σ H → SqL K H a xs)
    (hs : ∀ i x σ H, xs[i]? = some x → Pv i σ H → g x σ H fun σ2 H2 => tb { D with nx := Pv (i + 1), ct := Pv (i + 1), bk := D.nx } σ2 H2) (hd : ∀ σ H, Pv xs.length σ H → D.nx σ H) :
    ∃ W : Nat → Nat → St → Hp → Prop, (∃ m, W 0 m σ H) ∧ ∀ i m σ H, W i m σ H →
      ((Itl K a).stop i H ∧ D.nx σ H) ∨ ((Itl K a).go i H ∧ ∃ N : St → Hp → Prop, (∀ σ' H', N σ' H' → ∃ m', m' < m ∧ W (i + 1) m' σ' H') ∧ ∀ x H', (Itl K a).yld i H x H' → g x σ H' fun σ2 H2 => tb { D with nx := N, ct := N, bk := D.nx } σ2 H2) := by
  refine ⟨fun i m σ H => m = xs.length - i ∧ i ≤ xs.length ∧ Pv i σ H, ⟨xs.length, by simp, Nat.zero_le _, h0⟩, ?_⟩
  rintro i m σ H ⟨rfl, hi, p⟩
  have q := hl i σ H hi p
  by_cases hlt : i < xs.length
  · refine .inr ⟨⟨xs, xs[i], q, by simp [hlt]⟩, Pv (i + 1), fun σ' H' p' => ⟨xs.length - (i + 1), by omega, rfl, hlt, p'⟩, fun x H' y => ?_⟩
    obtain ⟨e, y⟩ := y
    subst e
    exact hs i x σ _ (y xs q) p
  · have e : i = xs.length := by omega
    subst e
    exact .inl ⟨⟨xs, q, Nat.le_refl _⟩, hd σ H p⟩
theorem for_tup {K : PySem.W.Frag} {a : Addr} {xs : List V} {g : TG} {tb : TS} {D : Ends} {σ : St} {H : Hp} (Pv : Nat → St → Hp → Prop) (h0 : Pv 0 σ H) (hl : ∀ i σ H, i ≤ xs.length → Pv i σ H → SqT K H a xs)
    (hs : ∀ i x σ H, xs[i]? = some x → Pv i σ H → g x σ H fun σ2 H2 => tb { D with nx := Pv (i + 1), ct := Pv (i + 1), bk := D.nx } σ2 H2) (hd : ∀ σ H, Pv xs.length σ H → D.nx σ H) :
    ∃ W : Nat → Nat → St → Hp → Prop, (∃ m, W 0 m σ H) ∧ ∀ i m σ H, W i m σ H →
      ((Itt K a).stop i H ∧ D.nx σ H) ∨ ((Itt K a).go i H ∧ ∃ N : St → Hp → Prop, (∀ σ' H', N σ' H' → ∃ m', m' < m ∧ W (i + 1) m' σ' H') ∧ ∀ x H', (Itt K a).yld i H x H' → g x σ H' fun σ2 H2 => tb { D with nx := N, ct := N, bk := D.nx } σ2 H2) := by
  refine ⟨fun i m σ H => m = xs.length - i ∧ i ≤ xs.length ∧ Pv i σ H, ⟨xs.length, by simp, Nat.zero_le _, h0⟩, ?_⟩
  rintro i m σ H ⟨rfl, hi, p⟩
  have q := hl i σ H hi p
  by_cases hlt : i < xs.length
  · refine .inr ⟨⟨xs, xs[i], q, by simp [hlt]⟩, Pv (i + 1), fun σ' H' p' => ⟨xs.length - (i + 1), by omega, rfl, hlt, p'⟩, fun x H' y => ?_⟩
    obtain ⟨e, y⟩ := y
    subst e
    exact hs i x σ _ (y xs q) p
  · have e : i = xs.length := by omega
    subst e
    exact .inl ⟨⟨xs, q, Nat.le_refl _⟩, hd σ H p⟩
theorem for_range {lo : Int} {n : Nat} {g : TG} {tb : TS} {D : Ends} {σ : St} {H : Hp} (Pv : Nat → St → Hp → Prop) (h0 : Pv 0 σ H)
    (hs : ∀ i σ H, i < n → Pv i σ H → g (.int (lo + i)) σ H fun σ2 H2 => tb { D with nx := Pv (i + 1), ct := Pv (i + 1), bk := D.nx } σ2 H2) (hd : ∀ σ H, Pv n σ H → D.nx σ H) :
    ∃ W : Nat → Nat → St → Hp → Prop, (∃ m, W 0 m σ H) ∧ ∀ i m σ H, W i m σ H →
      ((Itr lo n).stop i H ∧ D.nx σ H) ∨ ((Itr lo n).go i H ∧ ∃ N : St → Hp → Prop, (∀ σ' H', N σ' H' → ∃ m', m' < m ∧ W (i + 1) m' σ' H') ∧ ∀ x H', (Itr lo n).yld i H x H' → g x σ H' fun σ2 H2 => tb { D with nx := N, ct := N, bk := D.nx } σ2 H2) := by
  refine ⟨fun i m σ H => m = n - i ∧ i ≤ n ∧ Pv i σ H, ⟨n, by simp, Nat.zero_le _, h0⟩, ?_⟩
  rintro i m σ H ⟨rfl, hi, p⟩
  by_cases hlt : i < n
  · refine .inr ⟨hlt, Pv (i + 1), fun σ' H' p' => ⟨n - (i + 1), by omega, rfl, hlt, p'⟩, fun x H' y => ?_⟩
    obtain ⟨e, y⟩ := y
    subst e y
    exact hs i σ _ hlt p
  · have e : i = n := by omega
    subst e
    exact .inl ⟨Nat.le_refl _, hd σ H p⟩
/-- while, by a word and a measure of the state -/
theorem while_by {c : TT} {tb : TS} {D : Ends} {σ : St} {H : Hp} (Pv : St → Hp → Prop) (μ : St → Hp → Nat) (h0 : Pv σ H)
    (hs : ∀ σ H, Pv σ H → c σ H fun b H1 => if b = true then tb { D with nx := fun σ' H' => Pv σ' H' ∧ μ σ' H' < μ σ H, ct := fun σ' H' => Pv σ' H' ∧ μ σ' H' < μ σ H, bk := D.nx } σ H1 else D.nx σ H1)
    (mono : ∀ σ H Q Q', (∀ b H1, Q b H1 → Q' b H1) → c σ H Q → c σ H Q') : tWhile c tb D σ H := by
  refine ⟨fun m σ H => m = μ σ H ∧ Pv σ H, ⟨_, rfl, h0⟩, ?_⟩
  rintro m σ H ⟨rfl, p⟩
  refine mono σ H _ _ (fun b H1 q => ?_) (hs σ H p)
  cases b with
  | true => exact ⟨_, fun σ' H' ⟨p', l⟩ => ⟨_, l, rfl, p'⟩, q⟩
  | false => exact q
end L2

namespace L2
open PySem PySem.Spec PyProof.Rows

abbrev R2 := V → V → Hp → VK → Prop
/-- a two-place operation on values: f is binaryOp op, inplaceOp op or compareOp op -/
def OpR (X : Cx) (f : Value → Value → Sem Value) (r : R2) : Prop :=
  ∀ (pins : List (Addr × Obj)) (s : Shared) (σ : St) (H : Hp) (x y : V) (v u : Value) (Q : VK), Inv X pins σ H s → RelV x v → RelV y u → r x y H Q →
    wpAny (model X.prog X.w) X.A (f v u) (EP X pins σ Q) X.xe s
/-- a one-place operation -/
def UnR (X : Cx) (f : Value → Sem Value) (r : V → Hp → VK → Prop) : Prop :=
  ∀ (pins : List (Addr × Obj)) (s : Shared) (σ : St) (H : Hp) (x : V) (v : Value) (Q : VK), Inv X pins σ H s → RelV x v → r x H Q →
    wpAny (model X.prog X.w) X.A (f v) (EP X pins σ Q) X.xe s
/-- a call of a value that is known (a builtin, a type) with values -/
def CallR (X : Cx) (f : Value) (r : List V → Hp → VK → Prop) : Prop :=
  ∀ (pins : List (Addr × Obj)) (s : Shared) (σ : St) (H : Hp) (xs : List V) (us : List Value) (Q : VK), Inv X pins σ H s → Vals xs us → r xs H Q →
    wpAny (model X.prog X.w) X.A (call f us) (EP X pins σ Q) X.xe s
/-- a value's truth -/
def TruR (X : Cx) (r : V → Hp → (Bool → Hp → Prop) → Prop) : Prop :=
  ∀ (pins : List (Addr × Obj)) (s : Shared) (σ : St) (H : Hp) (x : V) (v : Value) (Q : Bool → Hp → Prop), Inv X pins σ H s → RelV x v → r x H Q →
    wpAny (model X.prog X.w) X.A (truthy v) (TP X pins σ Q) X.xe s

def tOp (r : R2) (ta tb : TE) : TE := fun σ H Q => ta σ H fun x H1 => tb σ H1 fun y H2 => r x y H2 Q
def tUn (r : V → Hp → VK → Prop) (ta : TE) : TE := fun σ H Q => ta σ H fun x H1 => r x H1 Q
/-- ints in, under C, and a value out -/
def rI (C : Int → Int → Prop) (g : Int → Int → V) : R2 := fun x y H Q => ∃ i j, x = .int i ∧ y = .int j ∧ C i j ∧ Q (g i j) H
def rI0 (g : Int → Int → V) : R2 := fun x y H Q => ∃ i j, x = .int i ∧ y = .int j ∧ Q (g i j) H
def rU (g : Int → V) : V → Hp → VK → Prop := fun x H Q => ∃ i, x = .int i ∧ Q (g i) H

section
variable {X : Cx} {a b c : Expr} {ta tb tc : TE} {pos : Pos}

theorem binT (ha : PE X a ta) (hb : PE X b tb) {pins : List (Addr × Obj)} {s : Shared} {σ : St} {H : Hp} {R : V → V → Hp → Prop} (I : Inv X pins σ H s)
    (h : ta σ H fun x H1 => tb σ H1 fun y H2 => R x y H2) {Q : Value → Shared → Prop} {f : Value → Value → Sem Value}
    (hf : ∀ v u s2 x y H2, Inv X pins σ H2 s2 → RelV x v → RelV y u → R x y H2 → wpAny (model X.prog X.w) X.A (f v u) Q X.xe s2) :
    wpAny (model X.prog X.w) X.A (eval a X.env) (fun v s₁ => wpAny (model X.prog X.w) X.A (eval b X.env) (fun u s₂ => wpAny (model X.prog X.w) X.A (f v u) Q X.xe s₂) X.xe s₁) X.xe s := by
  refine thn (ha pins s σ H _ I h) fun v s1 ⟨x, H1, I1, r1, q1⟩ => ?_
  refine thn (hb pins s1 σ H1 _ I1 q1) fun u s2 ⟨y, H2, I2, r2, q2⟩ => ?_
  exact hf v u s2 x y H2 I2 r1 r2 q2

theorem pe_op {op : Operator} {r : R2} (ho : OpR X (binaryOp op) r) (ha : PE X a ta) (hb : PE X b tb) : PE X (.BinOp a op b pos) (tOp r ta tb) := by
  intro pins s σ H Q I h
  exact wpAny_BinOp (binT ha hb I h fun v u s2 x y H2 I2 rx ry q => ho pins s2 σ H2 x y v u Q I2 rx ry q)
theorem pe_un {op : UnaryOp} {r : V → Hp → VK → Prop} (ho : UnR X (unaryOp op) r) (ha : PE X a ta) : PE X (.UnaryOp op a pos) (tUn r ta) := by
  intro pins s σ H Q I h
  exact UnaryOp_ (thn (ha pins s σ H _ I h) fun v s1 ⟨x, H1, I1, r1, q1⟩ => ho pins s1 σ H1 x v Q I1 r1 q1)
/-- a op= e at a name: the name's slot i -/
theorem augR {op : Operator} {r : R2} (ho : OpR X (inplaceOp op) r) {pins : List (Addr × Obj)} {s : Shared} {σ : St} {H : Hp} {x y : V} {v u : Value} {Q : VK} (I : Inv X pins σ H s)
    (rx : RelV x v) (ry : RelV y u) (q : r x y H Q) : wpAny (model X.prog X.w) X.A (inplaceOp op v u) (EP X pins σ Q) X.xe s := ho pins s σ H x y v u Q I rx ry q

/-! ### ints -/
theorem opI {f : Value → Value → Sem Value} {C : Int → Int → Prop} {g : Int → Int → Int}
    (rule : ∀ (i j : Int) (t u : Tok) (s : Shared) (Q : Value → Shared → Prop) (E : Value → Shared → Prop), C i j → Q (.int (g i j) s.toks) { s with toks := s.toks + 1 } → wpAny (model X.prog X.w) X.A (f (.int i t) (.int j u)) Q E s) :
    OpR X f (rI C fun i j => .int (g i j)) := by
  intro pins s σ H x y v u Q I rx ry h
  obtain ⟨i, j, rfl, rfl, hc, q⟩ := h
  obtain ⟨t, rfl⟩ := rx
  obtain ⟨t', rfl⟩ := ry
  exact rule i j t t' s _ _ hc ⟨.int (g i j), H, I.tok _, ⟨_, rfl⟩, q⟩
theorem opI0 {f : Value → Value → Sem Value} {g : Int → Int → Int}
    (rule : ∀ (i j : Int) (t u : Tok) (s : Shared) (Q : Value → Shared → Prop) (E : Value → Shared → Prop), Q (.int (g i j) s.toks) { s with toks := s.toks + 1 } → wpAny (model X.prog X.w) X.A (f (.int i t) (.int j u)) Q E s) :
    OpR X f (rI0 fun i j => .int (g i j)) := by
  intro pins s σ H x y v u Q I rx ry h
  obtain ⟨i, j, rfl, rfl, q⟩ := h
  obtain ⟨t, rfl⟩ := rx
  obtain ⟨t', rfl⟩ := ry
  exact rule i j t t' s _ _ ⟨.int (g i j), H, I.tok _, ⟨_, rfl⟩, q⟩
theorem opB0 {f : Value → Value → Sem Value} {g : Int → Int → Bool}
    (rule : ∀ (i j : Int) (t u : Tok) (s : Shared) (Q : Value → Shared → Prop) (E : Value → Shared → Prop), Q (.bool (g i j)) s → wpAny (model X.prog X.w) X.A (f (.int i t) (.int j u)) Q E s) :
    OpR X f (rI0 fun i j => .bl (g i j)) := by
  intro pins s σ H x y v u Q I rx ry h
  obtain ⟨i, j, rfl, rfl, q⟩ := h
  obtain ⟨t, rfl⟩ := rx
  obtain ⟨t', rfl⟩ := ry
  exact rule i j t t' s _ _ ⟨.bl (g i j), H, I, rfl, q⟩

def CDiv (i j : Int) : Prop := 0 < j ∧ j < 1073741824
def CDivN (i j : Int) : Prop := j ≠ 0 ∧ j.natAbs < 1073741824
def CPow (i j : Int) : Prop := 0 ≤ j ∧ j ≤ 1000000 ∧ i.natAbs < 2 ^ 64
def CMul (i j : Int) : Prop := (-(2 ^ 64) < i ∧ i < 2 ^ 64) ∨ (-(2 ^ 64) < j ∧ j < 2 ^ 64)
theorem CMul.ok {i j : Int} (h : CMul i j) : IntMulOk i j := by
  rcases h with ⟨h1, h2⟩ | ⟨h1, h2⟩
  · exact .of_left (intBits_le_64 h1 h2)
  · exact .of_right (intBits_le_64 h1 h2)
theorem two_pow_nn (k : Nat) : (0 : Int) ≤ 2 ^ k := by
  rw [two_pow_cast]
  exact Int.natCast_nonneg _

theorem op_add : OpR X (binaryOp .Add) (rI0 fun i j => .int (i + j)) := opI0 fun _ _ _ _ _ _ _ q => add_int q
theorem op_sub : OpR X (binaryOp .Sub) (rI0 fun i j => .int (i - j)) := opI0 fun _ _ _ _ _ _ _ q => sub_int q
theorem op_mul : OpR X (binaryOp .Mult) (rI CMul fun i j => .int (i * j)) := opI fun _ _ _ _ _ _ _ hc q => mul_int q hc.ok
/-- // by a positive divisor -/
theorem op_fdiv : OpR X (binaryOp .FloorDiv) (rI CDiv fun i j => .int (i / j)) := opI fun i j _ _ _ _ _ hc q => by
  have h1 : (0 : Int) < j := hc.1
  have h2 : j < 1073741824 := hc.2
  exact floordiv_int (by omega) (by rw [Int.fdiv_eq_ediv_of_nonneg i (by omega)]; exact q) (.inl (PyProof.noPylong_small (by omega)))
theorem op_fdivN : OpR X (binaryOp .FloorDiv) (rI CDivN fun i j => .int (i.fdiv j)) := opI fun _ _ _ _ _ _ _ hc q => floordiv_int hc.1 q (.inl (PyProof.noPylong_small hc.2))
/-- % by a positive divisor of any size -/
theorem op_mod : OpR X (binaryOp .Mod) (rI (fun _ j => 0 < j) fun i j => .int (i % j)) := opI fun i j _ _ _ _ _ hc q => by
  have h1 : (0 : Int) < j := hc
  exact mod_int' (by omega) (by rw [Int.fmod_eq_emod_of_nonneg i (by omega)]; exact q)
theorem op_modN : OpR X (binaryOp .Mod) (rI (fun _ j => j ≠ 0) fun i j => .int (i.fmod j)) := opI fun _ _ _ _ _ _ _ hc q => mod_int' hc q
theorem op_pow : OpR X (binaryOp .Pow) (rI CPow fun i j => .int (i ^ j.toNat)) := opI fun _ _ _ _ _ _ _ hc q => pow_int_small hc.1 hc.2.1 hc.2.2 q
theorem op_shl : OpR X (binaryOp .LShift) (rI CPow fun i j => .int (i * 2 ^ j.toNat)) := opI fun _ _ _ _ _ _ _ hc q => lshift_int_small hc.1 hc.2.1 hc.2.2 q
theorem op_shr : OpR X (binaryOp .RShift) (rI (fun _ j => 0 ≤ j) fun i j => .int (i / 2 ^ j.toNat)) := opI fun i j _ _ _ _ _ hc q =>
  rshift_int hc (by rw [Int.fdiv_eq_ediv_of_nonneg i (two_pow_nn _)]; exact q)
theorem op_and : OpR X (binaryOp .BitAnd) (rI0 fun i j => .int (Builtin.bitAnd i j)) := opI0 fun _ _ _ _ _ _ _ q => and_int q
theorem op_or : OpR X (binaryOp .BitOr) (rI0 fun i j => .int (Builtin.bitOr i j)) := opI0 fun _ _ _ _ _ _ _ q => or_int q
theorem op_xor : OpR X (binaryOp .BitXor) (rI0 fun i j => .int (Builtin.bitXor i j)) := opI0 fun _ _ _ _ _ _ _ q => xor_int q

theorem iop_add : OpR X (inplaceOp .Add) (rI0 fun i j => .int (i + j)) := opI0 fun _ _ _ _ _ _ _ q => iadd_int q
theorem iop_sub : OpR X (inplaceOp .Sub) (rI0 fun i j => .int (i - j)) := opI0 fun _ _ _ _ _ _ _ q => isub_int q
theorem iop_mul : OpR X (inplaceOp .Mult) (rI CMul fun i j => .int (i * j)) := opI fun _ _ _ _ _ _ _ hc q => imul_int q hc.ok
theorem iop_fdiv : OpR X (inplaceOp .FloorDiv) (rI CDiv fun i j => .int (i / j)) := opI fun i j _ _ _ _ _ hc q => by
  have h1 : (0 : Int) < j := hc.1
  have h2 : j < 1073741824 := hc.2
  exact ifloordiv_int (by omega) (by rw [Int.fdiv_eq_ediv_of_nonneg i (by omega)]; exact q) (.inl (PyProof.noPylong_small (by omega)))
theorem iop_mod : OpR X (inplaceOp .Mod) (rI (fun _ j => 0 < j) fun i j => .int (i % j)) := opI fun i j _ _ _ _ _ hc q => by
  have h1 : (0 : Int) < j := hc
  exact imod_int (by omega) (by rw [Int.fmod_eq_emod_of_nonneg i (by omega)]; exact q)
theorem iop_shl : OpR X (inplaceOp .LShift) (rI CPow fun i j => .int (i * 2 ^ j.toNat)) := opI fun _ _ _ _ _ _ _ hc q => ilshift_int_small hc.1 hc.2.1 hc.2.2 q
theorem iop_shr : OpR X (inplaceOp .RShift) (rI (fun _ j => 0 ≤ j) fun i j => .int (i / 2 ^ j.toNat)) := opI fun i j _ _ _ _ _ hc q =>
  irshift_int hc (by rw [Int.fdiv_eq_ediv_of_nonneg i (two_pow_nn _)]; exact q)
theorem iop_and : OpR X (inplaceOp .BitAnd) (rI0 fun i j => .int (Builtin.bitAnd i j)) := opI0 fun _ _ _ _ _ _ _ q => iand_int q
theorem iop_or : OpR X (inplaceOp .BitOr) (rI0 fun i j => .int (Builtin.bitOr i j)) := opI0 fun _ _ _ _ _ _ _ q => ior_int q
theorem iop_xor : OpR X (inplaceOp .BitXor) (rI0 fun i j => .int (Builtin.bitXor i j)) := opI0 fun _ _ _ _ _ _ _ q => ixor_int q

theorem unI {f : Value → Sem Value} {g : Int → Int}
    (rule : ∀ (i : Int) (t : Tok) (s : Shared) (Q : Value → Shared → Prop) (E : Value → Shared → Prop), Q (.int (g i) s.toks) { s with toks := s.toks + 1 } → wpAny (model X.prog X.w) X.A (f (.int i t)) Q E s) :
    UnR X f (rU fun i => .int (g i)) := by
  intro pins s σ H x v Q I rx h
  obtain ⟨i, rfl, q⟩ := h
  obtain ⟨t, rfl⟩ := rx
  exact rule i t s _ _ ⟨.int (g i), H, I.tok _, ⟨_, rfl⟩, q⟩
theorem un_neg : UnR X (unaryOp .USub) (rU fun i => .int (-i)) := unI fun _ _ _ _ _ q => neg_int q
theorem un_inv : UnR X (unaryOp .Invert) (rU fun i => .int (Builtin.bitNot i)) := unI fun _ _ _ _ _ q => invert_int q

/-! ### bools among ints: n += (a < b) -/
theorem op_add_ib : OpR X (binaryOp .Add) (fun x y H Q => ∃ i k, x = .int i ∧ y = .bl k ∧ Q (.int (i + b2i k)) H) := by
  intro pins s σ H x y v u Q I rx ry h
  obtain ⟨i, k, rfl, rfl, q⟩ := h
  obtain ⟨t, rfl⟩ := rx
  cases ry
  exact add_int_bool ⟨.int (i + b2i k), H, I.tok _, ⟨_, rfl⟩, q⟩
end

/-! ### comparisons -/
/-- the scalars that == tells apart as data does -/
def scal : V → V → Bool
  | .non, .non => true | .non, .int _ => true | .int _, .non => true | .non, .bl _ => true | .bl _, .non => true | .non, .str _ => true | .str _, .non => true
  | .int _, .int _ => true | .bl _, .bl _ => true | .str _, .str _ => true | .byt _, .byt _ => true
  | .int _, .str _ => true | .str _, .int _ => true | .bl _, .str _ => true | .str _, .bl _ => true
  | _, _ => false
def rEq : R2 := fun x y H Q => scal x y = true ∧ Q (.bl (decide (x = y))) H
def rNe : R2 := fun x y H Q => scal x y = true ∧ Q (.bl (!decide (x = y))) H

theorem dec_int {i j : Int} : decide (V.int i = V.int j) = (i == j) := by
  rw [Bool.eq_iff_iff]
  simp
theorem dec_bl {i j : Bool} : decide (V.bl i = V.bl j) = (i == j) := by
  rw [Bool.eq_iff_iff]
  simp
theorem dec_str {i j : Str} : decide (V.str i = V.str j) = (i == j) := by
  rw [Bool.eq_iff_iff]
  simp
theorem dec_byt {i j : Array UInt8} : decide (V.byt i = V.byt j) = (i.toList == j.toList) := by
  rw [Bool.eq_iff_iff]
  cases i
  cases j
  simp

section
variable {X : Cx} {a b c : Expr} {ta tb tc : TE} {pos : Pos}
theorem fin_bl {pins : List (Addr × Obj)} {σ : St} {H : Hp} {s : Shared} {Q : VK} {k k' : Bool} (I : Inv X pins σ H s) (q : Q (.bl k) H) (e : k = k') : EP X pins σ Q (.bool k') s := by
  subst e
  exact ⟨.bl k, H, I, rfl, q⟩
theorem op_eq : OpR X (compareOp .Eq) rEq := by
  intro pins s σ H x y v u Q I rx ry h
  obtain ⟨hs, q⟩ := h
  cases x with
  | non =>
    cases rx
    cases y with
    | non => cases ry; exact PySem.EqNone.eq_none_none (fin_bl I q (by simp))
    | bl j => cases ry; exact PySem.EqNone.eq_none_bool (fin_bl I q (by simp))
    | int j => obtain ⟨t', rfl⟩ := ry; exact PySem.EqNone.eq_none_int (fin_bl I q (by simp))
    | str j => obtain ⟨t', rfl⟩ := ry; exact PySem.EqNone.eq_none_str (fin_bl I q (by simp))
    | _ => exact absurd (show false = true from hs) Bool.false_ne_true
  | bl i =>
    cases rx
    cases y with
    | non => cases ry; exact PySem.EqNone.eq_bool_none (fin_bl I q (by simp))
    | bl j => cases ry; exact eq_bool (fin_bl I q dec_bl)
    | str j => obtain ⟨t', rfl⟩ := ry; exact PySem.EqMixed.eq_bool_str (fin_bl I q (by simp))
    | _ => exact absurd (show false = true from hs) Bool.false_ne_true
  | int i =>
    obtain ⟨t, rfl⟩ := rx
    cases y with
    | non => cases ry; exact PySem.EqNone.eq_int_none (fin_bl I q (by simp))
    | int j => obtain ⟨t', rfl⟩ := ry; exact eq_int (fin_bl I q dec_int)
    | str j => obtain ⟨t', rfl⟩ := ry; exact PySem.EqMixed.eq_int_str (fin_bl I q (by simp))
    | _ => exact absurd (show false = true from hs) Bool.false_ne_true
  | str i =>
    obtain ⟨t, rfl⟩ := rx
    cases y with
    | non => cases ry; exact PySem.EqNone.eq_str_none (fin_bl I q (by simp))
    | bl j => cases ry; exact PySem.EqMixed.eq_str_bool (fin_bl I q (by simp))
    | int j => obtain ⟨t', rfl⟩ := ry; exact PySem.EqMixed.eq_str_int (fin_bl I q (by simp))
    | str j => obtain ⟨t', rfl⟩ := ry; exact eq_str (fin_bl I q dec_str)
    | _ => exact absurd (show false = true from hs) Bool.false_ne_true
  | byt i =>
    obtain ⟨t, rfl⟩ := rx
    cases y with
    | byt j => obtain ⟨t', rfl⟩ := ry; exact PySem.W.eq_bytes (fin_bl I q dec_byt)
    | _ => exact absurd (show false = true from hs) Bool.false_ne_true
  | _ => cases y <;> exact absurd (show false = true from hs) Bool.false_ne_true
theorem op_ne : OpR X (compareOp .NotEq) rNe := by
  intro pins s σ H x y v u Q I rx ry h
  obtain ⟨hs, q⟩ := h
  cases x with
  | non =>
    cases rx
    cases y with
    | non => cases ry; exact PySem.EqNone.ne_none_none (fin_bl I q (by simp))
    | bl j => cases ry; exact PySem.EqNone.ne_none_bool (fin_bl I q (by simp))
    | int j => obtain ⟨t', rfl⟩ := ry; exact PySem.EqNone.ne_none_int (fin_bl I q (by simp))
    | str j => obtain ⟨t', rfl⟩ := ry; exact PySem.EqNone.ne_none_str (fin_bl I q (by simp))
    | _ => exact absurd (show false = true from hs) Bool.false_ne_true
  | bl i =>
    cases rx
    cases y with
    | non => cases ry; exact PySem.EqNone.ne_bool_none (fin_bl I q (by simp))
    | bl j => cases ry; exact ne_bool (fin_bl I q (congrArg not dec_bl))
    | str j => obtain ⟨t', rfl⟩ := ry; exact PySem.EqMixed.ne_bool_str (fin_bl I q (by simp))
    | _ => exact absurd (show false = true from hs) Bool.false_ne_true
  | int i =>
    obtain ⟨t, rfl⟩ := rx
    cases y with
    | non => cases ry; exact PySem.EqNone.ne_int_none (fin_bl I q (by simp))
    | int j => obtain ⟨t', rfl⟩ := ry; exact ne_int (fin_bl I q (congrArg not dec_int))
    | str j => obtain ⟨t', rfl⟩ := ry; exact PySem.EqMixed.ne_int_str (fin_bl I q (by simp))
    | _ => exact absurd (show false = true from hs) Bool.false_ne_true
  | str i =>
    obtain ⟨t, rfl⟩ := rx
    cases y with
    | non => cases ry; exact PySem.EqNone.ne_str_none (fin_bl I q (by simp))
    | bl j => cases ry; exact PySem.EqMixed.ne_str_bool (fin_bl I q (by simp))
    | int j => obtain ⟨t', rfl⟩ := ry; exact PySem.EqMixed.ne_str_int (fin_bl I q (by simp))
    | str j => obtain ⟨t', rfl⟩ := ry; exact ne_str (fin_bl I q (congrArg not dec_str))
    | _ => exact absurd (show false = true from hs) Bool.false_ne_true
  | byt i =>
    obtain ⟨t, rfl⟩ := rx
    cases y with
    | byt j => obtain ⟨t', rfl⟩ := ry; exact PySem.W.ne_bytes (fin_bl I q (congrArg not dec_byt))
    | _ => exact absurd (show false = true from hs) Bool.false_ne_true
  | _ => cases y <;> exact absurd (show false = true from hs) Bool.false_ne_true

theorem op_lt : OpR X (compareOp .Lt) (rI0 fun i j => .bl (decide (i < j))) := opB0 fun _ _ _ _ _ _ _ q => lt_int q
theorem op_le : OpR X (compareOp .LtE) (rI0 fun i j => .bl (decide (i ≤ j))) := opB0 fun _ _ _ _ _ _ _ q => le_int q
theorem op_gt : OpR X (compareOp .Gt) (rI0 fun i j => .bl (decide (j < i))) := opB0 fun _ _ _ _ _ _ _ q => gt_int q
theorem op_ge : OpR X (compareOp .GtE) (rI0 fun i j => .bl (decide (j ≤ i))) := opB0 fun _ _ _ _ _ _ _ q => ge_int q
theorem op_lt_str : OpR X (compareOp .Lt) (fun x y H Q => ∃ i j, x = .str i ∧ y = .str j ∧ Q (.bl (decide (i.cps.toList < j.cps.toList))) H) := by
  intro pins s σ H x y v u Q I rx ry h
  obtain ⟨i, j, rfl, rfl, q⟩ := h
  obtain ⟨t, rfl⟩ := rx
  obtain ⟨t', rfl⟩ := ry
  exact lt_str (fin_bl I q rfl)
/-- the one string within the other -/
theorem op_in_str : OpR X (compareOp .In) (fun x y H Q => ∃ i j, x = .str i ∧ y = .str j ∧ Q (.bl (!(Builtin.Str.occurrences j i 0 j.length 1).isEmpty)) H) := by
  intro pins s σ H x y v u Q I rx ry h
  obtain ⟨i, j, rfl, rfl, q⟩ := h
  obtain ⟨t, rfl⟩ := rx
  obtain ⟨t', rfl⟩ := ry
  exact in_str (fin_bl I q rfl)

/-- is None, is not None: the right side a value none -/
theorem op_isN : OpR X (compareOp .Is) (fun x y H Q => y = .non ∧ Q (.bl (decide (x = .non))) H) := by
  intro pins s σ H x y v u Q I rx ry h
  obtain ⟨rfl, q⟩ := h
  cases ry
  refine is_none_gen (fin_bl I q ?_)
  cases x <;> first
    | (cases rx; rfl)
    | (obtain ⟨t, rfl⟩ := rx; rfl)
theorem op_notN : OpR X (compareOp .IsNot) (fun x y H Q => y = .non ∧ Q (.bl (!decide (x = .non))) H) := by
  intro pins s σ H x y v u Q I rx ry h
  obtain ⟨rfl, q⟩ := h
  cases ry
  refine isnot_none_gen (fin_bl I q ?_)
  cases x <;> first
    | (cases rx; rfl)
    | (obtain ⟨t, rfl⟩ := rx; rfl)

theorem op_notin_str : OpR X (compareOp .NotIn) (fun x y H Q => ∃ i j, x = .str i ∧ y = .str j ∧ Q (.bl (!(!(Builtin.Str.occurrences j i 0 j.length 1).isEmpty))) H) := by
  intro pins s σ H x y v u Q I rx ry h
  obtain ⟨i, j, rfl, rfl, q⟩ := h
  obtain ⟨t, rfl⟩ := rx
  obtain ⟨t', rfl⟩ := ry
  exact notIn_str (fin_bl I q rfl)
/-- is, is not of two objects that are tracked lists or instances -/
def isObj : HO → Bool
  | .lst _ => true
  | .ins _ _ _ => true
  | _ => false
theorem obj_there {pins : List (Addr × Obj)} {s : Shared} {σ : St} {H : Hp} {a : Addr} {o : HO} (I : Inv X pins σ H s) (h : H a = some o) (p : isObj o = true) : ∃ ob, s.heap.get? a = some ob ∧ ob.cls ≠ .type "tuple" := by
  cases o with
  | lst xs =>
    obtain ⟨_, its, n, _, e⟩ : xs.length ≤ sizeLine ∧ ∃ (its : List Value) (n : Nat), Vals xs its ∧ s.heap.get? a = some { cls := .type "list", data := .seq its.toArray n } := I.hok a _ h
    exact ⟨_, e, (by show Value.type "list" ≠ .type "tuple"; decide +kernel)⟩
  | ins C dx fs =>
    have x := I.hok a _ h
    obtain ⟨_, _, _, e, _⟩ := x
    exact ⟨_, e, (by show Value.ref C ≠ .type "tuple"; exact fun z => by cases z)⟩
  | _ => exact absurd (show false = true from p) Bool.false_ne_true
theorem op_is_ref : OpR X (compareOp .Is) (fun x y H Q => ∃ a b oa ob, x = .ref a ∧ y = .ref b ∧ H a = some oa ∧ isObj oa = true ∧ H b = some ob ∧ isObj ob = true ∧ Q (.bl (decide (a = b))) H) := by
  intro pins s σ H x y v u Q I rx ry h
  obtain ⟨a, b, oa, ob, rfl, rfl, ha, pa, hb, pb, q⟩ := h
  cases rx
  cases ry
  obtain ⟨o1, e1, n1⟩ := obj_there I ha pa
  obtain ⟨o2, e2, _⟩ := obj_there I hb pb
  by_cases z : a = b
  · subst z
    exact wpAny_is_ref_self (fin_bl I q (by simp))
  · exact wpAny_is_ref_other z e1 e2 n1 (fin_bl I q (by simp [z]))
theorem op_isnot_ref : OpR X (compareOp .IsNot) (fun x y H Q => ∃ a b oa ob, x = .ref a ∧ y = .ref b ∧ H a = some oa ∧ isObj oa = true ∧ H b = some ob ∧ isObj ob = true ∧ Q (.bl (!decide (a = b))) H) := by
  intro pins s σ H x y v u Q I rx ry h
  obtain ⟨a, b, oa, ob, rfl, rfl, ha, pa, hb, pb, q⟩ := h
  cases rx
  cases ry
  obtain ⟨o1, e1, n1⟩ := obj_there I ha pa
  obtain ⟨o2, e2, _⟩ := obj_there I hb pb
  by_cases z : a = b
  · subst z
    exact wpAny_isNot_ref_self (fin_bl I q (by simp))
  · exact wpAny_isNot_ref_other z e1 e2 n1 (fin_bl I q (by simp [z]))

/-- two rules for one operation: by cases -/
theorem OpR.or {f : Value → Value → Sem Value} {r r' : R2} (h : OpR X f r) (h' : OpR X f r') : OpR X f (fun x y H Q => r x y H Q ∨ r' x y H Q) := by
  intro pins s σ H x y v u Q I rx ry q
  rcases q with q | q
  · exact h pins s σ H x y v u Q I rx ry q
  · exact h' pins s σ H x y v u Q I rx ry q

theorem nomark (b : Expr) {op : CmpOp} (h : op ≠ .In := by decide) (h2 : op ≠ .NotIn := by decide) : behindInMarks op b = false := by
  have e1 : (op == CmpOp.In) = false := by cases op <;> first | rfl | exact absurd rfl h
  have e2 : (op == CmpOp.NotIn) = false := by cases op <;> first | rfl | exact absurd rfl h2
  cases b <;> simp [behindInMarks, e1, e2]
/-- a comparison as a value; hm: nomark b, or (for in, not in) by with_unfolding_all rfl -/
theorem pe_cmpR {op : CmpOp} {r : R2} (ho : OpR X (compareOp op) r) (ha : PE X a ta) (hb : PE X b tb) (hm : behindInMarks op b = false) : PE X (.Compare a [op] [b] pos) (tOp r ta tb) := by
  intro pins s σ H Q I h
  exact wpAny_Compare1 (binT ha hb I h fun v u s2 x y H2 I2 rx ry q => ho pins s2 σ H2 x y v u Q I2 rx ry q) hm
/-- a reading of a value as a test -/
def tTest (t : TE) : TT := fun σ H Q => t σ H fun x H' => ∃ k, x = .bl k ∧ Q k H'
theorem pt_cmpR {op : CmpOp} {r : R2} (ho : OpR X (compareOp op) r) (ha : PE X a ta) (hb : PE X b tb) (hm : behindInMarks op b = false) : PT X (.Compare a [op] [b] pos) (tTest (tOp r ta tb)) := by
  intro pins s σ H Q I h
  refine wpAny_isTrue_Compare1 (thn (ha pins s σ H _ I h) fun v s1 ⟨x, H1, I1, r1, q1⟩ => thn (hb pins s1 σ H1 _ I1 q1) fun u s2 ⟨y, H2, I2, r2, q2⟩ =>
    thn (ho pins s2 σ H2 x y v u _ I2 r1 r2 q2) fun c s3 ⟨z, H3, I3, r3, k, e, q3⟩ => ?_) hm
  subst e
  cases r3
  exact wpAny_truthy_bool ⟨H3, I3, q3⟩
/-- a op1 b op2 c -/
def tChain (r r' : R2) (ta tb tc : TE) : TE := fun σ H Q => ta σ H fun x H1 => tb σ H1 fun y H2 => r x y H2 fun z H3 => ∃ k, z = .bl k ∧
  (if k = true then tc σ H3 fun w' H4 => r' y w' H4 Q else Q (.bl false) H3)
theorem pe_chain {op op' : CmpOp} {r r' : R2} (ho : OpR X (compareOp op) r) (ho' : OpR X (compareOp op') r') (ha : PE X a ta) (hb : PE X b tb) (hc : PE X c tc)
    (hm : lastMarks [op, op'] [b, c] = false := by with_unfolding_all rfl) : PE X (.Compare a [op, op'] [b, c] pos) (tChain r r' ta tb tc) := by
  intro pins s σ H Q I h
  refine Compare_chain (thn (ha pins s σ H _ I h) fun v s1 ⟨x, H1, I1, r1, q1⟩ => chain_link (thn (hb pins s1 σ H1 _ I1 q1) fun u s2 ⟨y, H2, I2, r2, q2⟩ =>
    thn (ho pins s2 σ H2 x y v u _ I2 r1 r2 q2) fun d s3 ⟨z, H3, I3, r3, k, e, q3⟩ => ?_)) hm
  subst e
  cases r3
  refine wpAny_truthy_bool ?_
  cases k with
  | false => exact ite_ff ⟨.bl false, H3, I3, rfl, q3⟩
  | true => exact ite_tt (chain_last (thn (hc pins s3 σ H3 _ I3 q3) fun w' s4 ⟨z', H4, I4, r4, q4⟩ => ho' pins s4 σ H4 y z' u w' Q I4 r2 r4 q4))
theorem pt_chain {op op' : CmpOp} {r r' : R2} (ho : OpR X (compareOp op) r) (ho' : OpR X (compareOp op') r') (ha : PE X a ta) (hb : PE X b tb) (hc : PE X c tc)
    (hm : lastMarks [op, op'] [b, c] = false := by with_unfolding_all rfl) : PT X (.Compare a [op, op'] [b, c] pos) (tTest (tChain r r' ta tb tc)) := by
  intro pins s σ H Q I h
  refine isTrue_chain (thn (ha pins s σ H _ I h) fun v s1 ⟨x, H1, I1, r1, q1⟩ => test_link (thn (hb pins s1 σ H1 _ I1 q1) fun u s2 ⟨y, H2, I2, r2, q2⟩ =>
    thn (ho pins s2 σ H2 x y v u _ I2 r1 r2 q2) fun d s3 ⟨z, H3, I3, r3, k, e, q3⟩ => ?_)) hm
  subst e
  cases r3
  refine wpAny_truthy_bool ?_
  cases k with
  | false =>
    obtain ⟨k', e', q'⟩ := q3
    cases e'
    exact ite_ff ⟨H3, I3, q'⟩
  | true =>
    refine ite_tt (test_last (thn (hc pins s3 σ H3 _ I3 q3) fun w' s4 ⟨z', H4, I4, r4, q4⟩ => thn (ho' pins s4 σ H4 y z' u w' _ I4 r2 r4 q4) fun d' s5 ⟨z2, H5, I5, r5, k2, e2, q5⟩ => ?_))
    subst e2
    cases r5
    exact wpAny_truthy_bool ⟨H5, I5, q5⟩

/-! ### truth -/
/-- a value's truth by the abstract heap -/
def TruV (K : PySem.W.Frag) (x : V) (H : Hp) (k : Bool) : Prop :=
  match x with
  | .non => k = false
  | .bl b => k = b
  | .int i => k = (i != 0)
  | .str y => y.length ≤ sizeLine ∧ k = ((y.length : Int) != 0)
  | .byt y => y.size ≤ sizeLine ∧ k = ((y.size : Int) != 0)
  | .ref p => (∃ xs, SqL K H p xs ∧ k = !xs.isEmpty) ∨ (∃ xs, SqT K H p xs ∧ k = !xs.isEmpty) ∨ ∃ kvs, H p = some (.dK kvs) ∧ k = !kvs.isEmpty
  | _ => False
theorem isEmpty_kv {κ : Type} {kvs : List (κ × V)} {vs : List (κ × Value)} (r : KV kvs vs) : (!vs.isEmpty) = !kvs.isEmpty := by
  cases r <;> rfl
theorem isEmpty_of {xs : List V} {its : List Value} (r : Vals xs its) : (!its.toArray.isEmpty) = !xs.isEmpty := by
  cases r <;> simp
theorem line63 : (sizeLine : Nat) < 2 ^ 63 := by rw [sizeLine_eq]; decide
theorem tru_ok : TruR X (fun x H Q => ∃ k, TruV X.K x H k ∧ Q k H) := by
  intro pins s σ H x v Q I rx h
  obtain ⟨k, e, q⟩ := h
  have hl := line63
  have hs : sizeLine = 16777216 := sizeLine_eq
  cases x with
  | non =>
    cases rx
    have e' : k = false := e
    subst e'
    exact truthy_none ⟨H, I, q⟩
  | bl b =>
    cases rx
    have e' : k = b := e
    subst e'
    exact wpAny_truthy_bool ⟨H, I, q⟩
  | int i =>
    obtain ⟨t, rfl⟩ := rx
    have e' : k = (i != 0) := e
    subst e'
    exact PySem.P.truthy_int ⟨H, I, q⟩
  | str y =>
    obtain ⟨t, rfl⟩ := rx
    obtain ⟨hy, e'⟩ : y.length ≤ sizeLine ∧ k = ((y.length : Int) != 0) := e
    subst e'
    exact PySem.P.truthy_str (by omega) ⟨H, I.tok _, q⟩
  | byt y =>
    obtain ⟨t, rfl⟩ := rx
    obtain ⟨hy, e'⟩ : y.size ≤ sizeLine ∧ k = ((y.size : Int) != 0) := e
    subst e'
    exact PySem.W.truthy_bytes (by omega) ⟨H, I.tok _, q⟩
  | ref p =>
    cases rx
    have e' : (∃ xs, SqL X.K H p xs ∧ k = !xs.isEmpty) ∨ (∃ xs, SqT X.K H p xs ∧ k = !xs.isEmpty) ∨ ∃ kvs, H p = some (.dK kvs) ∧ k = !kvs.isEmpty := e
    rcases e' with ⟨xs, hx, e'⟩ | ⟨xs, hx, e'⟩ | ⟨kvs, hx, e'⟩
    · subst e'
      obtain ⟨its, r, pl, hz⟩ := I.list hx
      have hlen := r.length
      exact wpAny_truthy_list pl.isList (by simp only [List.size_toArray]; omega) ⟨H, I.tok _, by rw [isEmpty_of r]; exact q⟩
    · subst e'
      obtain ⟨its, r, pl, hz⟩ := I.tuple hx
      have hlen := r.length
      exact truthy_tuple pl (by simp only [List.size_toArray]; omega) ⟨H, I.tok _, by rw [isEmpty_of r]; exact q⟩
    · subst e'
      obtain ⟨hz, hS, vs, r, m⟩ : kvs.length ≤ sizeLine ∧ (p == sysModules) = false ∧ ∃ vs, KV kvs vs ∧ s.heap.DictOf (mixKind X.prog X.w) p vs := I.hok p _ hx
      have hlen : kvs.length = vs.length := Paired.length r
      exact wpAny_truthy_dict hS m (by omega) ⟨H, I.tok _, by rw [isEmpty_kv r]; exact q⟩
  | _ => exact (show False from e).elim
/-- any expression whose test is its value's truth (a name, a call, a subscript, a field ..: he by fun _ => rfl) -/
theorem pt_truth (ha : PE X a ta) (he : ∀ whole, isTrue a X.env whole = (do let v ← whole; standAt a.pos; holding [v] (truthy v))) :
    PT X a (fun σ H Q => ta σ H fun x H' => ∃ k, TruV X.K x H' k ∧ Q k H') := by
  intro pins s σ H Q I h
  exact isTrue_plain (thn (ha pins s σ H _ I h) fun v s1 ⟨x, H1, I1, r1, q1⟩ => tru_ok pins s1 σ H1 x v Q I1 r1 q1) (he _)

/-! ### strs and bytes -/
theorem pe_byt {x : List UInt8} {k : Nat} : PE X (.Constant (.bytes x) k pos) (fun _ H Q => Q (.byt x.toArray) H) := fun _ _ _ H _ I h => PySem.W.Constant_bytes ⟨.byt x.toArray, H, I.tok _, ⟨_, rfl⟩, h⟩
theorem op_add_str : OpR X (binaryOp .Add) (fun x y H Q => ∃ i j, x = .str i ∧ y = .str j ∧ i.length + j.length ≤ sizeLine ∧ Q (.str (i ++ j)) H) := by
  intro pins s σ H x y v u Q I rx ry h
  obtain ⟨i, j, rfl, rfl, hz, q⟩ := h
  obtain ⟨t, rfl⟩ := rx
  obtain ⟨t', rfl⟩ := ry
  exact add_str (fun t' tk => ⟨.str (i ++ j), H, I.tok _, ⟨_, rfl⟩, q⟩) hz
theorem iop_add_str : OpR X (inplaceOp .Add) (fun x y H Q => ∃ i j, x = .str i ∧ y = .str j ∧ i.length + j.length ≤ sizeLine ∧ Q (.str (i ++ j)) H) := by
  intro pins s σ H x y v u Q I rx ry h
  obtain ⟨i, j, rfl, rfl, hz, q⟩ := h
  obtain ⟨t, rfl⟩ := rx
  obtain ⟨t', rfl⟩ := ry
  exact iadd_str (fun t' tk => ⟨.str (i ++ j), H, I.tok _, ⟨_, rfl⟩, q⟩) hz
theorem op_add_byt : OpR X (binaryOp .Add) (fun x y H Q => ∃ i j, x = .byt i ∧ y = .byt j ∧ i.size + j.size ≤ 16777216 ∧ Q (.byt (i ++ j)) H) := by
  intro pins s σ H x y v u Q I rx ry h
  obtain ⟨i, j, rfl, rfl, hz, q⟩ := h
  obtain ⟨t, rfl⟩ := rx
  obtain ⟨t', rfl⟩ := ry
  exact PySem.W.KBy.add_bytes hz (fun t' tk => ⟨.byt (i ++ j), H, I.tok _, ⟨_, rfl⟩, q⟩)

def PlainIxT (b : Expr) : Prop := ∀ o i, subscripted b false o i = operate [o, i] (getItem o i)
/-- s[i], 0 ≤ i < len -/
theorem pe_item_str (ha : PE X a ta) (hb : PE X b tb) (hs : PlainIxT b) :
    PE X (.Subscript a b pos) (tOp (fun x y H Q => ∃ z i c, x = .str z ∧ y = .int i ∧ 0 ≤ i ∧ i < 2 ^ 63 ∧ i < z.length ∧ z.cps[i.toNat]? = some c ∧ Q (.str ⟨#[c]⟩) H) ta tb) := by
  intro pins s σ H Q I h
  refine Subscript_ (binT ha hb I h fun v u s2 x y H2 I2 rx ry q => ?_)
  obtain ⟨z, i, c, rfl, rfl, h0, h63, h1, hc, q⟩ := q
  obtain ⟨t, rfl⟩ := rx
  obtain ⟨t', rfl⟩ := ry
  have e : seqIndex? i z.length = some i.toNat := PySem.StrLaws.seqIndex_nonneg h0 h1
  exact tail_any (typeIs_str s2 z t) slot_str_getitem.lookup (getItem_str (c := c) (by
    have e1 : decide (i < -(2 ^ 63 : Int)) = false := decide_eq_false (by omega)
    have e2 : decide (i ≥ 2 ^ 63) = false := decide_eq_false (by omega)
    rw [e1, e2] <;> rfl) (by rw [e]; exact hc) ⟨.str ⟨#[c]⟩, H2, I2.tok _, ⟨_, rfl⟩, q⟩) (hs _ _)
/-- b[i], 0 ≤ i < len -/
theorem pe_item_byt (ha : PE X a ta) (hb : PE X b tb) (hs : PlainIxT b) :
    PE X (.Subscript a b pos) (tOp (fun x y H Q => ∃ (z : List UInt8) (i : Int), x = .byt z.toArray ∧ y = .int i ∧ z.length ≤ sizeLine ∧ 0 ≤ i ∧ i < z.length ∧ Q (.int ((z.getD i.toNat 0).toNat : Nat)) H) ta tb) := by
  intro pins s σ H Q I h
  refine Subscript_ (binT ha hb I h fun v u s2 x y H2 I2 rx ry q => ?_)
  obtain ⟨z, i, rfl, rfl, hz, h0, h1, q⟩ := q
  obtain ⟨t, rfl⟩ := rx
  obtain ⟨t', rfl⟩ := ry
  have hl : sizeLine = 16777216 := sizeLine_eq
  exact tail_any (PySem.W.typeIs_bytes s2 z.toArray t) PySem.W.FB.slot_bytes_getitem.lookup (PySem.W.getItem_bytes (by omega) h0 h1 ⟨.int ((z.getD i.toNat 0).toNat : Nat), H2, I2.tok _, ⟨_, rfl⟩, q⟩) (hs _ _)

/-! ### scalar builtins, by CallR -/
theorem vals1 {x : V} {us : List Value} (r : Vals [x] us) : ∃ u, us = [u] ∧ RelV x u := by
  cases r with
  | cons r1 r2 => cases r2; exact ⟨_, rfl, r1⟩
theorem vals2 {x y : V} {us : List Value} (r : Vals [x, y] us) : ∃ u w', us = [u, w'] ∧ RelV x u ∧ RelV y w' := by
  cases r with
  | cons r1 r2 =>
    cases r2 with
    | cons r3 r4 => cases r4; exact ⟨_, _, rfl, r1, r3⟩
theorem call_abs : CallR X (.builtin "abs") (fun xs H Q => ∃ i, xs = [.int i] ∧ Q (.int (if i < 0 then -i else i)) H) := by
  intro pins s σ H xs us Q I r h
  obtain ⟨i, rfl, q⟩ := h
  obtain ⟨u, rfl, t, rfl⟩ := vals1 r
  exact call_abs_int fun u tk => ⟨.int (if i < 0 then -i else i), H, I.tok _, ⟨_, rfl⟩, q⟩
theorem call_max2 (hc : X.calm = true) : CallR X (.builtin "max") (fun xs H Q => ∃ i j, xs = [.int i, .int j] ∧ Q (.int (if j > i then j else i)) H) := by
  intro pins s σ H xs us Q I r h
  obtain ⟨i, j, rfl, q⟩ := h
  obtain ⟨u, w', rfl, ⟨t, rfl⟩, ⟨t', rfl⟩⟩ := vals2 r
  refine max_two_ints (I.ok.hd hc) fun h' tk k => ⟨_, H, I.kept k, ?_, q⟩
  by_cases hj : j > i
  · rw [if_pos hj, if_pos hj]; exact ⟨_, rfl⟩
  · rw [if_neg hj, if_neg hj]; exact ⟨_, rfl⟩
theorem call_min2 (hc : X.calm = true) : CallR X (.builtin "min") (fun xs H Q => ∃ i j, xs = [.int i, .int j] ∧ Q (.int (if j < i then j else i)) H) := by
  intro pins s σ H xs us Q I r h
  obtain ⟨i, j, rfl, q⟩ := h
  obtain ⟨u, w', rfl, ⟨t, rfl⟩, ⟨t', rfl⟩⟩ := vals2 r
  refine min_two_ints (I.ok.hd hc) fun h' tk k => ⟨_, H, I.kept k, ?_, q⟩
  by_cases hj : j < i
  · rw [if_pos hj, if_pos hj]; exact ⟨_, rfl⟩
  · rw [if_neg hj, if_neg hj]; exact ⟨_, rfl⟩
theorem call_int1 : CallR X (.type "int") (fun xs H Q => (∃ i, xs = [.int i] ∧ Q (.int i) H) ∨ ∃ k, xs = [.bl k] ∧ Q (.int (if k then 1 else 0)) H) := by
  intro pins s σ H xs us Q I r h
  rcases h with ⟨i, rfl, q⟩ | ⟨k, rfl, q⟩
  · obtain ⟨u, rfl, t, rfl⟩ := vals1 r
    exact call_int_int ⟨.int i, H, I, ⟨_, rfl⟩, q⟩
  · obtain ⟨u, rfl, r1⟩ := vals1 r
    cases r1
    exact call_int_bool ⟨.int (if k then 1 else 0), H, I.tok _, ⟨_, rfl⟩, q⟩
theorem call_bool1 : CallR X (.type "bool") (fun xs H Q => (∃ i, xs = [.int i] ∧ Q (.bl (i != 0)) H) ∨ ∃ k, xs = [.bl k] ∧ Q (.bl k) H) := by
  intro pins s σ H xs us Q I r h
  rcases h with ⟨i, rfl, q⟩ | ⟨k, rfl, q⟩
  · obtain ⟨u, rfl, t, rfl⟩ := vals1 r
    exact call_bool_int ⟨.bl (i != 0), H, I, rfl, q⟩
  · obtain ⟨u, rfl, r1⟩ := vals1 r
    cases r1
    exact call_bool_bool ⟨.bl k, H, I, rfl, q⟩
theorem call_str_int : CallR X (.type "str") (fun xs H Q => ∃ i, xs = [.int i] ∧ i.natAbs.log2 < 1920 ∧ Q (.str (toString i)) H) := by
  intro pins s σ H xs us Q I r h
  obtain ⟨i, rfl, hz, q⟩ := h
  obtain ⟨u, rfl, t, rfl⟩ := vals1 r
  exact PySem.P.str_of_int hz ⟨.str _, H, I.tok _, ⟨_, rfl⟩, q⟩
theorem call_ord : CallR X (.builtin "ord") (fun xs H Q => ∃ x, xs = [.str x] ∧ x.length = 1 ∧ Q (.int (x.cps.getD 0 0 : Nat)) H) := by
  intro pins s σ H xs us Q I r h
  obtain ⟨x, rfl, hz, q⟩ := h
  obtain ⟨u, rfl, t, rfl⟩ := vals1 r
  exact ord_of_one hz ⟨.int _, H, I.tok _, ⟨_, rfl⟩, q⟩
theorem call_chr : CallR X (.builtin "chr") (fun xs H Q => ∃ i, xs = [.int i] ∧ 0 ≤ i ∧ i ≤ 1114111 ∧ Q (.str ⟨#[i.toNat]⟩) H) := by
  intro pins s σ H xs us Q I r h
  obtain ⟨i, rfl, h0, h1, q⟩ := h
  obtain ⟨u, rfl, t, rfl⟩ := vals1 r
  exact chr_of_range h0 h1 ⟨.str _, H, I.tok _, ⟨_, rfl⟩, q⟩
/-- len of a str, a bytes, a list, a tuple -/
def LenV (K : PySem.W.Frag) (x : V) (H : Hp) (n : Nat) : Prop :=
  match x with
  | .str y => y.length ≤ sizeLine ∧ n = y.length
  | .byt y => y.size ≤ sizeLine ∧ n = y.size
  | .ref p => (∃ xs, SqL K H p xs ∧ n = xs.length) ∨ ∃ xs, SqT K H p xs ∧ n = xs.length
  | _ => False
theorem call_len : CallR X (.builtin "len") (fun xs H Q => ∃ x n, xs = [x] ∧ LenV X.K x H n ∧ Q (.int n) H) := by
  intro pins s σ H xs us Q I r h
  obtain ⟨x, n, rfl, e, q⟩ := h
  obtain ⟨u, rfl, rx⟩ := vals1 r
  have hl := line63
  have hs : sizeLine = 16777216 := sizeLine_eq
  cases x with
  | str y =>
    obtain ⟨t, rfl⟩ := rx
    obtain ⟨hy, e'⟩ : y.length ≤ sizeLine ∧ n = y.length := e
    subst e'
    exact len_str (by omega) ⟨.int _, H, I.tok _, ⟨_, rfl⟩, q⟩
  | byt y =>
    obtain ⟨t, rfl⟩ := rx
    obtain ⟨hy, e'⟩ : y.size ≤ sizeLine ∧ n = y.size := e
    subst e'
    exact PySem.W.len_bytes (by omega) ⟨.int _, H, I.tok _, ⟨_, rfl⟩, q⟩
  | ref p =>
    cases rx
    have e' : (∃ xs, SqL X.K H p xs ∧ n = xs.length) ∨ ∃ xs, SqT X.K H p xs ∧ n = xs.length := e
    rcases e' with ⟨xs, hx, e'⟩ | ⟨xs, hx, e'⟩
    · subst e'
      obtain ⟨its, r', pl, hz⟩ := I.list hx
      have hlen := r'.length
      exact Calls.call_len_list pl.isList (by simp only [List.size_toArray]; omega) ⟨.int xs.length, H, I.tok _, ⟨_, by simp only [List.size_toArray]; rw [hlen]⟩, q⟩
    · subst e'
      obtain ⟨its, r', pl, hz⟩ := I.tuple hx
      have hlen := r'.length
      exact len_tuple pl (by simp only [List.size_toArray]; omega) ⟨.int xs.length, H, I.tok _, ⟨_, by simp only [List.size_toArray]; rw [hlen]⟩, q⟩
  | _ => exact (show False from e).elim
/-- divmod: a new tuple -/
theorem call_divmod : CallR X (.builtin "divmod") (fun xs H Q => ∃ i j, xs = [.int i, .int j] ∧ CDiv i j ∧ ∀ p, H p = none → Q (.ref p) (upd H p (.tup [.int (i / j), .int (i % j)]))) := by
  intro pins s σ H xs us Q I r h
  obtain ⟨i, j, rfl, ⟨h1, h2⟩, q⟩ := h
  obtain ⟨u, w', rfl, ⟨t, rfl⟩, ⟨t', rfl⟩⟩ := vals2 r
  refine divmod_int (by omega) ?_ (.inl (PyProof.noPylong_small (by omega)))
  rw [Int.fdiv_eq_ediv_of_nonneg i (by omega), Int.fmod_eq_emod_of_nonneg i (by omega)]
  have hn : H s.heap.objs.size = none := I.hok.fresh (Nat.le_refl _)
  refine ⟨.ref s.heap.objs.size, _, ?_, rfl, q _ hn⟩
  refine I.laid (fun b o e => Heap.get?_push_of_some _ e) (Nat.le_refl _) ⟨by simp only [List.length_cons, List.length_nil]; rw [sizeLine_eq]; decide, [.int (i / j) s.toks, .int (i % j) (s.toks + 1)], .cons ⟨_, rfl⟩ (.cons ⟨_, rfl⟩ .nil), ?_⟩
  exact ⟨_, Heap.get?_push_size s.heap rfl, rfl, 0, rfl⟩
end
end L2

namespace L2
open PySem PySem.Spec PyProof.Rows

/-! ### an instance, its attributes a map -/
structure ObjM (h : Heap) (x dx C : Addr) (mA : Str → Option Value) : Prop where
  obj : h.get? x = some (PySem.W.instObj C dx)
  ns : h.Ns1 dx mA
  ne : dx ≠ x

theorem lookIn_ns {h : Heap} {dx : Addr} {mA : Str → Option Value} (n : h.Ns1 dx mA) : ∃ od, h.get? dx = some od ∧ ∀ name, PySem.W.lookIn name od = some (mA name) := by
  obtain ⟨o, es, ep, ho, hd, hk, _, hm⟩ := n
  refine ⟨o, ho, fun name => ?_⟩
  have e := hm name
  unfold nsFind findBy at e
  rw [← Array.find?_toList] at e
  unfold PySem.W.lookIn
  rw [hd]
  dsimp only
  split
  · rename_i y q
    rw [q] at e
    exact congrArg some e
  · rename_i q
    rw [q] at e
    have a : es.toList.any (·.refKey) = false := by
      rw [List.any_eq_false]
      intro y hy
      obtain ⟨z, t, hkey⟩ := hk y (Array.mem_toList_iff.mp hy)
      simp [DictEntry.refKey, hkey]
    have a' : ¬ es.toList.any (·.refKey) = true := by rw [a]; exact Bool.false_ne_true
    rw [if_neg a']
    exact congrArg some e

theorem ObjM.look {h : Heap} {x dx C : Addr} {mA : Str → Option Value} (I : ObjM h x dx C mA) : ∃ od, PySem.W.InstAt h x (PySem.W.instObj C dx) C (some od) ∧ ∀ name, PySem.W.lookIn name od = some (mA name) :=
  let ⟨od, ho, hl⟩ := lookIn_ns I.ns
  ⟨od, ⟨I.obj, rfl, rfl, ho⟩, hl⟩

section
variable {prog : Program} {w : World} {A : Around} {E : Value → Shared → Prop} {s : Shared} {K : PySem.W.Frag} {x dx C f : Addr} {mA : Str → Option Value} {name : Str} {v : Value}

theorem get_map {expr : Bool} {Q : Value → Shared → Prop} (X : K.In s.heap) (I : ObjM s.heap x dx C mA) (hg : PySem.W.plainGet K C name = true) (hh : PySem.W.hasDictIn K C = true)
    (ha : PySem.W.findIn K (.ref C) name = some none) (hv : mA name = some v) (hv' : PySem.W.handedIn v = true) (h : Q v { s with toks := s.toks + 1 }) :
    wpAny (model prog w) A (getAttr (.ref x) name expr) Q E s := by
  obtain ⟨od, J, hl⟩ := I.look
  exact PySem.W.get_value X J (PySem.W.plainGet_of hg).1 (PySem.W.findObj_own hh ha rfl (by rw [hl, hv])) hv' h

theorem get_const {expr : Bool} {a : Value} {Q : Value → Shared → Prop} (X : K.In s.heap) (I : ObjM s.heap x dx C mA) (hg : PySem.W.plainGet K C name = true) (hh : PySem.W.hasDictIn K C = true)
    (ha : PySem.W.findIn K (.ref C) name = some (some a)) (hn : PySem.W.specialIn K a "__get__" = some none) (hc : PySem.W.copiedNames.contains name = false) (hv : mA name = none) (hv' : PySem.W.handedIn a = true)
    (h : Q a { s with toks := s.toks + 1 }) : wpAny (model prog w) A (getAttr (.ref x) name expr) Q E s := by
  obtain ⟨od, J, hl⟩ := I.look
  exact PySem.W.get_value X J (PySem.W.plainGet_of hg).1 (PySem.W.findObj_cls hh ha hn hv' hc (by rw [hl, hv])) hv' h

theorem get_meth {pl : Sem Bool} {Q : Value × List Value → Shared → Prop} (X : K.In s.heap) (I : ObjM s.heap x dx C mA) (hg : PySem.W.plainGet K C name = true)
    (hf : PySem.W.findIn K (.ref C) name = some (some (.ref f))) (ht : PySem.W.isFn K (.ref f) = true) (hv : mA name = none) (h : Q (.ref f, [.ref x]) s) :
    wpAny (model prog w) A (getMethod (.ref x) name pl) Q E s := by
  obtain ⟨od, J, hl⟩ := I.look
  exact PySem.W.method_fn X J (PySem.W.plainGet_of hg).1 (PySem.W.plainGet_of hg).2 hf (beq_iff_eq.mp ht) (by show (PySem.W.lookIn name od).map (·.isSome) = some false; rw [hl, hv]; rfl) h

theorem set_map {ns : List Str} {Q : Unit → Shared → Prop} (X : K.In s.heap) (I : ObjM s.heap x dx C mA)
    (hs : PySem.W.findIn K (.ref C) "__setattr__" = some (some (.builtin "object.__setattr__"))) (hp : PySem.W.plainOver K C = true) (ht : PySem.W.takerIn K C name = some none) (hh : PySem.W.hasDictIn K C = true)
    (hw : PySem.Within mA ns) (hsz : ns.length ≤ sizeLine)
    (h : ∀ h', ObjM h' x dx C (fun y => if y = name then some v else mA y) → Heap.SameBut dx s.heap h' → Q () { s with heap := h', toks := s.toks + 2 }) :
    wpAny (model prog w) A (setAttr (.ref x) name v) Q E s := by
  obtain ⟨od, J, hl⟩ := I.look
  refine PySem.W.set_plain X J hs (PySem.W.osa_open (s := { s with toks := s.toks + 1 }) (r := none) X J hp ht fun b => ?_)
  obtain ⟨cd, hc, hd'⟩ := PySem.W.any_some hh
  have hx : s.heap.get? x = some ⟨.ref C, some dx, .plain, #[]⟩ := I.obj
  refine wpAny_bind (wpAny_pure (wpAny_bind (wpAny_bind (wpAny_loadPart hx (wpAny_bind (PySem.W.Looks.here (s := { s with toks := s.toks + 1 }) (PySem.W.looks_clsIn X hc) ?_))))))
  rw [hd']
  refine wpAny_pure (a := some dx) (wpAny_bind (wpAny_pure (wpAny_bind ?_)))
  refine wpAny_nsSet1 (s := { s with toks := s.toks + 1 }) I.ns fun h' hn2 hs2 => ?_
  obtain ⟨oD, esD, epD, hoD, hdD, hcD⟩ := hn2.count (PySem.Within.cons name v hw)
  refine wpAny_bind (wpAny_lookBehind hoD (by rw [hdD]; exact pastItsLine_dict (Nat.le_trans hcD (by rw [List.length_cons]; omega))) ?_)
  exact wpAny_pure (h _ ⟨(hs2.2 _ (Ne.symm I.ne)).trans I.obj, hn2, I.ne⟩ hs2)

/-- C(..): the dict at the heap's end, the instance behind it; then its __init__ -/
theorem make_map {R : Result → Shared → Prop} {vs : List Value} {kw : List (Str × Value)} (X : K.In s.heap) (hm : PySem.W.makesIn K C = true)
    (hi : PySem.W.findIn K (.ref C) "__init__" = some (some (.ref f))) (hf : PySem.W.typeIn K (.ref f) = some (.type "function"))
    (h : codeAny (model prog w) (A.under (.builtin "type.__call__" ⟨.ref C :: vs, kw⟩)) (.call (.ref f) ⟨.ref (s.heap.objs.size + 1) :: vs, kw⟩) (PySem.W.InitBack (s.heap.objs.size + 1) R)
      { s with heap := (s.heap.push PySem.W.emptyDict).push (PySem.W.instObj C s.heap.objs.size) }) :
    codeAny (model prog w) A (.call (.ref C) ⟨vs, kw⟩) R s := by
  obtain ⟨hh, g, d, t, os⟩ := s
  exact PySem.W.make_core (PySem.W.makes_of X hm) (PySem.W.looks_findIn X hi) (fun self => PySem.W.bind_fn X self hf) (.inl rfl) h
/-- C() where there is no __init__ but object's -/
theorem make_map0 {R : Result → Shared → Prop} (X : K.In s.heap) (hm : PySem.W.makesIn K C = true)
    (hi : PySem.W.findIn K (.ref C) "__init__" = some (some (.builtin "object.__init__")))
    (hb : ∀ self, PySem.W.Looks (model prog w) s.heap (bindSpecial (.builtin "object.__init__") self) (.builtin "object.__init__", [self]))
    (h : codeAny (model prog w) (A.under (.builtin "type.__call__" ⟨[.ref C], []⟩)) (.call (.builtin "object.__init__") ⟨[.ref (s.heap.objs.size + 1)], []⟩) (PySem.W.InitBack (s.heap.objs.size + 1) R)
      { s with heap := (s.heap.push PySem.W.emptyDict).push (PySem.W.instObj C s.heap.objs.size) }) :
    codeAny (model prog w) A (.call (.ref C) ⟨[], []⟩) R s := by
  obtain ⟨hh, g, d, t, os⟩ := s
  exact PySem.W.make_core (PySem.W.makes_of X hm) (PySem.W.looks_findIn X hi) hb (.inr ⟨rfl, rfl⟩) h
end

/-! ### the attributes as a list of pairs -/
def putF (f : Str) (v : V) : List (Str × V) → List (Str × V)
  | [] => [(f, v)]
  | (g, x) :: r => if g = f then (g, v) :: r else (g, x) :: putF f v r
theorem lookup_putF (f g : Str) (v : V) : ∀ fs : List (Str × V), (putF f v fs).lookup g = if g = f then some v else fs.lookup g
  | [] => by
    show List.lookup g [(f, v)] = _
    by_cases h : g = f
    · have hb : (g == f) = true := beq_iff_eq.mpr h
      simp only [List.lookup, hb, if_pos h]
    · have hb : (g == f) = false := beq_eq_false_iff_ne.mpr h
      simp only [List.lookup, hb, if_neg h]
  | (k, x) :: r => by
    have ih := lookup_putF f g v r
    rw [show putF f v ((k, x) :: r) = (if k = f then (k, v) :: r else (k, x) :: putF f v r) from rfl]
    by_cases hk : k = f
    · rw [if_pos hk]
      by_cases h : g = k
      · have hb : (g == k) = true := beq_iff_eq.mpr h
        simp only [List.lookup, hb, if_pos (h.trans hk)]
      · have hb : (g == k) = false := beq_eq_false_iff_ne.mpr h
        simp only [List.lookup, hb, if_neg (fun e : g = f => h (e.trans hk.symm))]
    · rw [if_neg hk]
      by_cases h : g = k
      · have hb : (g == k) = true := beq_iff_eq.mpr h
        simp only [List.lookup, hb, if_neg (fun e : g = f => hk (h.symm.trans e))]
      · have hb : (g == k) = false := beq_eq_false_iff_ne.mpr h
        simp only [List.lookup, hb]
        exact ih
theorem keys_putF (f : Str) (v : V) : ∀ fs : List (Str × V), f ∈ (putF f v fs).map (·.1) ∧ ∀ g, g ∈ fs.map (·.1) → g ∈ (putF f v fs).map (·.1)
  | [] => ⟨by simp [putF], fun g h => by simp at h⟩
  | (k, x) :: r => by
    obtain ⟨i1, i2⟩ := keys_putF f v r
    rw [show putF f v ((k, x) :: r) = (if k = f then (k, v) :: r else (k, x) :: putF f v r) from rfl]
    by_cases hk : k = f
    · rw [if_pos hk]
      subst hk
      exact ⟨by simp, fun g h => by simpa using h⟩
    · rw [if_neg hk]
      refine ⟨?_, fun g h => ?_⟩
      · rw [List.map_cons]
        exact List.mem_cons_of_mem _ i1
      · rw [List.map_cons] at h ⊢
        rcases List.mem_cons.mp h with e | e
        · exact List.mem_cons.mpr (.inl e)
        · exact List.mem_cons_of_mem _ (i2 g e)
theorem length_putF (f : Str) (v : V) : ∀ fs : List (Str × V), (putF f v fs).length ≤ fs.length + 1
  | [] => by simp [putF]
  | (k, x) :: r => by
    have ih := length_putF f v r
    rw [show putF f v ((k, x) :: r) = (if k = f then (k, v) :: r else (k, x) :: putF f v r) from rfl]
    by_cases hk : k = f
    · rw [if_pos hk, List.length_cons, List.length_cons]; omega
    · rw [if_neg hk, List.length_cons, List.length_cons]; omega

theorem RelO.some_of {v : V} {o : Option Value} (r : RelO (some v) o) : ∃ u, o = some u ∧ RelV v u := by
  cases o with
  | none => exact (show False from r).elim
  | some u => exact ⟨u, rfl, r⟩
theorem RelO.none_of {o : Option Value} (r : RelO none o) : o = none := by
  cases o with
  | none => rfl
  | some u => exact (show False from r).elim
theorem handed_of {v : V} {u : Value} (r : RelV v u) : PySem.W.handedIn u = true := by
  cases v with
  | non => cases (show u = Value.none from r); rfl
  | bl b => cases (show u = Value.bool b from r); rfl
  | int i => obtain ⟨t, e⟩ := (show ∃ t, u = Value.int i t from r); cases e; rfl
  | str x => obtain ⟨t, e⟩ := (show ∃ t, u = Value.str x t from r); cases e; rfl
  | byt b => obtain ⟨t, e⟩ := (show ∃ t, u = Value.bytes b t from r); cases e; rfl
  | flt b => obtain ⟨t, e⟩ := (show ∃ t, u = Value.float b t from r); cases e; rfl
  | ref a => cases (show u = Value.ref a from r); rfl
  | ty n => cases (show u = Value.type n from r); rfl

section
variable {P : Program} {w : World} {H H' : Hp} {h h' : Heap} {a C dx : Addr} {fs fs' : List (Str × V)}
theorem ins_get (hok : HOk P w H h) (e : H a = some (.ins C dx fs)) : ∃ mA, ObjM h a dx C mA ∧ (∀ f, RelO (fs.lookup f) (mA f)) ∧ PySem.Within mA (fs.map (·.1)) ∧ fs.length ≤ 1000 ∧ H dx = some (.own a) := by
  obtain ⟨d, z, ne, ob, mA, n, r, q⟩ := (show ObjOk P w H h a (.ins C dx fs) from hok a _ e)
  exact ⟨mA, ⟨ob, n, ne⟩, r, q, z, d⟩
end

/-! ### what of the text a class must have -/
structure Cls (K : PySem.W.Frag) (C : Addr) : Prop where
  pg : PySem.W.plainGet K C Str.empty = true
  hd : PySem.W.hasDictIn K C = true
  po : PySem.W.plainOver K C = true
  sa : PySem.W.findIn K (.ref C) "__setattr__" = some (some (.builtin "object.__setattr__"))
theorem Cls.get {K : PySem.W.Frag} {C : Addr} (c : Cls K C) (f : Str) : PySem.W.plainGet K C f = true := c.pg
/-- no class of it has the name -/
def NoAttr (K : PySem.W.Frag) (C : Addr) (f : Str) : Prop := PySem.W.findIn K (.ref C) f = some none
theorem NoAttr.taker {K : PySem.W.Frag} {C : Addr} {f : Str} (n : NoAttr K C f) : PySem.W.takerIn K C f = some none := by
  unfold PySem.W.takerIn
  rw [show PySem.W.findIn K (.ref C) f = some none from n]
  rfl
/-- a constant of the class -/
structure Con (K : PySem.W.Frag) (C : Addr) (f : Str) (v : V) (u : Value) : Prop where
  at_ : PySem.W.findIn K (.ref C) f = some (some u)
  rel : RelV v u
  get : PySem.W.specialIn K u "__get__" = some none
  cp : PySem.W.copiedNames.contains f = false
/-- a method: a plain def of the class or of one above it -/
structure Meth (K : PySem.W.Frag) (C : Addr) (m : Str) (f : Addr) : Prop where
  at_ : PySem.W.findIn K (.ref C) m = some (some (.ref f))
  fn : PySem.W.isFn K (.ref f) = true
  kp : PySem.W.keepIn K (.ref f) = true

section
variable {X : Cx} {pins : List (Addr × Obj)} {σ : St} {H : Hp} {s : Shared} {a C dx : Addr} {fs : List (Str × V)} {f : Str} {v : V} {A : Around} {E : Value → Shared → Prop}

theorem getattr_ok {b : Bool} {Q : Value → Shared → Prop} (I : Inv X pins σ H s) (e : H a = some (.ins C dx fs)) (c : Cls X.K C) (n : NoAttr X.K C f) (l : fs.lookup f = some v)
    (h : ∀ u s', Inv X pins σ H s' → RelV v u → Q u s') : wpAny (model X.prog X.w) A (getAttr (.ref a) f b) Q E s := by
  obtain ⟨mA, O, r, _, _, _⟩ := ins_get I.hok e
  obtain ⟨u, hu, ru⟩ := RelO.some_of (v := v) (o := mA f) (by rw [← l]; exact r f)
  exact get_map I.kIn O (c.get f) c.hd n hu (handed_of ru) (h u _ (I.tok _) ru)

theorem getcon_ok {b : Bool} {u : Value} {Q : Value → Shared → Prop} (I : Inv X pins σ H s) (e : H a = some (.ins C dx fs)) (c : Cls X.K C) (k : Con X.K C f v u) (l : fs.lookup f = none)
    (h : ∀ s', Inv X pins σ H s' → Q u s') : wpAny (model X.prog X.w) A (getAttr (.ref a) f b) Q E s := by
  obtain ⟨mA, O, r, _, _, _⟩ := ins_get I.hok e
  have hn : mA f = none := RelO.none_of (by rw [← l]; exact r f)
  exact get_const I.kIn O (c.get f) c.hd k.at_ k.get k.cp hn (handed_of k.rel) (h _ (I.tok _))

theorem getmeth_ok {m : Str} {g : Addr} {pl : Sem Bool} {Q : Value × List Value → Shared → Prop} (I : Inv X pins σ H s) (e : H a = some (.ins C dx fs)) (c : Cls X.K C) (k : Meth X.K C m g) (l : fs.lookup m = none)
    (h : Q (.ref g, [.ref a]) s) : wpAny (model X.prog X.w) A (getMethod (.ref a) m pl) Q E s := by
  obtain ⟨mA, O, r, _, _, _⟩ := ins_get I.hok e
  have hn : mA m = none := RelO.none_of (by rw [← l]; exact r m)
  exact get_meth I.kIn O (c.get m) k.at_ k.fn hn h

theorem setattr_ok {y : V} {u : Value} {Q : Unit → Shared → Prop} (I : Inv X pins σ H s) (e : H a = some (.ins C dx fs)) (c : Cls X.K C) (n : NoAttr X.K C f) (hl : fs.length < 1000) (ry : RelV y u)
    (h : ∀ s', Inv X pins σ (upd H a (.ins C dx (putF f y fs))) s' → Q () s') : wpAny (model X.prog X.w) A (setAttr (.ref a) f u) Q E s := by
  obtain ⟨mA, O, r, wi, _, ho⟩ := ins_get I.hok e
  have hz : (fs.map (·.1)).length ≤ sizeLine := by rw [List.length_map, sizeLine_eq]; omega
  refine set_map I.kIn O c.sa c.po n.taker c.hd wi hz fun h' O' sb => h _ ?_
  have hd : ∃ o, h'.get? dx = some o := let ⟨o, _, _, e', _⟩ := O'.ns; ⟨o, e'⟩
  refine I.write (x := a) (e := dx) (by rw [e]; exact True.intro) (.inr ho) (fun b q hb z => (sb.2 b hb).trans z) hd ?_
  refine ⟨by rw [upd_ne O.ne]; exact ho, ?_, O.ne, O'.obj, _, O'.ns, fun g => ?_, fun g hg => ?_⟩
  · have := length_putF f y fs; omega
  · show RelO ((putF f y fs).lookup g) (if g = f then some u else mA g)
    rw [lookup_putF]
    by_cases q : g = f
    · rw [if_pos q, if_pos q]; exact ry
    · rw [if_neg q, if_neg q]; exact r g
  · by_cases q : g = f
    · rw [q]; exact (keys_putF f y fs).1
    · refine (keys_putF f y fs).2 g (wi g fun z => hg ?_)
      show (if g = f then some u else mA g) = none
      rw [if_neg q]; exact z

/-- a new instance, tracked, without attributes -/
theorem Inv.made (I : Inv X pins σ H s) : Inv X pins σ (upd (upd H s.heap.objs.size (.own (s.heap.objs.size + 1))) (s.heap.objs.size + 1) (.ins C s.heap.objs.size []))
    { s with heap := (s.heap.push PySem.W.emptyDict).push (PySem.W.instObj C s.heap.objs.size) } := by
  have e1 : (s.heap.push PySem.W.emptyDict).get? s.heap.objs.size = some PySem.W.emptyDict := Heap.get?_push_size s.heap rfl
  have e2 : ((s.heap.push PySem.W.emptyDict).push (PySem.W.instObj C s.heap.objs.size)).get? (s.heap.objs.size + 1) = some (PySem.W.instObj C s.heap.objs.size) := by
    have := Heap.get?_push_size (s.heap.push PySem.W.emptyDict) (o := PySem.W.instObj C s.heap.objs.size) rfl
    rwa [Heap.size_push] at this
  have e3 : (s.heap.push PySem.W.emptyDict).Ns s.heap.objs.size (fun _ => none) := ⟨PySem.W.emptyDict, #[], _, e1, rfl, (fun e he => absurd he (by simp)), fun _ => rfl⟩
  have I1 := I.laid (a := s.heap.objs.size) (o := .own (s.heap.objs.size + 1)) (h' := s.heap.push PySem.W.emptyDict) (t' := s.toks) (fun b u q => Heap.get?_push_of_some _ q) (Nat.le_refl _) ⟨_, e1⟩
  refine I1.laid (a := s.heap.objs.size + 1) (o := .ins C s.heap.objs.size []) (t' := s.toks) (fun b u q => Heap.get?_push_of_some _ q) (Nat.le_of_eq (Heap.size_push _ _)) ?_
  have ne : s.heap.objs.size ≠ s.heap.objs.size + 1 := Nat.ne_of_lt (Nat.lt_succ_self _)
  refine ⟨by rw [upd_ne ne, upd_same], Nat.zero_le _, ne, e2, fun _ => none, (Heap.Ns1.of_empty e3).at fun o q => Heap.get?_push_of_some _ q, fun _ => True.intro, fun y hy => absurd rfl hy⟩

/-- e.f where nothing but the object is asked: through attributeBase (super) and the last hold -/
theorem attr_of {prog : Program} {w : World} {env : Env} {e : Expr} {f : Str} {pos : Pos} {s : Shared} {Q : Value → Shared → Prop} (hb : attributeBase e f env (eval e env) = eval e env)
    (h : wpAny (model prog w) A (eval e env) (fun o s₁ => wpAny (model prog w) A (getAttr o f true) Q E s₁) E s) : wpAny (model prog w) A (eval (.Attribute e f pos) env) Q E s :=
  Attribute_any_ h (by rw [arm_eval_Attribute, hb])
end

/-! ### readings and rules -/
/-- e.f, an attribute of the instance -/
def tFld (K : PySem.W.Frag) (ta : TE) (f : Str) : TE := fun σ H Q => ta σ H fun x H1 => ∃ a C dx fs v, x = .ref a ∧ H1 a = some (.ins C dx fs) ∧ Cls K C ∧ NoAttr K C f ∧ fs.lookup f = some v ∧ Q v H1
/-- e.f, a constant of the class -/
def tCon (K : PySem.W.Frag) (ta : TE) (f : Str) : TE := fun σ H Q => ta σ H fun x H1 => ∃ a C dx fs v u, x = .ref a ∧ H1 a = some (.ins C dx fs) ∧ Cls K C ∧ Con K C f v u ∧ fs.lookup f = none ∧ Q v H1
/-- e.f = value -/
def sFld (K : PySem.W.Frag) (ta tv : TE) (f : Str) : TS := fun D σ H => tv σ H fun y H1 => ta σ H1 fun x H2 => ∃ a C dx fs, x = .ref a ∧ H2 a = some (.ins C dx fs) ∧ Cls K C ∧ NoAttr K C f ∧ fs.length < 1000 ∧
  D.nx σ (upd H2 a (.ins C dx (putF f y fs)))
/-- an augmented operator on two values -/
def InOp (X : Cx) (op : Operator) (rd : V → V → Hp → VK → Prop) : Prop :=
  ∀ (pins : List (Addr × Obj)) (s : Shared) (σ : St) (H : Hp) (x y : V) (u v : Value) (Q : VK), Inv X pins σ H s → RelV x u → RelV y v → rd x y H Q → wpAny (model X.prog X.w) X.A (inplaceOp op u v) (EP X pins σ Q) X.xe s
/-- e.f op= value -/
def sFldAug (K : PySem.W.Frag) (ta tv : TE) (rd : V → V → Hp → VK → Prop) (f : Str) : TS := fun D σ H => ta σ H fun x H1 => ∃ a C dx fs v, x = .ref a ∧ H1 a = some (.ins C dx fs) ∧ Cls K C ∧ NoAttr K C f ∧ fs.lookup f = some v ∧
  tv σ H1 fun y H2 => rd v y H2 fun z H3 => ∃ dx' fs', H3 a = some (.ins C dx' fs') ∧ fs'.length < 1000 ∧ D.nx σ (upd H3 a (.ins C dx' (putF f z fs')))

section
variable {X : Cx} {o e value : Expr} {f : Str} {pos pos' tpos : Pos} {ta tv : TE}
theorem pe_fld (he : PE X e ta) (hb : attributeBase e f X.env (eval e X.env) = eval e X.env) : PE X (.Attribute e f pos) (tFld X.K ta f) := by
  intro pins s σ H Q I h
  refine attr_of hb (thn (he pins s σ H _ I h) fun u s1 ⟨x, H1, I1, rx, a, C, dx, fs, v, ex, ea, c, n, l, q⟩ => ?_)
  subst ex
  obtain rfl : u = Value.ref a := rx
  exact getattr_ok I1 ea c n l fun u' s2 I2 ru => ⟨v, H1, I2, ru, q⟩
theorem pe_con (he : PE X e ta) (hb : attributeBase e f X.env (eval e X.env) = eval e X.env) : PE X (.Attribute e f pos) (tCon X.K ta f) := by
  intro pins s σ H Q I h
  refine attr_of hb (thn (he pins s σ H _ I h) fun u s1 ⟨x, H1, I1, rx, a, C, dx, fs, v, u0, ex, ea, c, k, l, q⟩ => ?_)
  subst ex
  obtain rfl : u = Value.ref a := rx
  exact getcon_ok I1 ea c k l fun s2 I2 => ⟨v, H1, I2, k.rel, q⟩
theorem ps_fld (ha : PE X o ta) (hv : PE X value tv) (hs : swapsWith value (some (.Attribute o f pos')) pos.line X.env = pure false) : PS X (.Assign [.Attribute o f pos'] value pos) (sFld X.K ta tv f) := by
  intro pins s σ H D I h
  refine plainObj_wpAny_Assign_Attribute (thn (hv pins s σ H _ I h) fun u s1 ⟨y, H1, I1, ry, q⟩ => thn (ha pins s1 σ H1 _ I1 q) fun ov s2 ⟨x, H2, I2, rx, a, C, dx, fs, ex, ea, c, n, l, q2⟩ => ?_) hs
  subst ex
  obtain rfl : ov = Value.ref a := rx
  exact setattr_ok I2 ea c n l ry fun s3 I3 => ⟨σ, _, I3, q2⟩
theorem ps_fldaug {op : Operator} {rd : V → V → Hp → VK → Prop} (ha : PE X o ta) (hv : PE X value tv) (hop : InOp X op rd) : PS X (.AugAssign (.Attribute o f tpos) op value pos) (sFldAug X.K ta tv rd f) := by
  intro pins s σ H D I h
  refine wpAny_AugAssign_AttributeAny (thn (ha pins s σ H _ I h) fun ov s1 ⟨x, H1, I1, rx, a, C, dx, fs, v, ex, ea, c, n, l, q⟩ => ?_)
  subst ex
  obtain rfl : ov = Value.ref a := rx
  refine getattr_ok I1 ea c n l fun u s2 I2 ru => thn (hv pins s2 σ H1 _ I2 q) fun w3 s3 ⟨y, H2, I3, ry, q3⟩ => thn (hop pins s3 σ H2 v y u w3 _ I3 ru ry q3) fun w4 s4 ⟨z, H3, I4, rz, dx', fs', ea', l', q4⟩ => ?_
  exact setattr_ok I4 ea' c n l' rz fun s5 I5 => ⟨σ, _, I5, q4⟩
def rAdd : V → V → Hp → VK → Prop := fun x y H Q => ∃ i j, x = .int i ∧ y = .int j ∧ Q (.int (i + j)) H
def rSub : V → V → Hp → VK → Prop := fun x y H Q => ∃ i j, x = .int i ∧ y = .int j ∧ Q (.int (i - j)) H
theorem in_add : InOp X .Add rAdd := by
  rintro pins s σ H x y u v Q I rx ry ⟨i, j, rfl, rfl, q⟩
  obtain ⟨t, rfl⟩ := (show ∃ t, u = Value.int i t from rx)
  obtain ⟨t', rfl⟩ := (show ∃ t', v = Value.int j t' from ry)
  exact PyProof.Rows.iadd_int ⟨.int (i + j), H, I.tok _, ⟨_, rfl⟩, q⟩
theorem in_sub : InOp X .Sub rSub := by
  rintro pins s σ H x y u v Q I rx ry ⟨i, j, rfl, rfl, q⟩
  obtain ⟨t, rfl⟩ := (show ∃ t, u = Value.int i t from rx)
  obtain ⟨t', rfl⟩ := (show ∃ t', v = Value.int j t' from ry)
  exact PyProof.Rows.isub_int ⟨.int (i - j), H, I.tok _, ⟨_, rfl⟩, q⟩

/-- what is between an instance and its method: the tree of a method call -/
theorem methcall_of {pl : Sem Bool} {m : Str} {apos : Pos} {args : List Expr} {pins : List (Addr × Obj)} {s : Shared} {σ : St} {H : Hp} {Q : Value → Shared → Prop} {te : TE} (he : PE X e te) (I : Inv X pins σ H s)
    (h : te σ H fun x H1 => ∃ a C dx fs g, x = .ref a ∧ H1 a = some (.ins C dx fs) ∧ Cls X.K C ∧ Meth X.K C m g ∧ fs.lookup m = none ∧
      ∀ s1, Inv X pins σ H1 s1 → wpAny (model X.prog X.w) X.A (callWith pos (.ref g) [.ref a] (backTo pos (starEach args X.env)) (backToKw pos (keywordEach [] X.env))) Q X.xe s1)
    (ht : eval (.Call (.Attribute e m apos) args [] pos) X.env = (do
      let ov ← eval e X.env
      standAt apos.atName
      let (f, first) ← holding [ov] (getMethod ov m pl)
      callWith pos f first (backTo pos (starEach args X.env)) (backToKw pos (keywordEach [] X.env)))) :
    wpAny (model X.prog X.w) X.A (eval (.Call (.Attribute e m apos) args [] pos) X.env) Q X.xe s := by
  refine PySem.W.methodCall_KW (pl := pl) (thn (he pins s σ H _ I h) fun u s1 ⟨x, H1, I1, rx, a, C, dx, fs, g, ex, ea, c, k, l, q⟩ => ?_) ht
  subst ex
  obtain rfl : u = Value.ref a := rx
  exact getmeth_ok I1 ea c k l (q s1 I1)
end

/-! ### isinstance -/
section
variable {X : Cx} {pins : List (Addr × Obj)} {σ : St} {H : Hp} {s : Shared} {A : Around} {E : Value → Shared → Prop} {Q : Value → Shared → Prop} {c : Value} {b : Bool}
/-- the type of a value, as the fragment's deciders take it; for an instance its class -/
inductive TyOf (K : PySem.W.Frag) (H : Hp) : V → Value → Prop where
  | non : TyOf K H .non (.type "NoneType")
  | bl (x : Bool) : TyOf K H (.bl x) (.type "bool")
  | int (i : Int) : TyOf K H (.int i) (.type "int")
  | str (x : Str) : TyOf K H (.str x) (.type "str")
  | flt (x : UInt64) : TyOf K H (.flt x) (.type "float")
  | lst {a : Addr} {xs : List V} (e : H a = some (.lst xs)) : TyOf K H (.ref a) (.type "list")
  | frz {a : Addr} {o : Obj} {xs : List V} (e : H a = some (.frz o (.lst xs))) : TyOf K H (.ref a) (.type "list")
  | tup {a : Addr} {xs : List V} (e : H a = some (.tup xs)) : TyOf K H (.ref a) (.type "tuple")
  | dK {a : Addr} {kvs : List (Key × V)} (e : H a = some (.dK kvs)) : TyOf K H (.ref a) (.type "dict")
  | dT {a : Addr} {kvs : List (List Key × V)} (e : H a = some (.dT kvs)) : TyOf K H (.ref a) (.type "dict")
  | ins {a C dx : Addr} {fs : List (Str × V)} (e : H a = some (.ins C dx fs)) (cl : Cls K C) (ha : PySem.W.findIn K (.ref C) "__class__" = some (some (.builtin "object.__class__")))
      (hn : PySem.W.specialIn K (.builtin "object.__class__") "__get__" = some (some (.builtin "getset_descriptor.__get__"))) (htk : PySem.W.takesIn K (.builtin "object.__class__") = some true)
      (hm : PySem.W.mroIn K C (.type "object") = some true) : TyOf K H (.ref a) (.ref C)
/-- isinstance(x, c) for one class c, a built-in or an own one: kitOne's answer -/
theorem isinst_ok {x : V} {u t : Value} (I : Inv X pins σ H s) (rx : RelV x u) (ty : TyOf X.K H x t) (e : PySem.W.kitOne X.K t c = some b) (h : ∀ tk, Q (.bool b) { s with toks := tk }) :
    wpAny (model X.prog X.w) A (call (.builtin "isinstance") [u, c]) Q E s := by
  cases ty with
  | non => cases (show u = Value.none from rx); exact PySem.W.kia_one PySem.W.kitx_none I.kIn True.intro e (fun z => nomatch z) h
  | bl y => cases (show u = Value.bool y from rx); exact PySem.W.kia_one PySem.W.kitx_bool I.kIn True.intro e (fun z => nomatch z) h
  | int i => obtain ⟨t, q⟩ := (show ∃ t, u = Value.int i t from rx); cases q; exact PySem.W.kia_one PySem.W.kitx_int I.kIn True.intro e (fun z => nomatch z) h
  | str y => obtain ⟨t, q⟩ := (show ∃ t, u = Value.str y t from rx); cases q; exact PySem.W.kia_one PySem.W.kitx_str I.kIn True.intro e (fun z => nomatch z) h
  | flt y => obtain ⟨t, q⟩ := (show ∃ t, u = Value.float y t from rx); cases q; exact PySem.W.kia_one PySem.W.kitx_float I.kIn True.intro e (fun z => nomatch z) h
  | @lst a xs ea =>
    cases (show u = Value.ref a from rx)
    obtain ⟨_, _, n, _, h1⟩ := (show ObjOk X.prog X.w H s.heap a (.lst xs) from I.hok a _ ea)
    exact PySem.W.kia_one PySem.W.kitx_list I.kIn ⟨_, h1, rfl⟩ e (fun z => nomatch z) h
  | @frz a ob xs ea =>
    cases (show u = Value.ref a from rx)
    obtain ⟨_, _, _, n, _, h1⟩ := (show ObjOk X.prog X.w H s.heap a (.frz ob (.lst xs)) from I.hok a _ ea)
    exact PySem.W.kia_one PySem.W.kitx_list I.kIn ⟨_, h1, rfl⟩ e (fun z => nomatch z) h
  | @tup a xs ea =>
    cases (show u = Value.ref a from rx)
    obtain ⟨_, _, _, p⟩ := (show ObjOk X.prog X.w H s.heap a (.tup xs) from I.hok a _ ea)
    obtain ⟨o, h1, h2, _⟩ := p
    exact PySem.W.kia_one PySem.W.kitx_tuple I.kIn ⟨o, h1, h2⟩ e (fun z => nomatch z) h
  | @dK a kvs ea =>
    cases (show u = Value.ref a from rx)
    obtain ⟨_, _, vs, _, p⟩ := (show ObjOk X.prog X.w H s.heap a (.dK kvs) from I.hok a _ ea)
    obtain ⟨o, es, ep, h1, h2, _⟩ := p
    exact PySem.W.kia_one PySem.W.kitx_dict I.kIn ⟨o, h1, h2.1⟩ e (fun z => nomatch z) h
  | @dT a kvs ea =>
    cases (show u = Value.ref a from rx)
    obtain ⟨_, _, xs, _, o, es, ep, h1, h2, _⟩ := (show ObjOk X.prog X.w H s.heap a (.dT kvs) from I.hok a _ ea)
    exact PySem.W.kia_one PySem.W.kitx_dict I.kIn ⟨o, h1, h2.1⟩ e (fun z => nomatch z) h
  | @ins a C dx fs ea cl ha hn htk hm =>
    cases (show u = Value.ref a from rx)
    obtain ⟨mA, O, _⟩ := ins_get I.hok ea
    obtain ⟨od, J, _⟩ := O.look
    exact PySem.W.kia_one (PySem.W.kitx_own (cl.get _) cl.hd ha hn htk hm) I.kIn J e (fun z => nomatch z) h
end
end L2

namespace L2
open PySem PySem.Spec PyProof.Rows

/-! ### room -/
structure Room (k : Nat) (A : Around) : Prop where
  hd : A.handled = none
  dp : A.depth + 3 * k + 5 < recursionLimit
  un : A.units + 16 * k + 200 < cLine
theorem Room.mono {j k : Nat} {A : Around} (r : Room k A) (h : j ≤ k) : Room j A := ⟨r.hd, by have := r.dp; omega, by have := r.un; omega⟩
theorem Room.deeper {k : Nat} {A : Around} (r : Room (k + 1) A) (env : Env) : Room k (A.deeper env) :=
  ⟨r.hd, by have := r.dp; show A.depth + 1 + 3 * k + 5 < _; omega, by have := r.un; show A.units + 3 + 16 * k + 200 < _; omega⟩
theorem Room.in1 {k : Nat} {A : Around} (r : Room (k + 1) A) : Room k A.in1 :=
  ⟨r.hd, by have := r.dp; show A.depth + 3 * k + 5 < _; omega, by have := r.un; show A.units + 1 + 16 * k + 200 < _; omega⟩
theorem make_depth {A : Around} {C : Addr} {us : List Value} {kw : List (Str × Value)} : (A.under (.builtin "type.__call__" ⟨.ref C :: us, kw⟩)).depth = A.depth + 1 := by
  first | rfl | simp [Around.under, Code.weight, Code.isCreation, Code.isGuard, Code.isCaller, Code.frames, Code.isFrame, guardIds]
theorem make_units {A : Around} {C : Addr} {us : List Value} {kw : List (Str × Value)} : (A.under (.builtin "type.__call__" ⟨.ref C :: us, kw⟩)).units = A.units + 1 := by
  first | rfl | simp [Around.under, Code.cUnits, Code.frames, Code.isFrame]
theorem Room.make {k : Nat} {A : Around} (r : Room (k + 1) A) (C : Addr) (us : List Value) (kw : List (Str × Value)) : Room k (A.under (.builtin "type.__call__" ⟨.ref C :: us, kw⟩)) :=
  ⟨r.hd, by have := r.dp; rw [make_depth]; omega, by have := r.un; rw [make_units]; omega⟩
theorem Room.depth {k : Nat} {A : Around} (r : Room k A) : A.depth < recursionLimit := by have := r.dp; omega
theorem Room.units {k : Nat} {A : Around} (r : Room k A) : A.units + 64 < cLine := by have := r.un; omega
theorem Room.units0 {k : Nat} {A : Around} (r : Room k A) : A.units < cLine := by have := r.un; omega

/-! ### argument lists and displays -/
def tNil : TA := fun _ H Q => Q [] H
def tCons (ta : TE) (tr : TA) : TA := fun σ H Q => ta σ H fun x H1 => tr σ H1 fun xs H2 => Q (x :: xs) H2
section
variable {X : Cx} {e : Expr} {es : List Expr} {te : TE} {t : TA} {pos : Pos}
theorem pa_nil : PA X [] tNil := fun _ _ _ _ H Q I h => Calls.spliced_nil ⟨[], H, I, .nil, h⟩
theorem pa_cons (ha : PE X e te) (hr : PA X es t) (hs : starEach (e :: es) X.env = (false, eval e X.env) :: starEach es X.env := by rfl) : PA X (e :: es) (tCons te t) := by
  intro pos pins s σ H Q I h
  rw [hs]
  show wpAny _ _ (spliced ((false, eval e X.env) :: backTo pos (starEach es X.env))) _ _ s
  refine Calls.spliced_cons (thn (ha pins s σ H _ I h) fun u s1 ⟨x, H1, I1, r1, q1⟩ => ?_)
  exact thn (hr pos pins s1 σ H1 _ I1 q1) fun us s2 ⟨xs, H2, I2, r2, q2⟩ => ⟨x :: xs, H2, I2, .cons r1 r2, q2⟩

/-- a tuple, a list of written items -/
def tTup (t : TA) : TE := fun σ H Q => t σ H fun xs H1 => xs.length ≤ sizeLine ∧ ∀ p, H1 p = none → Q (.ref p) (upd H1 p (.tup xs))
def tLst (t : TA) : TE := fun σ H Q => t σ H fun xs H1 => xs.length ≤ sizeLine ∧ ∀ p, H1 p = none → Q (.ref p) (upd H1 p (.lst xs))
theorem pe_tup {x1} (h : PA X es t) : PE X (.Tuple es x1 pos) (tTup t) := by
  intro pins s σ H Q I hq
  refine wpAny_Tuple_spliced (thn (h pos pins s σ H _ I hq) fun us s1 ⟨xs, H1, I1, r, z, q⟩ => ⟨by rw [← r.length]; exact z, ?_⟩)
  have hf : H1 s1.heap.objs.size = none := I1.hok.fresh (Nat.le_refl _)
  refine ⟨.ref s1.heap.objs.size, upd H1 s1.heap.objs.size (.tup xs), I1.laid (t' := s1.toks) (fun b u e => Heap.get?_push_of_some _ e) (Nat.le_refl _) ?_, rfl, q _ hf⟩
  exact ⟨z, us, r, ⟨_, Heap.get?_push_size _ rfl, rfl, _, rfl⟩⟩
theorem pe_lst (h : PA X es t) : PE X (.List es pos) (tLst t) := by
  intro pins s σ H Q I hq
  refine wpAny_List_spliced (thn (h pos pins s σ H _ I hq) fun us s1 ⟨xs, H1, I1, r, z, q⟩ => ⟨by rw [← r.length]; exact z, ?_⟩)
  have hf : H1 s1.heap.objs.size = none := I1.hok.fresh (Nat.le_refl _)
  refine ⟨.ref s1.heap.objs.size, upd H1 s1.heap.objs.size (.lst xs), I1.laid (t' := s1.toks) (fun b u e => Heap.get?_push_of_some _ e) (Nat.le_refl _) ?_, rfl, q _ hf⟩
  exact ⟨z, us, 0, r, Heap.get?_push_size _ rfl⟩
end

/-! ### what a def promises -/
/-- a def's promise: the bound arguments in the parameters' order, the heap, the wanted end, the wanted exception -/
abbrev Sp := List V → Hp → VK → XK → Prop
/-- how an exception lies behind a call (file 08 gives it): the callers' frames, abstract heap and state ahead of the call, the wish, the exception, the state -/
abbrev CXT := List Env → Hp → Shared → XK → Value → Shared → Prop

/-- the state at a call -/
structure Env0 (P : Program) (w : World) (K : PySem.W.Frag) (mg : Str → Option Value) (base : Heap) (A : Around) (outer : List Env) (s : Shared) (H : Hp) : Prop where
  frames : A.frames = some outer
  mod : Mod K mg base
  bs : ∀ b o, base.get? b = some o → s.heap.get? b = some o ∧ H b = none
  bsz : base.objs.size ≤ s.heap.objs.size
  funs : s.heap.FunFrames base outer
  frf : ∀ b ∈ frs outer, H b = none
  hok : HOk P w H s.heap
  bare : AllBare s.gens
/-- a call's end -/
def CE (outer : List Env) (P : Program) (w : World) (H : Hp) (s : Shared) (Q : VK) (u : Value) (s' : Shared) : Prop :=
  ∃ v H', s'.os = s.os ∧ AllBare s'.gens ∧ Un (frs outer) [] H H' s.heap s'.heap ∧ HOk P w H' s'.heap ∧ RelV v u ∧ Q v H'
def CR (CX : CXT) (outer : List Env) (P : Program) (w : World) (H : Hp) (s : Shared) (Q : VK) (E : XK) (r : Result) (s' : Shared) : Prop :=
  match r with
  | .ok (.ret u) => CE outer P w H s Q u s'
  | .ok _ => False
  | .error e => CX outer H s E e s'
structure FnOk (P : Program) (w : World) (K : PySem.W.Frag) (mg : Str → Option Value) (base : Heap) (CX : CXT) (k : Nat) (f : Addr) (fd : FuncData) (ps : List Str) (sp : Sp) : Prop where
  len : ∀ vs H Q E, sp vs H Q E → vs.length = ps.length
  run : ∀ (A : Around) (outer : List Env) (s : Shared) (H : Hp) (args : Args) (us : List Value) (vs : List V) (Q : VK) (E : XK), Room k A → Env0 P w K mg base A outer s H → BindsTo s fd args (ps.zip us) → Vals vs us → sp vs H Q E →
    codeAny (model P w) A (.call (.ref f) args) (CR CX outer P w H s Q E) s
theorem FnOk.mono {P : Program} {w : World} {K : PySem.W.Frag} {mg : Str → Option Value} {base : Heap} {CX : CXT} {j k : Nat} {f : Addr} {fd : FuncData} {ps : List Str} {sp : Sp} (F : FnOk P w K mg base CX j f fd ps sp) (h : j ≤ k) :
    FnOk P w K mg base CX k f fd ps sp := ⟨F.len, fun A outer s H args us vs Q E hr => F.run A outer s H args us vs Q E (hr.mono h)⟩
/-- a weaker promise -/
theorem FnOk.imp {P : Program} {w : World} {K : PySem.W.Frag} {mg : Str → Option Value} {base : Heap} {CX : CXT} {k : Nat} {f : Addr} {fd : FuncData} {ps : List Str} {sp sp' : Sp} (F : FnOk P w K mg base CX k f fd ps sp)
    (h : ∀ vs H Q E, sp' vs H Q E → sp vs H Q E) : FnOk P w K mg base CX k f fd ps sp' :=
  ⟨fun vs H Q E q => F.len vs H Q E (h _ _ _ _ q), fun A outer s H args us vs Q E hr he hb hv hs => F.run A outer s H args us vs Q E hr he hb hv (h _ _ _ _ hs)⟩

theorem Env0.make {P : Program} {w : World} {K : PySem.W.Frag} {mg : Str → Option Value} {base : Heap} {A : Around} {outer : List Env} {s : Shared} {H : Hp} (e : Env0 P w K mg base A outer s H) (C : Addr) (us : List Value) (kw : List (Str × Value)) :
    Env0 P w K mg base (A.under (.builtin "type.__call__" ⟨.ref C :: us, kw⟩)) outer s H := ⟨by first | exact e.frames | (simpa [Around.under, Code.envs, Code.isFrame, pushEnvs] using e.frames), e.mod, e.bs, e.bsz, e.funs, e.frf, e.hok, e.bare⟩
theorem Env0.in1 {P : Program} {w : World} {K : PySem.W.Frag} {mg : Str → Option Value} {base : Heap} {A : Around} {outer : List Env} {s : Shared} {H : Hp} (e : Env0 P w K mg base A outer s H) :
    Env0 P w K mg base A.in1 outer s H := ⟨e.frames, e.mod, e.bs, e.bsz, e.funs, e.frf, e.hok, e.bare⟩

section
variable {X : Cx} {pins : List (Addr × Obj)} {σ : St} {H : Hp} {s s' : Shared}
/-- from a body: what a callee wants -/
theorem Inv.env0 (I : Inv X pins σ H s) : Env0 X.prog X.w X.K X.mg X.base X.A X.stack s H :=
  ⟨I.ok.frames, I.ok.mod, I.bs, Nat.le_trans I.ok.bsz I.sz, I.stack, I.stkFree, I.hok, I.bare⟩
/-- behind a call -/
theorem Inv.after {Q : VK} {u : Value} (I : Inv X pins σ H s) (h : CE X.stack X.prog X.w H s Q u s') : EP X pins σ Q u s' := by
  obtain ⟨v, H', os, bare, un, hok, r, q⟩ := h
  obtain ⟨hh, g, d, t, os'⟩ := s'
  obtain rfl : os' = s.os := os
  exact ⟨v, H', I.call (h' := hh) (g' := g) (d' := d) (t' := t) (ch := []) un hok bare (fun b z => absurd z (by simp)), r, q⟩
end

/-! ### calls -/
/-- f(..): the written arguments, then the defaults dvs; E: what is wanted of an exception -/
def tCall (sp : Sp) (dvs : List V) (E : XK) (t : TA) : TE := fun σ H Q => t σ H fun vs H1 => sp (vs ++ dvs) H1 Q E
/-- o.m(..) of an instance of the class at C -/
def tMeth (C : Addr) (m : Str) (sp : Sp) (dvs : List V) (E : XK) (ta : TE) (t : TA) : TE := fun σ H Q => ta σ H fun x H1 => ∃ a dx fs, x = .ref a ∧ H1 a = some (.ins C dx fs) ∧ fs.lookup m = none ∧
  t σ H1 fun vs H2 => sp (x :: (vs ++ dvs)) H2 Q E
/-- C(..): a new instance and its dict, then __init__ -/
def tMake (C : Addr) (sp : Sp) (dvs : List V) (E : XK) (t : TA) : TE := fun σ H Q => t σ H fun vs H1 => ∀ x dx, H1 x = none → H1 dx = none → dx ≠ x →
  sp (.ref x :: (vs ++ dvs)) (upd (upd H1 dx (.own x)) x (.ins C dx [])) (fun v H2 => v = .non ∧ Q (.ref x) H2) E

/-- how the parameters are bound: us the positional arguments, kw the keywords' values by name, ds the defaults that fill up -/
def Binds (K : PySem.W.Frag) (fd : FuncData) (ps : List Str) (ds : List Value) : Prop :=
  ∀ (s : Shared) (us : List Value), K.In s.heap → (us ++ ds).length = ps.length → BindsTo s fd ⟨us, []⟩ (ps.zip (us ++ ds))
/-- every parameter is given -/
theorem Binds.all {K : PySem.W.Frag} {fd : FuncData} {ps : List Str} (h : ∀ us : List Value, us.length = ps.length → bindArgs fd ⟨us, []⟩ = pure (ps.zip us)) : Binds K fd ps [] := fun s us _ hl => by
  rw [List.append_nil] at hl ⊢
  exact .of_eq (h us hl)

/-- an exception of a callee reaches what this body wants of exceptions -/
def Passes (CX : CXT) (X : Cx) (E : XK) : Prop := ∀ (pins : List (Addr × Obj)) (σ : St) (H : Hp) (s : Shared) (e : Value) (s' : Shared), Inv X pins σ H s → CX X.stack H s E e s' → X.xe e s'

section
variable {X : Cx} {CX : CXT} {k : Nat} {f C : Addr} {fd : FuncData} {ps : List Str} {sp : Sp} {dvs : List V} {ds : List Value} {E : XK} {x m : Str} {p pos apos : Pos} {e o : Expr} {es : List Expr} {ta : TE} {t : TA}

/-- the callee runs -/
theorem run_fn {pins : List (Addr × Obj)} {σ : St} {H : Hp} {s : Shared} {Q : VK} {us : List Value} {vs : List V} (F : FnOk X.prog X.w X.K X.mg X.base CX k f fd ps sp) (hr : Room k X.A) (hb : Binds X.K fd ps ds) (hd : Vals dvs ds) (hx : Passes CX X E)
    (I : Inv X pins σ H s) (r : Vals vs us) (h : sp (vs ++ dvs) H Q E) : wpAny (model X.prog X.w) X.A (call (.ref f) us) (EP X pins σ Q) X.xe s := by
  have r2 : Vals (vs ++ dvs) (us ++ ds) := r.append hd
  have hl : (us ++ ds).length = ps.length := by rw [← r2.length]; exact F.len _ _ _ _ h
  refine wpAny_call (codeAny_mono (F.run X.A X.stack s H ⟨us, []⟩ (us ++ ds) (vs ++ dvs) Q E hr I.env0 (hb s us I.kIn hl) r2 h) fun r s' hq => ?_)
  cases r with
  | error e => exact hx pins σ H s e s' I hq
  | ok fl =>
    cases fl with
    | ret u => exact I.after hq
    | next => exact False.elim hq
    | brk => exact False.elim hq
    | cont => exact False.elim hq

theorem pe_call (F : FnOk X.prog X.w X.K X.mg X.base CX k f fd ps sp) (hr : Room k X.A) (hg : Gl X x) (hm : X.mg x = some (.ref f)) (hk : PySem.W.keepIn X.K (.ref f) = true) (hb : Binds X.K fd ps ds) (hd : Vals dvs ds) (hx : Passes CX X E)
    (ha : PA X (e :: es) t) (hdb : (x == ("__debug__" : Str)) = false := by decide) (he : starEach (e :: es) X.env = (false, eval e X.env) :: starEach es X.env := by rfl) (hpl : (backTo pos (starEach es X.env)).any (·.1) = false := by rfl) :
    PE X (.Call (.Name x p) (e :: es) [] pos) (tCall sp dvs E t) := by
  intro pins s σ H Q I h
  refine wpAny_Call_Name_kw (ld_glob I hg hm ?_ hdb)
  refine PySem.W.callWith_K (h₀ := X.base) I.ok.mod.kin hk (thn (ha pos pins s σ H _ I h) fun us s1 ⟨vs, H1, I1, r, q⟩ => ⟨I1.kIn, ?_⟩) he hpl
  exact run_fn F hr hb hd hx I1 r q
theorem pe_call0 (F : FnOk X.prog X.w X.K X.mg X.base CX k f fd ps sp) (hr : Room k X.A) (hg : Gl X x) (hm : X.mg x = some (.ref f)) (hk : PySem.W.keepIn X.K (.ref f) = true) (hb : Binds X.K fd ps ds) (hd : Vals dvs ds) (hx : Passes CX X E)
    (hdb : (x == ("__debug__" : Str)) = false := by decide) : PE X (.Call (.Name x p) [] [] pos) (tCall sp dvs E tNil) := by
  intro pins s σ H Q I h
  refine wpAny_Call_Name_kw (ld_glob I hg hm ?_ hdb)
  exact PySem.W.callWith_K0 I.kIn hk (run_fn (us := []) F hr hb hd hx I .nil h)

/-- o.m(e, ..) -/
theorem pe_meth {pl : Sem Bool} (he : PE X o ta) (c : Cls X.K C) (hm : Meth X.K C m f) (F : FnOk X.prog X.w X.K X.mg X.base CX k f fd ps sp) (hr : Room k X.A) (hb : Binds X.K fd ps ds) (hd : Vals dvs ds) (hx : Passes CX X E) (ha : PA X (e :: es) t)
    (hst : starEach (e :: es) X.env = (false, eval e X.env) :: starEach es X.env := by rfl) (hpl : (backTo pos (starEach es X.env)).any (·.1) = false := by rfl)
    (ht : eval (.Call (.Attribute o m apos) (e :: es) [] pos) X.env = (do
      let ov ← eval o X.env
      standAt apos.atName
      let (f, first) ← holding [ov] (getMethod ov m pl)
      callWith pos f first (backTo pos (starEach (e :: es) X.env)) (backToKw pos (keywordEach [] X.env))) := by rfl) :
    PE X (.Call (.Attribute o m apos) (e :: es) [] pos) (tMeth C m sp dvs E ta t) := by
  intro pins s σ H Q I h
  refine PySem.W.methodCall_KW (pl := pl) (thn (he pins s σ H _ I h) fun u s1 ⟨x, H1, I1, rx, a, dx, fs, ex, ea, l, q⟩ => ?_) ht
  subst ex
  obtain rfl : u = Value.ref a := rx
  refine getmeth_ok I1 ea c hm l ?_
  refine PySem.W.callWith_K (first := [.ref a]) (h₀ := X.base) I.ok.mod.kin hm.kp (thn (ha pos pins s1 σ H1 _ I1 q) fun us s2 ⟨vs, H2, I2, r, q2⟩ => ⟨I2.kIn, ?_⟩) hst hpl
  exact run_fn (us := .ref a :: us) (vs := .ref a :: vs) F hr hb hd hx I2 (.cons rfl r) q2
/-- o.m() -/
theorem pe_meth0 {pl : Sem Bool} (he : PE X o ta) (c : Cls X.K C) (hm : Meth X.K C m f) (F : FnOk X.prog X.w X.K X.mg X.base CX k f fd ps sp) (hr : Room k X.A) (hb : Binds X.K fd ps ds) (hd : Vals dvs ds) (hx : Passes CX X E)
    (ht : eval (.Call (.Attribute o m apos) [] [] pos) X.env = (do
      let ov ← eval o X.env
      standAt apos.atName
      let (f, first) ← holding [ov] (getMethod ov m pl)
      callWith pos f first (backTo pos (starEach [] X.env)) (backToKw pos (keywordEach [] X.env))) := by rfl) :
    PE X (.Call (.Attribute o m apos) [] [] pos) (tMeth C m sp dvs E ta tNil) := by
  intro pins s σ H Q I h
  refine PySem.W.methodCall_KW (pl := pl) (thn (he pins s σ H _ I h) fun u s1 ⟨x, H1, I1, rx, a, dx, fs, ex, ea, l, q⟩ => ?_) ht
  subst ex
  obtain rfl : u = Value.ref a := rx
  refine getmeth_ok I1 ea c hm l ?_
  exact PySem.W.callWith_K0 (first := [.ref a]) I1.kIn hm.kp (run_fn (us := [.ref a]) (vs := [.ref a]) F hr hb hd hx I1 (.cons rfl .nil) q)

/-- what a class must have to be made -/
structure Mk (K : PySem.W.Frag) (C f : Addr) : Prop where
  makes : PySem.W.makesIn K C = true
  init : PySem.W.findIn K (.ref C) "__init__" = some (some (.ref f))
  fn : PySem.W.isFn K (.ref f) = true
  kp : PySem.W.keepIn K (.ref C) = true

theorem run_make {pins : List (Addr × Obj)} {σ : St} {H : Hp} {s : Shared} {Q : VK} {us : List Value} {vs : List V} (M : Mk X.K C f) (F : FnOk X.prog X.w X.K X.mg X.base CX k f fd ps sp) (hr : Room (k + 1) X.A) (hb : Binds X.K fd ps ds) (hd : Vals dvs ds)
    (hx : Passes CX X E) (I : Inv X pins σ H s) (r : Vals vs us)
    (h : ∀ x dx, H x = none → H dx = none → dx ≠ x → sp (.ref x :: (vs ++ dvs)) (upd (upd H dx (.own x)) x (.ins C dx [])) (fun v H2 => v = .non ∧ Q (.ref x) H2) E) :
    wpAny (model X.prog X.w) X.A (call (.ref C) us) (EP X pins σ Q) X.xe s := by
  have hq := h (s.heap.objs.size + 1) s.heap.objs.size (I.hok.fresh (Nat.le_succ _)) (I.hok.fresh (Nat.le_refl _)) (Nat.ne_of_lt (Nat.lt_succ_self _))
  have I2 := Inv.made (C := C) I
  have r2 : Vals (V.ref (s.heap.objs.size + 1) :: (vs ++ dvs)) (Value.ref (s.heap.objs.size + 1) :: (us ++ ds)) := .cons rfl (r.append hd)
  have hl : (Value.ref (s.heap.objs.size + 1) :: us ++ ds).length = ps.length := by
    have e := r2.length
    rw [F.len _ _ _ _ hq] at e
    exact e.symm
  refine wpAny_call (make_map (f := f) I.kIn M.makes M.init (beq_iff_eq.mp M.fn) (codeAny_mono (F.run _ X.stack _ _ ⟨Value.ref (s.heap.objs.size + 1) :: us, []⟩ (Value.ref (s.heap.objs.size + 1) :: (us ++ ds)) _ _ E (hr.make C us [])
    (I2.env0.make C us []) (hb _ (Value.ref (s.heap.objs.size + 1) :: us) I2.kIn hl) r2 hq) fun r s' hq' => ?_))
  cases r with
  | error e => exact hx pins σ _ _ e s' I2 hq'
  | ok fl =>
    cases fl with
    | ret u =>
      obtain ⟨v, H', I3, rv, ev, q3⟩ := I2.after hq'
      subst ev
      exact ⟨rv, ⟨V.ref (s.heap.objs.size + 1), H', I3, rfl, q3⟩⟩
    | next => exact False.elim hq'
    | brk => exact False.elim hq'
    | cont => exact False.elim hq'
theorem pe_make (M : Mk X.K C f) (F : FnOk X.prog X.w X.K X.mg X.base CX k f fd ps sp) (hr : Room (k + 1) X.A) (hg : Gl X x) (hm : X.mg x = some (.ref C)) (hb : Binds X.K fd ps ds) (hd : Vals dvs ds) (hx : Passes CX X E)
    (ha : PA X (e :: es) t) (hdb : (x == ("__debug__" : Str)) = false := by decide) (he : starEach (e :: es) X.env = (false, eval e X.env) :: starEach es X.env := by rfl) (hpl : (backTo pos (starEach es X.env)).any (·.1) = false := by rfl) :
    PE X (.Call (.Name x p) (e :: es) [] pos) (tMake C sp dvs E t) := by
  intro pins s σ H Q I h
  refine wpAny_Call_Name_kw (ld_glob I hg hm ?_ hdb)
  refine PySem.W.callWith_K (h₀ := X.base) I.ok.mod.kin M.kp (thn (ha pos pins s σ H _ I h) fun us s1 ⟨vs, H1, I1, r, q⟩ => ⟨I1.kIn, ?_⟩) he hpl
  exact run_make M F hr hb hd hx I1 r q
theorem pe_make0 (M : Mk X.K C f) (F : FnOk X.prog X.w X.K X.mg X.base CX k f fd ps sp) (hr : Room (k + 1) X.A) (hg : Gl X x) (hm : X.mg x = some (.ref C)) (hb : Binds X.K fd ps ds) (hd : Vals dvs ds) (hx : Passes CX X E)
    (hdb : (x == ("__debug__" : Str)) = false := by decide) : PE X (.Call (.Name x p) [] [] pos) (tMake C sp dvs E tNil) := by
  intro pins s σ H Q I h
  refine wpAny_Call_Name_kw (ld_glob I hg hm ?_ hdb)
  exact PySem.W.callWith_K0 I.kIn M.kp (run_make (us := []) M F hr hb hd hx I .nil h)
end

/-! ### keywords -/
/-- the values of the keywords, from the left -/
def PK (X : Cx) (kws : List Keyword) (t : TA) : Prop :=
  ∀ (pos : Pos) (pins : List (Addr × Obj)) (s : Shared) (σ : St) (H : Hp) (Q : List V → Hp → Prop), Inv X pins σ H s → t σ H Q → wpAny (model X.prog X.w) X.A (evalAll ((backToKw pos (keywordEach kws X.env)).map (·.2))) (AP X pins σ Q) X.xe s
section
variable {X : Cx} {CX : CXT} {k : Nat} {f C : Addr} {fd : FuncData} {ps ks : List Str} {sp : Sp} {E : XK} {x m : Str} {p pos apos kpos : Pos} {e o : Expr} {es : List Expr} {kws : List Keyword} {te ta : TE} {t tk : TA} {nm : Option Str}
theorem pk_nil : PK X [] tNil := fun _ _ _ _ H Q I h => wpAny_evalAll_nil ⟨[], H, I, .nil, h⟩
theorem pk_cons (ha : PE X e te) (hr : PK X kws t) : PK X (⟨nm, e, kpos⟩ :: kws) (tCons te t) := by
  intro pos pins s σ H Q I h
  show wpAny _ _ (evalAll ((do let v ← eval e X.env; standAt pos; pure v) :: (backToKw pos (keywordEach kws X.env)).map (·.2))) _ _ s
  refine wpAny_evalAll_cons (wpAny_bind (thn (ha pins s σ H _ I h) fun u s1 ⟨x, H1, I1, r1, q1⟩ => wpAny_bind (wpAny_standAt (wpAny_pure ?_))))
  exact thn (hr pos pins s1 σ H1 _ I1 q1) fun us s2 ⟨xs, H2, I2, r2, q2⟩ => ⟨x :: xs, H2, I2, .cons r1 r2, q2⟩

/-- how a call with keywords binds: g puts the positional values us and the keywords' values ws (names ks) in the parameters' order, defaults among them -/
structure KBinds (K : PySem.W.Frag) (fd : FuncData) (ps ks : List Str) (g : List Value → List Value → List Value) (gV : List V → List V → List V) : Prop where
  to : ∀ (s : Shared) (us ws : List Value), K.In s.heap → (g us ws).length = ps.length → BindsTo s fd ⟨us, ks.zip ws⟩ (ps.zip (g us ws))
  rel : ∀ {vs : List V} {us : List Value} {zs : List V} {ws : List Value}, Vals vs us → Vals zs ws → Vals (gV vs zs) (g us ws)
def tCallK (sp : Sp) (gV : List V → List V → List V) (E : XK) (t tk : TA) : TE := fun σ H Q => t σ H fun vs H1 => tk σ H1 fun zs H2 => sp (gV vs zs) H2 Q E
variable {g : List Value → List Value → List Value} {gV : List V → List V → List V}
theorem run_fnk {pins : List (Addr × Obj)} {σ : St} {H : Hp} {s : Shared} {Q : VK} {us ws : List Value} {vs zs : List V} (F : FnOk X.prog X.w X.K X.mg X.base CX k f fd ps sp) (hr : Room k X.A) (hb : KBinds X.K fd ps ks g gV) (hx : Passes CX X E)
    (I : Inv X pins σ H s) (r : Vals vs us) (rz : Vals zs ws) (h : sp (gV vs zs) H Q E) : wpAny (model X.prog X.w) X.A (call (.ref f) us (ks.zip ws)) (EP X pins σ Q) X.xe s := by
  have r2 := hb.rel r rz
  have hl : (g us ws).length = ps.length := by rw [← r2.length]; exact F.len _ _ _ _ h
  refine wpAny_call (codeAny_mono (F.run X.A X.stack s H ⟨us, ks.zip ws⟩ (g us ws) (gV vs zs) Q E hr I.env0 (hb.to s us ws I.kIn hl) r2 h) fun r s' hq => ?_)
  cases r with
  | error e => exact hx pins σ H s e s' I hq
  | ok fl =>
    cases fl with
    | ret u => exact I.after hq
    | next => exact False.elim hq
    | brk => exact False.elim hq
    | cont => exact False.elim hq
/-- f(e, .., k = v, ..) -/
theorem pe_callK (F : FnOk X.prog X.w X.K X.mg X.base CX k f fd ps sp) (hr : Room k X.A) (hg : Gl X x) (hm : X.mg x = some (.ref f)) (hk : PySem.W.keepIn X.K (.ref f) = true) (hb : KBinds X.K fd ps ks g gV) (hx : Passes CX X E)
    (ha : PA X (e :: es) t) (hkw : PK X kws tk) (hall : (backToKw pos (keywordEach kws X.env)).all (·.1.isSome) = true := by rfl) (hks : (backToKw pos (keywordEach kws X.env)).filterMap (·.1) = ks := by rfl)
    (hdb : (x == ("__debug__" : Str)) = false := by decide) (he : starEach (e :: es) X.env = (false, eval e X.env) :: starEach es X.env := by rfl)
    (hpl : ((backTo pos (starEach (e :: es) X.env)).any (·.1) || (backToKw pos (keywordEach kws X.env)).any (·.1.isNone)) = false := by rfl) :
    PE X (.Call (.Name x p) (e :: es) kws pos) (tCallK sp gV E t tk) := by
  intro pins s σ H Q I h
  refine wpAny_Call_Name_kw (ld_glob I hg hm ?_ hdb)
  refine PySem.W.callWith_KW (h₀ := X.base) I.ok.mod.kin hk hall (thn (ha pos pins s σ H _ I h) fun us s1 ⟨vs, H1, I1, r, q⟩ => ?_) hpl he
  refine thn (hkw pos pins s1 σ H1 _ I1 q) fun ws s2 ⟨zs, H2, I2, rz, q2⟩ => ⟨I2.kIn, ?_⟩
  rw [hks]
  exact run_fnk F hr hb hx I2 r rz q2
end

/-! ### a def's body keeps its promise -/
/-- names: the parameters first -/
structure FnScope (N P : List Str) (sc : Scope) : Prop where
  kind : sc.kind = .function
  co : sc.isCoroutine = false
  gen : sc.isGenerator = false
  nd : N.Nodup
  pre : N.take P.length = P
  par : ∀ x ∈ P, sc.names.lookup x = some .local ∨ sc.names.lookup x = some .cell
  nofree : ∀ y ∈ sc.names, y.2 ≠ .free

theorem bindL_out {kindOf : Str → Option NameKind} {x : Str} : ∀ {binds : List (Str × Value)} {m : Str → Option Value}, (∀ v, (x, v) ∉ binds) → bindL kindOf binds m x = m x
  | [], _, _ => rfl
  | (n, v) :: r, m, h => by
    unfold bindL
    rw [bindL_out fun w hw => h w (List.mem_cons_of_mem _ hw)]
    split
    · have : x ≠ n := by rintro rfl; exact h v List.mem_cons_self
      simp [this]
    · rfl
theorem bindC_out {kindOf : Str → Option NameKind} {x : Str} : ∀ {binds : List (Str × Value)} {m : Str → Option Value}, (∀ v, (x, v) ∉ binds) → bindC kindOf binds m x = m x
  | [], _, _ => rfl
  | (n, v) :: r, m, h => by
    unfold bindC
    rw [bindC_out fun w hw => h w (List.mem_cons_of_mem _ hw)]
    split
    · rfl
    · have : x ≠ n := by rintro rfl; exact h v List.mem_cons_self
      simp [this]
theorem bindL_get {kindOf : Str → Option NameKind} {x : Str} {v : Value} : ∀ {P : List Str} {vs : List Value} {i : Nat} {m : Str → Option Value}, P.Nodup → P[i]? = some x → vs[i]? = some v → kindOf x = some .local →
    bindL kindOf (P.zip vs) m x = some v
  | [], _, _, _, _, h, _, _ => by simp at h
  | _ :: _, [], _, _, _, _, h, _ => by simp at h
  | p :: P, w :: vs, 0, m, nd, h1, h2, hk => by
    simp at h1 h2; subst h1; subst h2
    show bindL kindOf ((p, w) :: P.zip vs) m p = _
    unfold bindL
    rw [bindL_out fun v hv => (List.nodup_cons.mp nd).1 (List.of_mem_zip hv).1, if_pos hk]
    simp
  | p :: P, w :: vs, i + 1, m, nd, h1, h2, hk => by
    show bindL kindOf ((p, w) :: P.zip vs) m x = _
    unfold bindL
    exact bindL_get (i := i) (List.nodup_cons.mp nd).2 (by simpa using h1) (by simpa using h2) hk
theorem bindC_get {kindOf : Str → Option NameKind} {x : Str} {v : Value} : ∀ {P : List Str} {vs : List Value} {i : Nat} {m : Str → Option Value}, P.Nodup → P[i]? = some x → vs[i]? = some v → kindOf x ≠ some .local →
    bindC kindOf (P.zip vs) m x = some v
  | [], _, _, _, _, h, _, _ => by simp at h
  | _ :: _, [], _, _, _, _, h, _ => by simp at h
  | p :: P, w :: vs, 0, m, nd, h1, h2, hk => by
    simp at h1 h2; subst h1; subst h2
    show bindC kindOf ((p, w) :: P.zip vs) m p = _
    unfold bindC
    rw [bindC_out fun v hv => (List.nodup_cons.mp nd).1 (List.of_mem_zip hv).1, if_neg hk]
    simp
  | p :: P, w :: vs, i + 1, m, nd, h1, h2, hk => by
    show bindC kindOf ((p, w) :: P.zip vs) m x = _
    unfold bindC
    exact bindC_get (i := i) (List.nodup_cons.mp nd).2 (by simpa using h1) (by simpa using h2) hk

/-- the names' values at the entry -/
def start (N : List Str) (vs : List V) : St := vs.map some ++ List.replicate (N.length - vs.length) none

/-- the context of a def's body, at its entry; an exception leaves the frame, then lies as CX says -/
def cxOf (CX : CXT) (P : Program) (w : World) (K : PySem.W.Frag) (mg : Str → Option Value) (base : Heap) (N : List Str) (qual : Str) (scope : Scope) (f : Addr) (cd : Value) (A : Around) (outer : List Env) (s : Shared) (H : Hp) (E : XK) : Cx where
  prog := P
  w := w
  K := K
  mg := mg
  base := base
  A := A.deeper (envOfC qual scope s.heap.objs.size f cd)
  N := N
  s₀ := s
  H₀ := H
  env := envOfC qual scope s.heap.objs.size f cd
  outer := outer
  stack := envOfC qual scope s.heap.objs.size f cd :: outer
  ex := []
  calm := true
  fn := fun _ => true
  pn := []
  xe := fun e s' => wpAny (model P w) (A.deeper (envOfC qual scope s.heap.objs.size f cd)) (leaving (envOfC qual scope s.heap.objs.size f cd) e) (fun _ s'' => CX outer H s E e s'') (fun e' s'' => CX outer H s E e' s'') s'

theorem cell_has {sc : Scope} {n : Nat} {x : Str} (h : sc.names.lookup x = some .cell) : ∃ c, (cellsFrom n sc.names []).lookup x = some c := by
  have q := PySem.W.cellsFrom_some sc.names n [] (.inl h)
  exact Option.isSome_iff_exists.mp q

theorem inv_start {CX : CXT} {P : Program} {w : World} {K : PySem.W.Frag} {mg : Str → Option Value} {base : Heap} {N ps : List Str} {qual : Str} {scope : Scope} {f : Addr} {cd : Value} {A : Around} {outer : List Env} {s s1 : Shared} {H : Hp} {E : XK} {us : List Value} {vs : List V}
    (S : FnScope N ps scope) (hd : A.handled = none) (e0 : Env0 P w K mg base A outer s H) (hl : vs.length = ps.length) (r : Vals vs us)
    (x : InCallC s s.heap.objs.size (bindL (envOfC qual scope s.heap.objs.size f cd).kindOf (ps.zip us) fun _ => none) (cellsFrom (s.heap.objs.size + 1) scope.names []) (bindC (envOfC qual scope s.heap.objs.size f cd).kindOf (ps.zip us) fun _ => none) s1) :
    Inv (cxOf CX P w K mg base N qual scope f cd A outer s H E) [] (start N vs) H s1 := by
  have hpl : ps.length ≤ N.length := by have := congrArg List.length S.pre; rw [List.length_take] at this; omega
  obtain ⟨h1, tk, rfl, hk⟩ := x.done
  have noA : ∀ b : Addr, b ∉ (cxOf CX P w K mg base N qual scope f cd A outer s H E).ex := fun b z => absurd (show b ∈ ([] : List Addr) from z) (by simp)
  refine ⟨⟨e0.mod, S.kind, rfl, rfl, Nat.le_refl _, fun y z c h1 h2 => ?_, fun y hy => ?_, fun y c _ h => ?_, fun _ => hd, Around.frames_deeper e0.frames, .inr ⟨rfl, rfl⟩, fun b z => absurd z (noA b), e0.bs, e0.bsz, fun b _ _ => noA b, fun b z => absurd z (noA b), e0.funs, e0.frf⟩,
    rfl, e0.bare, Un.kept hk, ⟨_, x.toInCall.ns, fun i y v h1 h2 h3 => ?_⟩, fun y c h => ⟨_, x.cell y c h⟩, e0.hok.fresh (Nat.le_refl _), fun y c h => ?_, fun p hp => absurd (show p ∈ ([] : List (Addr × Obj)) from hp) (by simp), e0.hok.kept hk, ?_⟩
  · exact name_of_addr x.apart (PySem.mem_of_lookup h1) (PySem.mem_of_lookup h2)
  · have hy : scope.names.lookup y = some .cell ∨ scope.names.lookup y = some .free := hy
    rcases hy with hy | hy
    · exact cell_has hy
    · exact absurd rfl (S.nofree _ (PySem.mem_of_lookup hy))
  · exact Nat.le_of_lt (x.above y c (PySem.mem_of_lookup h))
  · have hi : i < vs.length := by
      unfold start at h2
      by_cases hi : i < vs.length
      · exact hi
      · rw [List.getElem?_append_right (by simpa using hi)] at h2
        rw [List.getElem?_replicate] at h2
        split at h2 <;> cases h2
    have ha : vs[i]? = some v := by
      unfold start at h2
      rw [List.getElem?_append_left (by simpa using hi), List.getElem?_map] at h2
      cases e : vs[i]? with
      | none => rw [e] at h2; cases h2
      | some a => rw [e] at h2; cases h2; rfl
    obtain ⟨u, hu, rv⟩ := r.get ha
    have hp : ps[i]? = some y := by
      rw [← S.pre, List.getElem?_take_of_lt (by omega)]; exact h1
    have ndP : ps.Nodup := by rw [← S.pre]; exact S.nd.sublist (List.take_sublist _ _)
    refine ⟨u, rv, ?_⟩
    rcases S.par y (List.mem_of_getElem? hp) with k | k
    · exact .inl ⟨k, bindL_get ndP hp hu k⟩
    · obtain ⟨c, e⟩ := cell_has (n := s.heap.objs.size + 1) k
      refine .inr ⟨.inl k, c, e, ?_⟩
      have q := x.cell y c e
      rw [bindC_get ndP hp hu (by show scope.names.lookup y ≠ _; rw [k]; decide)] at q
      exact q
  · exact e0.hok.fresh (Nat.le_of_lt (x.above y c (PySem.mem_of_lookup h)))
  · unfold start
    show _ = N.length
    rw [List.length_append, List.length_map, List.length_replicate]
    omega

/-- THE RULE: a def (or a method) of the text, by its body. The body's reading t is chosen for each entry; it is run at the parameters' values -/
theorem fn_of {CX : CXT} {P : Program} {w : World} {K : PySem.W.Frag} {mg : Str → Option Value} {base : Heap} {k : Nat} {f : Addr} {name qual : Str} {params : Arguments} {body : List Stmt} {scope : Scope} {dV kV doc pm cdv ct oc : Value} {an od : Option Addr}
    {osl : Array (Option Value)} {N ps : List Str} {sp : Sp} (lk : K.lookup f = some ⟨oc, od, .func (PySem.W.fnOf name qual params body scope dV kV doc pm an cdv ct), osl⟩) (hcd : PySem.W.codeIn K cdv qual = true) (S : FnScope N ps scope)
    (len : ∀ vs H Q E, sp vs H Q E → vs.length = ps.length)
    (hbody : ∀ (A : Around) (outer : List Env) (s : Shared) (H : Hp) (vs : List V) (Q : VK) (E : XK), Room k (A.deeper (envOfC qual scope s.heap.objs.size f cdv)) → sp vs H Q E →
      ∃ t, PSs (cxOf CX P w K mg base N qual scope f cdv A outer s H E) body t ∧ t { nx := fun _ H' => Q .non H', rt := Q } (start N vs) H) :
    FnOk P w K mg base CX (k + 1) f (PySem.W.fnOf name qual params body scope dV kV doc pm an cdv ct) ps sp := by
  refine ⟨len, fun A outer s H args us vs Q E hr e0 hb r hsp => ?_⟩
  have hl := len _ _ _ _ hsp
  have KX : K.In s.heap := e0.mod.kin.keeps fun b o e => (e0.bs b o e).1
  have lim : s.heap.NoLimit := e0.mod.nolimit.keeps fun b o e => (e0.bs b o e).1
  have hkind : ∀ y ∈ ps.zip us, scope.names.lookup y.1 = some .local ∨ (scope.names.lookup y.1 = some .cell ∧ ((cellsFrom (s.heap.objs.size + 1) scope.names []).lookup y.1).isSome = true) := fun ⟨n, v⟩ hy => by
    rcases S.par n (List.of_mem_zip hy).1 with q | q
    · exact .inl q
    · exact .inr ⟨q, PySem.W.cellsFrom_some _ _ _ (.inl q)⟩
  refine codeAny_call_function hr.depth (KX _ _ lk) rfl S.co S.gen rfl (PySem.W.codeRec_of KX hcd) (hb _ _ _ _ ?_)
  refine wpAny_newFunctionEnv_cells S.kind hkind fun env he s1 x => ?_
  subst he
  refine ⟨lim.keeps x.toInCall.keep, codeAny_func ?_⟩
  obtain ⟨t, ht, hq⟩ := hbody A outer s H vs Q E (hr.deeper _) hsp
  have I : Inv (cxOf CX P w K mg base N qual scope f cdv A outer s H E) [] (start N vs) H s1 := inv_start S hr.hd e0 hl r x
  refine wpAny_mono (ht [] s1 (start N vs) H _ I hq) (fun fl s' hs => ?_) fun e s' hs => hs
  have fin : ∀ {σ' : St} {H' : Hp} {v : V} {u : Value}, Inv (cxOf CX P w K mg base N qual scope f cdv A outer s H E) [] σ' H' s' → RelV v u → Q v H' → CE outer P w H s Q u s' :=
    fun {σ' H' v u} J rv q => ⟨v, H', J.os, J.bare, J.base, J.hok, rv, q⟩
  cases fl with
  | ret u =>
    obtain ⟨v, σ', H', J, rv, q⟩ := hs
    exact fin J rv q
  | next =>
    obtain ⟨σ', H', J, q⟩ := hs
    exact fin (v := V.non) (u := Value.none) J rfl q
  | brk =>
    obtain ⟨_, _, _, q⟩ := hs
    exact False.elim q
  | cont =>
    obtain ⟨_, _, _, q⟩ := hs
    exact False.elim q
end L2

namespace L2
open PySem PySem.Spec PyProof.Rows
section
variable {X : Cx} {x : Str} {p pos : Pos} {e : Expr} {es : List Expr} {t : TA} {id T : String} {r : List V → Hp → VK → Prop}

def tCB (r : List V → Hp → VK → Prop) (t : TA) : TE := fun σ H Q => t σ H fun vs H1 => r vs H1 Q
/-- f(e, ..), f a built-in function -/
theorem pe_callB (hc : CallR X (.builtin id) r) (hg : Gl X x) (hm : X.mg x = none) (hv : bootBuiltins x = some (.builtin id)) (ha : PA X (e :: es) t) (hn : x ≠ "__name__" := by decide) (hdb : (x == ("__debug__" : Str)) = false := by decide)
    (he : starEach (e :: es) X.env = (false, eval e X.env) :: starEach es X.env := by rfl) (hpl : (backTo pos (starEach es X.env)).any (·.1) = false := by rfl) : PE X (.Call (.Name x p) (e :: es) [] pos) (tCB r t) := by
  intro pins s σ H Q I h
  refine wpAny_Call_Name_kw (ld_blt I hg hm hv ?_ hn hdb)
  exact PyProof.Rows.callWith_builtin1 (thn (ha pos pins s σ H _ I h) fun us s1 ⟨vs, H1, I1, r1, q1⟩ => hc pins s1 σ H1 vs us Q I1 r1 q1) he hpl
/-- T(e, ..), T a built-in type -/
theorem pe_callTy (hc : CallR X (.type T) r) (hg : Gl X x) (hm : X.mg x = none) (hv : bootBuiltins x = some (.type T)) (ha : PA X (e :: es) t) (hn : x ≠ "__name__" := by decide) (hdb : (x == ("__debug__" : Str)) = false := by decide)
    (he : starEach (e :: es) X.env = (false, eval e X.env) :: starEach es X.env := by rfl) (hpl : (backTo pos (starEach es X.env)).any (·.1) = false := by rfl) : PE X (.Call (.Name x p) (e :: es) [] pos) (tCB r t) := by
  intro pins s σ H Q I h
  refine wpAny_Call_Name_kw (ld_blt I hg hm hv ?_ hn hdb)
  exact PyProof.Rows.callWith_type1 (thn (ha pos pins s σ H _ I h) fun us s1 ⟨vs, H1, I1, r1, q1⟩ => hc pins s1 σ H1 vs us Q I1 r1 q1) he hpl
/-- T() -/
theorem pe_callTy0 (hc : CallR X (.type T) r) (hg : Gl X x) (hm : X.mg x = none) (hv : bootBuiltins x = some (.type T)) (hn : x ≠ "__name__" := by decide) (hdb : (x == ("__debug__" : Str)) = false := by decide) :
    PE X (.Call (.Name x p) [] [] pos) (tCB r tNil) := by
  intro pins s σ H Q I h
  refine wpAny_Call_Name_kw (ld_blt I hg hm hv ?_ hn hdb)
  exact PyProof.Rows.callWith_type0 (hc pins s σ H [] [] Q I .nil h)
end
end L2

namespace HT
open PySem PyProof.Rows

/-- t < u of tuples of ints -/
def lexLt : List Int → List Int → Bool
  | [], [] => false
  | [], _ :: _ => true
  | _ :: _, [] => false
  | x :: xs, y :: ys => if x = y then lexLt xs ys else decide (x < y)
theorem lexLt_cons (x y : Int) (xs ys : List Int) : lexLt (x :: xs) (y :: ys) = if x = y then lexLt xs ys else decide (x < y) := rfl
theorem lexLt_nil_nil : lexLt [] [] = false := rfl
theorem lexLt_nil_cons (y : Int) (ys : List Int) : lexLt [] (y :: ys) = true := rfl
theorem lexLt_cons_nil (x : Int) (xs : List Int) : lexLt (x :: xs) [] = false := rfl

theorem eqAt_int (A : Around) (s : Shared) (a : Int) (t : Tok) (c : Int) (u : Tok) : ∃ e, SeqAt.EqAt A s (.int a t) (.int c u) e ∧ (e = true ↔ a = c) :=
  ⟨(a == c), SeqAt.EqAt.int_int a t c u, by simp⟩
theorem rcLt_int (A : Around) (s : Shared) (a : Int) (t : Tok) (c : Int) (u : Tok) (prog : Program) (w : World) (E : Value → Shared → Prop) (Q : Value → Shared → Prop) (h : Q (.bool (decide (a < c))) s) :
    wpAny (model prog w) A (richCompare .Lt (.int a t) (.int c u)) Q E s :=
  (PyProof.Rows.lt_int h : wpAny (model prog w) A (compareOp .Lt (.int a t) (.int c u)) Q E s)

section
open PySem.SeqAt
open PySem.AutoSeq1 (wpAny_loadPart')
open PySem.MeetsSeq PySem.MeetsSeq2 PySem.MeetsSeq3

theorem tuple_lt_ints (l b : Addr) (items items2 : Array Value) (n n2 : Nat) (dd dd2 : Option Addr) (sl sl2 : Array (Option Value)) (ns ms : List Int) (hi : IntsAre items.toList ns) (hj : IntsAre items2.toList ms) :
    Meets (Builtin.«tuple.__lt__» ⟨[.ref l, .ref b], []⟩)
      (fun _ R s => s.heap.get? l = some { cls := .type "tuple", dict := dd, data := .seq items n, slots := sl } ∧ s.heap.get? b = some { cls := .type "tuple", dict := dd2, data := .seq items2 n2, slots := sl2 } ∧
        R (.ok (.ret (.bool (lexLt ns ms)))) s) :=
  .of_wp fun prog w A R s h => by
    obtain ⟨hp, g, d, tk, os⟩ := s; obtain ⟨hl, hb, h⟩ := h
    have f2 := AutoSeq1.sub_tuple_tuple
    have z1 : items.size = ns.length := by rw [← hi.length]; simp
    have z2 : items2.size = ms.length := by rw [← hj.length]; simp
    wp_walk using wpAny_loadPart' hl, wpAny_loadPart' hb, wpAny_forIn_list _ (fun rest b s' => b.1 = none ∧ s' = ⟨hp, g, d, tk, os⟩ ∧ ∃ (vs ws : List Value) (ns' ms' : List Int), rest = vs.zip ws ∧
      IntsAre vs ns' ∧ IntsAre ws ms' ∧ ns'.length + items2.size = ms'.length + items.size ∧ R (.ok (.ret (.bool (lexLt ns' ms')))) ⟨hp, g, d, tk, os⟩) _
    case turn =>
      rintro ⟨y, x⟩ rest b s' ⟨hb', rfl, vs, ws, ns', ms', hz, hvi, hwi, hlen, hR⟩
      cases hvi with
      | nil => rw [List.zip_nil_left] at hz; cases hz
      | cons a t hvi' =>
        cases hwi with
        | nil => rw [List.zip_nil_right] at hz; cases hz
        | cons c u hwi' =>
          rw [List.zip_cons_cons] at hz
          injection hz with hyx hrest
          injection hyx with hy hx
          subst hy hx
          rw [lexLt_cons] at hR
          simp only [List.length_cons] at hlen
          obtain ⟨e, he, hiff⟩ := eqAt_int A.in1 ⟨hp, g, d, tk, os⟩ a t c u
          refine wpAny_bind (he prog w _ _ ?_)
          cases e with
          | true =>
            rw [if_pos (hiff.mp rfl)] at hR
            wp_walk
            exact ⟨rfl, rfl, _, _, _, _, hrest, hvi', hwi', by omega, hR⟩
          | false =>
            rw [if_neg (fun q => absurd (hiff.mpr q) Bool.false_ne_true)] at hR
            have hri := rcLt_int A.in1 ⟨hp, g, d, tk, os⟩ a t c u prog w
            wp_walk using hri
            exact ⟨_, rfl, by simpa using hR⟩
    case fin =>
      rintro ⟨b1, b2⟩ s' ⟨hb', rfl, vs, ws, ns', ms', hz, hvi, hwi, hlen, hR⟩
      simp only at hb'
      subst hb'
      have hv : lexLt ns' ms' = decide (items.size < items2.size) := by
        cases hvi with
        | nil =>
          cases hwi with
          | nil =>
            simp only [List.length_nil] at hlen
            rw [lexLt_nil_nil]
            exact (decide_eq_false (by omega)).symm
          | cons c u hw =>
            simp only [List.length_nil, List.length_cons] at hlen
            rw [lexLt_nil_cons]
            exact (decide_eq_true (by omega)).symm
        | cons a t hv =>
          cases hwi with
          | nil =>
            simp only [List.length_nil, List.length_cons] at hlen
            rw [lexLt_cons_nil]
            exact (decide_eq_false (by omega)).symm
          | cons c u hw =>
            rw [List.zip_cons_cons] at hz
            cases hz
      rw [hv] at hR
      wp_walk
      exact ⟨_, rfl, by simpa [Builtin.Tuple.tupleCompareSizes] using hR⟩
    case h =>
      exact ⟨rfl, rfl, items.toList, items2.toList, ns, ms, rfl, hi, hj, by omega, h⟩
end

section
variable {prog : Program} {w : World} {A : Around} {E : Value → Shared → Prop} {s : Shared}

theorem lt_tupInts {l b : Addr} {items items2 : Array Value} {ns ms : List Int} {Q : Value → Shared → Prop} (hl : IsTup s.heap l items) (hb : IsTup s.heap b items2) (hi : IntsAre items.toList ns) (hj : IntsAre items2.toList ms)
    (hu : A.units < cLine) (h : Q (.bool (lexLt ns ms)) s) : wpAny (model prog w) A (compareOp .Lt (.ref l) (.ref b)) Q E s := by
  obtain ⟨⟨cls, dd, data, sl⟩, ho, hc, n, hd⟩ := id hl
  obtain ⟨⟨cls2, dd2, data2, sl2⟩, ho2, hc2, n2, hd2⟩ := id hb
  simp only at hc hd hc2 hd2
  subst hc hd hc2 hd2
  exact richCompare_meets_room (op := .Lt) ⟨_, ho, rfl⟩ ⟨_, ho2, rfl⟩ PySem.F.slot_tuple_lt PySem.F.entry_tuple_lt (PySem.F.args_tuple_lt_2 _ _) (tuple_lt_ints l b items items2 n n2 dd dd2 sl sl2 ns ms hi hj)
    ⟨ho, ho2, show Value.bool (lexLt ns ms) ≠ Value.notImplemented ∧ Q (.bool (lexLt ns ms)) s from ⟨(fun x => nomatch x), h⟩⟩ hu

/-- t + u, t not empty -/
theorem cat_tup {t b : Addr} {vs ws : List Value} {Q : Value → Shared → Prop} (ht : IsTup s.heap t vs.toArray) (hb : IsTup s.heap b ws.toArray) (hv : vs ≠ [])
    (h1 : ws = [] → Q (.ref t) s) (h2 : ws ≠ [] → Q (.ref s.heap.objs.size) { s with heap := s.heap.push { cls := .type "tuple", data := .seq (vs ++ ws).toArray } })
    (hsz : vs.length + ws.length ≤ sizeLine) : wpAny (model prog w) A (binaryOp .Add (.ref t) (.ref b)) Q E s := by
  obtain ⟨⟨cls, dd, data, sl⟩, ho, hc, n, hd⟩ := id ht
  obtain ⟨⟨cls2, dd2, data2, sl2⟩, ho2, hc2, n2, hd2⟩ := id hb
  simp only at hc hd hc2 hd2
  subst hc hd hc2 hd2
  have e : vs.toArray ++ ws.toArray = (vs ++ ws).toArray := by simp
  by_cases hw : ws = []
  · exact concat_meets ⟨_, ho, rfl⟩ ⟨_, ho2, rfl⟩ noFill_tuple_add seq_tuple_add PySem.F.slot_tuple_add PySem.F.entry_tuple_add (PySem.F.args_tuple_add_2 _ _)
      (tuple_addW1 t b vs.toArray ws.toArray n n2 dd dd2 sl sl2 (by simpa using hv) (by simp [hw])) ⟨ho, ho2, h1 hw⟩
  · refine concat_meets ⟨_, ho, rfl⟩ ⟨_, ho2, rfl⟩ noFill_tuple_add seq_tuple_add PySem.F.slot_tuple_add PySem.F.entry_tuple_add (PySem.F.args_tuple_add_2 _ _)
      (tuple_addW2 t b vs.toArray ws.toArray n n2 dd dd2 sl sl2 (by simpa using hv) (by simpa using hw) (by rw [List.size_toArray, List.size_toArray]; exact hsz)) ⟨ho, ho2, ?_⟩
    rw [e]
    exact h2 hw

/-! ### t[a:b], not the whole -/
/-- a slice's bound as a place among n (d where it is left out) -/
def sIx (n d : Nat) : Option Int → Nat
  | none => d
  | some v => if v < 0 then (v + (n : Int)).toNat else min v.toNat n
theorem sIx_none (n d : Nat) : sIx n d none = d := rfl
theorem sIx_nat (n d k : Nat) : sIx n d (some (k : Int)) = min k n := by
  show (if (k : Int) < 0 then ((k : Int) + (n : Int)).toNat else min (k : Int).toNat n) = min k n
  rw [if_neg (by omega), Int.toNat_natCast]
theorem sIx_le (n d : Nat) (hd : d ≤ n) (o : Option Int) : sIx n d o ≤ n := by
  cases o with
  | none => exact hd
  | some v =>
    show (if v < 0 then (v + (n : Int)).toNat else min v.toNat n) ≤ n
    by_cases hv : v < 0
    · rw [if_pos hv]; omega
    · rw [if_neg hv]; exact Nat.min_le_right _ _
theorem clip_eq (v : Int) (n d : Nat) : (if v < 0 then max (v + (n : Int)) 0 else min v (n : Int)) = ((sIx n d (some v) : Nat) : Int) := by
  show (if v < 0 then max (v + (n : Int)) 0 else min v (n : Int)) = (((if v < 0 then (v + (n : Int)).toNat else min v.toNat n) : Nat) : Int)
  by_cases hv : v < 0
  · simp only [if_pos hv]; omega
  · simp only [if_neg hv]; omega
theorem adjust_gen (lo hi : Option Int) (n : Nat) : Builtin.Slice.sliceAdjust lo hi 1 (n : Int) = (((sIx n 0 lo : Nat) : Int), ((sIx n n hi : Nat) : Int)) := by
  have h1 : ¬ ((1 : Int) < 0) := by omega
  unfold Builtin.Slice.sliceAdjust
  simp only [h1, if_false]
  refine Prod.ext ?_ ?_
  · cases lo with
    | none => rfl
    | some v => exact clip_eq v n 0
  · cases hi with
    | none => rfl
    | some v => exact clip_eq v n n
theorem places_gen (i j : Nat) : Builtin.Slice.slicePlaces (i : Int) (j : Int) 1 = j - i := by
  unfold Builtin.Slice.slicePlaces
  have h1 : (1 : Int) > 0 := by omega
  simp only [h1, if_true, Int.ediv_one]
  split <;> omega
theorem slicePart_ {v : Value} {o : Option Int} {Q : Option Int → Shared → Prop} (p : IsPart v o) (h : Q o s) : wpAny (model prog w) A (Builtin.Slice.slicePartIndex v) Q E s := by
  cases p with
  | none => exact slicePart_none h
  | int i t => exact slicePart_int h
theorem sliceApplied_gen {sl : Addr} {vl vu : Value} {lo hi : Option Int} {n : Nat} {Q : Int × Int × Nat → Shared → Prop} (hs : s.heap.IsSliceOf sl vl vu .none) (pl : IsPart vl lo) (pu : IsPart vu hi)
    (h : Q (((sIx n 0 lo : Nat) : Int), 1, sIx n n hi - sIx n 0 lo) s) : wpAny (model prog w) A (Builtin.Slice.sliceApplied (.ref sl) (pure (n : Int))) Q E s := by
  obtain ⟨os, hos, hcs, hds⟩ := id hs
  unfold Builtin.Slice.sliceApplied Builtin.Slice.sliceFields
  refine wpAny_bind (wpAny_bind (wpAny_field hos hds (x := vl) rfl (wpAny_bind (wpAny_field hos hds (x := vu) rfl (wpAny_bind (wpAny_field hos hds (x := .none) rfl (wpAny_pure ?_)))))))
  refine wpAny_bind (slicePart_none ?_)
  show wpAny _ _ (if ((1 : Int) == 0) = true then _ else _) _ _ s
  rw [if_neg (by decide)]
  refine wpAny_bind (slicePart_ pl (wpAny_bind (slicePart_ pu (wpAny_bind (wpAny_pure ?_)))))
  show wpAny _ _ (match Builtin.Slice.sliceAdjust lo hi 1 (n : Int) with | (lo, hi) => pure (lo, (1 : Int), Builtin.Slice.slicePlaces lo hi 1)) _ _ s
  rw [adjust_gen lo hi n]
  show wpAny _ _ (pure (((sIx n 0 lo : Nat) : Int), (1 : Int), Builtin.Slice.slicePlaces ((sIx n 0 lo : Nat) : Int) ((sIx n n hi : Nat) : Int) 1)) _ _ s
  rw [places_gen]
  exact wpAny_pure h
theorem pick_gen (xs : Array Value) (i k : Nat) : ((List.range k).filterMap fun (m : Nat) => xs[((i : Int) + (m : Int) * 1).toNat]?).toArray = ((xs.toList.drop i).take k).toArray := by
  have e : (fun (m : Nat) => xs[((i : Int) + (m : Int) * 1).toNat]?) = fun m => xs[i + m]? := by
    funext m
    have : ((i : Int) + (m : Int) * 1).toNat = i + m := by omega
    rw [this]
  rw [e]
  have := pick_run xs i k
  rw [List.filterMap_map] at this
  have e2 : ((fun x => xs[x]?) ∘ fun x => i + x) = fun m => xs[i + m]? := rfl
  rw [e2] at this
  rw [this]

theorem getItem_tuple_cut {t sl : Addr} {items : Array Value} {vl vu : Value} {lo hi : Option Int} {Q : Value → Shared → Prop} (ht : IsTup s.heap t items) (hs : s.heap.IsSliceOf sl vl vu .none) (pl : IsPart vl lo) (pu : IsPart vu hi)
    (hw : ¬ (sIx items.size 0 lo = 0 ∧ sIx items.size items.size hi = items.size))
    (h : Q (.ref s.heap.objs.size) { s with heap := s.heap.push { cls := .type "tuple", data := .seq ((items.toList.drop (sIx items.size 0 lo)).take (sIx items.size items.size hi - sIx items.size 0 lo)).toArray } })
    (hsz : items.size ≤ sizeLine) : wpAny (model prog w) A (getItem (.ref t) (.ref sl)) Q E s := by
  have htake : sizeOk (.seq ((items.toList.drop (sIx items.size 0 lo)).take (sIx items.size items.size hi - sIx items.size 0 lo)).toArray) := by
    show ((items.toList.drop (sIx items.size 0 lo)).take (sIx items.size items.size hi - sIx items.size 0 lo)).toArray.size ≤ sizeLine
    rw [List.size_toArray, List.length_take, List.length_drop, Array.length_toList]
    omega
  have hj : sIx items.size items.size hi ≤ items.size := sIx_le _ _ (Nat.le_refl _) hi
  obtain ⟨os, hos, hcs, hds⟩ := id hs
  have hTs : s.TypeIs (.ref sl) "slice" := ⟨os, hos, hcs⟩
  unfold getItem
  try with_reducible refine wpAny_holding ?_
  first | refine wpAny_bind (wpAny_pure ?_) | skip
  refine wpAny_bind (wpAny_sequenceKey ht.typeIs (by decide) ?_)
  refine wpAny_bind (wpAny_callSpecial?_slot (name := Str.ofString "__getitem__") ht.typeIs PyProof.Rows.slot_tuple_getitem
    (wpAny_call_entry PyProof.Rows.slot_tuple_getitem ht.typeIs entry_tuple_getitem ?_ (args_tuple_getitem _ _)))
  show wpAny _ _ (Builtin.Tuple.tupleItemsOf (.ref t) >>= _) _ _ s
  refine wpAny_bind (tupleItemsOf_ ht ?_)
  refine wpAny_bind (wpAny_typeOf hTs ?_)
  rw [if_pos (by decide)]
  refine wpAny_bind (sliceApplied_gen hs pl pu ?_)
  have hno : ¬ ((((sIx items.size 0 lo : Nat) : Int) == 0 && (1 : Int) == 1 && (sIx items.size items.size hi - sIx items.size 0 lo) == items.size) = true) := by
    intro q
    rw [Bool.and_eq_true, Bool.and_eq_true] at q
    have q1 : ((sIx items.size 0 lo : Nat) : Int) = 0 := eq_of_beq q.1.1
    have q2 : sIx items.size items.size hi - sIx items.size 0 lo = items.size := eq_of_beq q.2
    exact hw ⟨by omega, by omega⟩
  show wpAny _ _ (if (((sIx items.size 0 lo : Nat) : Int) == 0 && (1 : Int) == 1 && (sIx items.size items.size hi - sIx items.size 0 lo) == items.size) = true then _ else _) _ _ s
  rw [if_neg hno, pick_gen]
  first
    | exact wpAny_bind (m := Builtin.Tuple.tupleExact _) (wpAny_newObj_type (wpAny_pure ⟨_, rfl, wpAny_pure h⟩) htake)
    | exact wpAny_bind (m := Builtin.Tuple.tupleExact _) (wpAny_newObj_type (wpAny_bind (wpAny_pure (wpAny_pure ⟨_, rfl, wpAny_pure h⟩))) htake)
    | exact wpAny_bind (wpAny_bind (m := Builtin.Tuple.tupleExact _) (wpAny_newObj_type (wpAny_pure (wpAny_pure ⟨_, rfl, wpAny_pure h⟩)) htake))
    | exact wpAny_bind (wpAny_bind (m := Builtin.Tuple.tupleExact _) (wpAny_newObj_type (wpAny_pure ⟨_, rfl, wpAny_pure h⟩) htake))
end
end HT

namespace L2
open PySem PySem.Spec PyProof.Rows

/-! ### the parts of a slice -/
abbrev TO := St → Hp → (Option Int → Hp → Prop) → Prop
/-- a slice's part (left out, or an int) -/
def PO (X : Cx) (e : Option Expr) (t : TO) : Prop :=
  ∀ (pins : List (Addr × Obj)) (s : Shared) (σ : St) (H : Hp) (Q : Option Int → Hp → Prop), Inv X pins σ H s → t σ H Q →
    wpAny (model X.prog X.w) X.A (evalPart e X.env) (fun u s' => ∃ o H', Inv X pins σ H' s' ∧ IsPart u o ∧ Q o H') X.xe s
def tNoPart : TO := fun _ H Q => Q none H
def tPart (t : TE) : TO := fun σ H Q => t σ H fun x H1 => ∃ i, x = .int i ∧ Q (some i) H1

theorem intsAre_of {ns : List Int} : ∀ {us : List Value}, Vals (ns.map V.int) us → IntsAre us ns := by
  induction ns with
  | nil => intro us r; rw [List.map_nil] at r; cases r; exact .nil
  | cons n ns ih =>
    intro us r
    rw [List.map_cons] at r
    cases r with
    | cons r1 r2 =>
      obtain ⟨t, e⟩ := r1
      subst e
      exact .cons n t (ih r2)

section
variable {X : Cx} {e : Expr} {te : TE} {lo hi : Option Expr} {tl th : TO} {pos p2 : Pos}

theorem po_none : PO X none tNoPart := by
  intro pins s σ H Q I h
  rw [evalPart_none]
  exact wpAny_pure ⟨none, H, I, .none, h⟩
theorem po_some (h : PE X e te) : PO X (some e) (tPart te) := by
  intro pins s σ H Q I hw
  rw [evalPart_some]
  refine thn (h pins s σ H _ I hw) fun u s1 ⟨x, H1, I1, r1, q1⟩ => ?_
  obtain ⟨i, rfl, q⟩ := q1
  obtain ⟨t, rfl⟩ := r1
  exact ⟨some i, H1, I1, .int i t, q⟩

/-- what a slice of a value is, by values: the slice object stands at sl -/
def SlR (X : Cx) (r : V → Option Int → Option Int → Hp → VK → Prop) : Prop :=
  ∀ (pins : List (Addr × Obj)) (s : Shared) (σ : St) (H : Hp) (x : V) (v vl vu : Value) (lo hi : Option Int) (sl : Addr) (Q : VK), Inv X pins σ H s → RelV x v → s.heap.IsSliceOf sl vl vu .none → IsPart vl lo → IsPart vu hi → r x lo hi H Q →
    ∃ T id, typeLookup (.type T) "__getitem__" = pure (some (.builtin id)) ∧ s.TypeIs v T ∧ wpAny (model X.prog X.w) X.A (getItem v (.ref sl)) (EP X pins σ Q) X.xe s
theorem SlR.or {r r' : V → Option Int → Option Int → Hp → VK → Prop} (h : SlR X r) (h' : SlR X r') : SlR X (fun x lo hi H Q => r x lo hi H Q ∨ r' x lo hi H Q) := by
  intro pins s σ H x v vl vu lo hi sl Q I rx hs pl pu q
  rcases q with q | q
  · exact h pins s σ H x v vl vu lo hi sl Q I rx hs pl pu q
  · exact h' pins s σ H x v vl vu lo hi sl Q I rx hs pl pu q
def tSl (r : V → Option Int → Option Int → Hp → VK → Prop) (te : TE) (tl th : TO) : TE := fun σ H Q => te σ H fun x H1 => tl σ H1 fun l H2 => th σ H2 fun u H3 => r x l u H3 Q
/-- a[lo:hi], any a -/
theorem pe_slice {r : V → Option Int → Option Int → Hp → VK → Prop} (hr : SlR X r) (he : PE X e te) (hl : PO X lo tl) (hu : PO X hi th) : PE X (.Subscript e (.Slice lo hi none p2) pos) (tSl r te tl th) := by
  intro pins s σ H Q I h
  refine Subscript_ (thn (he pins s σ H _ I h) fun v s1 ⟨x, H1, I1, r1, q1⟩ => ?_)
  refine wpAny_Slice (thn (hl pins s1 σ H1 _ I1 q1) fun vl s2 ⟨l, H2, I2, pl, q2⟩ => thn (hu pins s2 σ H2 _ I2 q2) fun vu s3 ⟨u, H3, I3, pu, q3⟩ => ?_)
  rw [evalPart_none]
  refine wpAny_pure ?_
  have I4 : Inv X pins σ H3 { s3 with heap := s3.heap.push { cls := .type "slice", data := .fields #[vl, vu, .none] } } := I3.kept (t' := s3.toks) fun b ob q => Heap.get?_push_of_some _ q
  obtain ⟨T, id, hT, ht, hg⟩ := hr pins { s3 with heap := s3.heap.push { cls := .type "slice", data := .fields #[vl, vu, .none] } } σ H3 x v vl vu l u s3.heap.objs.size Q I4 r1 (Heap.IsSliceOf.new ..) pl pu q3
  show wpAny (model X.prog X.w) X.A (subscriptTail e (.Slice lo hi none p2) v (.ref s3.heap.objs.size)) (EP X pins σ Q) X.xe { s3 with heap := s3.heap.push { cls := .type "slice", data := .fields #[vl, vu, .none] } }
  exact tail_any (ops := [.ref s3.heap.objs.size, v]) ht hT hg (by with_unfolding_all rfl)

/-- the items of xs[lo:hi] -/
def cutV (xs : List V) (lo hi : Option Int) : List V := (xs.drop (HT.sIx xs.length 0 lo)).take (HT.sIx xs.length xs.length hi - HT.sIx xs.length 0 lo)
theorem cutV_length (xs : List V) (lo hi : Option Int) : (cutV xs lo hi).length ≤ xs.length := by
  unfold cutV
  rw [List.length_take, List.length_drop]
  omega
/-- t[lo:hi], not the whole of it (the whole would be t itself) -/
def rSlT (K : PySem.W.Frag) : V → Option Int → Option Int → Hp → VK → Prop := fun x lo hi H Q => ∃ a xs, x = .ref a ∧ SqT K H a xs ∧
  ¬ (HT.sIx xs.length 0 lo = 0 ∧ HT.sIx xs.length xs.length hi = xs.length) ∧ ∀ p, H p = none → Q (.ref p) (upd H p (.tup (cutV xs lo hi)))
theorem sl_tup : SlR X (rSlT X.K) := by
  intro pins s σ H x v vl vu lo hi sl Q I rx hs pl pu h
  obtain ⟨a, xs, rfl, hx, hw, q⟩ := h
  cases rx
  obtain ⟨its, r, ht, hz⟩ := I.tuple hx
  have hlen : its.toArray.size = xs.length := by rw [List.size_toArray]; exact r.length.symm
  refine ⟨"tuple", _, PyProof.Rows.slot_tuple_getitem.lookup, ht.typeIs, ?_⟩
  refine HT.getItem_tuple_cut ht hs pl pu (by rw [hlen]; exact hw) ?_ (by rw [hlen]; exact hz)
  rw [hlen]
  refine ⟨.ref s.heap.objs.size, _, I.laid (t' := s.toks) (o := .tup (cutV xs lo hi)) (fun b ob q => Heap.get?_push_of_some _ q) (Nat.le_refl _) ?_, rfl, q _ (I.hok.fresh (Nat.le_refl _))⟩
  exact ⟨Nat.le_trans (cutV_length xs lo hi) hz, _, (r.drop (HT.sIx xs.length 0 lo)).take (HT.sIx xs.length xs.length hi - HT.sIx xs.length 0 lo), IsTup.new _ _⟩

/-! ### t < u, t + u -/
def rLtT (K : PySem.W.Frag) : R2 := fun x y H Q => ∃ a b ns ms, x = .ref a ∧ y = .ref b ∧ SqT K H a (ns.map V.int) ∧ SqT K H b (ms.map V.int) ∧ Q (.bl (HT.lexLt ns ms)) H
theorem op_ltT (hu : X.A.units < cLine) : OpR X (compareOp .Lt) (rLtT X.K) := by
  intro pins s σ H x y v u Q I rx ry h
  obtain ⟨a, b, ns, ms, rfl, rfl, ha, hb, q⟩ := h
  cases rx
  cases ry
  obtain ⟨its, r1, p1, _⟩ := I.tuple ha
  obtain ⟨its2, r2, p2, _⟩ := I.tuple hb
  have i1 : IntsAre its.toArray.toList ns := intsAre_of r1
  have i2 : IntsAre its2.toArray.toList ms := intsAre_of r2
  exact HT.lt_tupInts p1 p2 i1 i2 hu ⟨.bl (HT.lexLt ns ms), H, I, rfl, q⟩
/-- t + u, t not empty: u empty gives t itself -/
def rCatT (K : PySem.W.Frag) : R2 := fun x y H Q => ∃ a b xs ys, x = .ref a ∧ y = .ref b ∧ SqT K H a xs ∧ SqT K H b ys ∧ xs ≠ [] ∧ xs.length + ys.length ≤ sizeLine ∧
  (ys = [] → Q (.ref a) H) ∧ (ys ≠ [] → ∀ p, H p = none → Q (.ref p) (upd H p (.tup (xs ++ ys))))
theorem Vals.nil_iff {xs : List V} {us : List Value} (r : Vals xs us) : us = [] ↔ xs = [] := by
  cases r with
  | nil => simp
  | cons _ _ => simp
theorem op_catT : OpR X (binaryOp .Add) (rCatT X.K) := by
  intro pins s σ H x y v u Q I rx ry h
  obtain ⟨a, b, xs, ys, rfl, rfl, ha, hb, hx, hz, q1, q2⟩ := h
  cases rx
  cases ry
  obtain ⟨its, r1, p1, _⟩ := I.tuple ha
  obtain ⟨its2, r2, p2, _⟩ := I.tuple hb
  refine HT.cat_tup p1 p2 (fun z => hx (r1.nil_iff.mp z)) (fun z => ⟨.ref a, H, I, rfl, q1 (r2.nil_iff.mp z)⟩) (fun z => ?_) (by rw [← r1.length, ← r2.length]; exact hz)
  refine ⟨.ref s.heap.objs.size, _, I.laid (t' := s.toks) (o := .tup (xs ++ ys)) (fun b ob q => Heap.get?_push_of_some _ q) (Nat.le_refl _) ?_, rfl, q2 (fun w => z (r2.nil_iff.mpr w)) _ (I.hok.fresh (Nat.le_refl _))⟩
  exact ⟨by rw [List.length_append]; exact hz, _, r1.append r2, IsTup.new _ _⟩
/-- tuple(t) -/
theorem call_tupleT : CallR X (.type "tuple") (fun xs H Q => ∃ a ys, xs = [.ref a] ∧ SqT X.K H a ys ∧ Q (.ref a) H) := by
  intro pins s σ H xs us Q I r h
  obtain ⟨a, ys, rfl, ha, q⟩ := h
  obtain ⟨u, rfl, ru⟩ := vals1 r
  cases ru
  obtain ⟨its, _, p1, _⟩ := I.tuple ha
  exact call_tuple_same (items := its.toArray) p1 ⟨.ref a, H, I, rfl, q⟩
end
end L2

namespace L2
open PySem PySem.Spec PyProof.Rows

/-! ### places -/
/-- the place that an index of any sign means -/
def ixN (n : Nat) (i : Int) : Option Nat := if 0 ≤ i then (if i < n then some i.toNat else none) else if -(n : Int) ≤ i then some (i + n).toNat else none
def atI {α : Type} (xs : List α) (i : Int) : Option α := (ixN xs.length i).bind fun j => xs[j]?
theorem ixN_seq {n : Nat} {i : Int} {j : Nat} (h : ixN n i = some j) : seqIndex? i n = some j ∧ j < n ∧ -(n : Int) ≤ i ∧ i < n := by
  unfold ixN at h
  by_cases h0 : 0 ≤ i
  · rw [if_pos h0] at h
    by_cases h1 : i < n
    · rw [if_pos h1] at h
      have e : i.toNat = j := Option.some.inj h
      exact ⟨by rw [seqIndex_of h0 h1, e], by omega, by omega, h1⟩
    · rw [if_neg h1] at h; cases h
  · rw [if_neg h0] at h
    by_cases h1 : -(n : Int) ≤ i
    · rw [if_pos h1] at h
      have e : (i + n).toNat = j := Option.some.inj h
      exact ⟨by rw [seqIndex_neg (by omega) h1, e], by omega, h1, by omega⟩
    · rw [if_neg h1] at h; cases h
theorem atI_get {α : Type} {xs : List α} {i : Int} {v : α} (h : atI xs i = some v) : ∃ j, seqIndex? i xs.length = some j ∧ xs[j]? = some v ∧ j < xs.length ∧ -(xs.length : Int) ≤ i ∧ i < xs.length := by
  unfold atI at h
  cases e : ixN xs.length i with
  | none => rw [e] at h; cases h
  | some j =>
    rw [e] at h
    obtain ⟨h1, h2, h3, h4⟩ := ixN_seq e
    exact ⟨j, h1, h, h2, h3, h4⟩
theorem atI_nat {α : Type} {xs : List α} {j : Nat} {v : α} (h : xs[j]? = some v) : atI xs (j : Int) = some v := by
  have hj : j < xs.length := (List.getElem?_eq_some_iff.mp h).1
  have e : ixN xs.length (j : Int) = some j := by
    unfold ixN
    rw [if_pos (by omega), if_pos (by omega)]; simp
  unfold atI; rw [e]; exact h
theorem atI_last {α : Type} (xs : List α) (v : α) : atI (xs ++ [v]) (-1) = some v := by
  have hl : (xs ++ [v]).length = xs.length + 1 := by simp
  have e : ixN (xs ++ [v]).length (-1) = some xs.length := by
    unfold ixN
    rw [hl, if_neg (by decide), if_pos (by omega)]
    congr 1
    omega
  unfold atI
  rw [e]
  show (xs ++ [v])[xs.length]? = some v
  simp

/-! ### what may be subscripted -/
/-- what stands as an index of a plain subscript -/
def PlainIx (b : Expr) : Prop := ∀ o i, subscripted b false o i = operate [o, i] (getItem o i)
/-- a subscript by values -/
def IxR (X : Cx) (r : R2) : Prop :=
  ∀ (value slice : Expr) (pins : List (Addr × Obj)) (s : Shared) (σ : St) (H : Hp) (x y : V) (v u : Value) (Q : VK), Inv X pins σ H s → RelV x v → RelV y u → r x y H Q →
    subscripted slice false v u = operate [v, u] (getItem v u) → wpAny (model X.prog X.w) X.A (subscriptTail value slice v u) (EP X pins σ Q) X.xe s
/-- a call of a builtin's method by values: the receiver, the arguments -/
def MtR (X : Cx) (id : String) (r : V → List V → Hp → VK → Prop) : Prop :=
  ∀ (pins : List (Addr × Obj)) (s : Shared) (σ : St) (H : Hp) (x : V) (xs : List V) (v : Value) (us : List Value) (Q : VK), Inv X pins σ H s → RelV x v → Vals xs us → r x xs H Q →
    wpAny (model X.prog X.w) X.A (call (.builtin id) (v :: us)) (EP X pins σ Q) X.xe s
section
variable {X : Cx} {a b : Expr} {ta tb : TE} {pos : Pos}
theorem IxR.or {r r' : R2} (h : IxR X r) (h' : IxR X r') : IxR X (fun x y H Q => r x y H Q ∨ r' x y H Q) := by
  intro value slice pins s σ H x y v u Q I rx ry q hs
  rcases q with q | q
  · exact h value slice pins s σ H x y v u Q I rx ry q hs
  · exact h' value slice pins s σ H x y v u Q I rx ry q hs
theorem MtR.or {id : String} {r r' : V → List V → Hp → VK → Prop} (h : MtR X id r) (h' : MtR X id r') : MtR X id (fun x xs H Q => r x xs H Q ∨ r' x xs H Q) := by
  intro pins s σ H x xs v us Q I rx rs q
  rcases q with q | q
  · exact h pins s σ H x xs v us Q I rx rs q
  · exact h' pins s σ H x xs v us Q I rx rs q
/-- a[b] -/
theorem pe_ix {r : R2} (hr : IxR X r) (ha : PE X a ta) (hb : PE X b tb) (hs : PlainIx b) : PE X (.Subscript a b pos) (tOp r ta tb) := by
  intro pins s σ H Q I h
  exact Subscript_ (binT ha hb I h fun v u s2 x y H2 I2 rx ry q => hr a b pins s2 σ H2 x y v u Q I2 rx ry q (hs _ _))

def rIxL (K : PySem.W.Frag) : R2 := fun x y H Q => ∃ p xs i v, x = .ref p ∧ y = .int i ∧ SqL K H p xs ∧ atI xs i = some v ∧ Q v H
def rIxT (K : PySem.W.Frag) : R2 := fun x y H Q => ∃ p xs i v, x = .ref p ∧ y = .int i ∧ SqT K H p xs ∧ atI xs i = some v ∧ Q v H
def rIxS : R2 := fun x y H Q => ∃ z i c, x = .str z ∧ y = .int i ∧ z.length ≤ sizeLine ∧ atI z.cps.toList i = some c ∧ Q (.str ⟨#[c]⟩) H
theorem ix_list : IxR X (rIxL X.K) := by
  intro value slice pins s σ H x y v u Q I rx ry h hs
  obtain ⟨p, xs, i, z, rfl, rfl, hq, he, q⟩ := h
  cases rx
  obtain ⟨t, rfl⟩ := ry
  obtain ⟨its, r, pl, hz⟩ := I.list hq
  obtain ⟨j, h1, h2, h3, h4, h5⟩ := atI_get he
  obtain ⟨w, ew, rw'⟩ := r.get h2
  have hl := r.length
  have hn := line63
  have fin : EP X pins σ Q w s := ⟨z, H, I, rw', q⟩
  by_cases h0 : 0 ≤ i
  · have hj : i.toNat = j := by
      rw [seqIndex_of h0 h5] at h1
      exact Option.some.inj h1
    exact item_listR pl.isList h0 (by omega) (by rw [hj]; simpa using ew) fin hs
  · have hj : (i + (its.toArray.size : Int)).toNat = j := by
      rw [seqIndex_neg (by omega) h4] at h1
      rw [List.size_toArray, ← hl]
      exact Option.some.inj h1
    exact subscriptTail_builtinR (x := w) pl.isList.typeIs slot_list_getitem.lookup
      (wpAny_getItem_list_neg (Q := fun r s' => r = w ∧ EP X pins σ Q r s') pl.isList (by omega) (by rw [List.size_toArray] <;> omega) (by omega) (by rw [hj]; simpa using ew) ⟨rfl, fin⟩) hs
theorem ix_tup : IxR X (rIxT X.K) := by
  intro value slice pins s σ H x y v u Q I rx ry h hs
  obtain ⟨p, xs, i, z, rfl, rfl, hq, he, q⟩ := h
  cases rx
  obtain ⟨t, rfl⟩ := ry
  obtain ⟨its, r, pl, hz⟩ := I.tuple hq
  obtain ⟨j, h1, h2, h3, h4, h5⟩ := atI_get he
  obtain ⟨w, ew, rw'⟩ := r.get h2
  have hl := r.length
  have hn := line63
  have fin : EP X pins σ Q w s := ⟨z, H, I, rw', q⟩
  exact subscriptTail_builtinR (x := w) pl.typeIs slot_tuple_getitem.lookup
    (getItem_tuple (j := j) (Q := fun r s' => r = w ∧ EP X pins σ Q r s') pl (by omega) (by omega) (by rw [List.size_toArray, ← hl]; exact h1) (by simpa using ew) ⟨rfl, fin⟩) hs
theorem ix_str : IxR X rIxS := by
  intro value slice pins s σ H x y v u Q I rx ry h hs
  obtain ⟨z, i, c, rfl, rfl, hz, he, q⟩ := h
  obtain ⟨t, rfl⟩ := rx
  obtain ⟨t', rfl⟩ := ry
  obtain ⟨j, h1, h2, h3, h4, h5⟩ := atI_get he
  have hl : z.cps.toList.length = z.length := by simp [Str.length]
  rw [hl] at h1 h4 h5
  have hn := line63
  exact tail_any (typeIs_str s z t) slot_str_getitem.lookup (getItem_str (c := c) (by
    have e1 : decide (i < -(2 ^ 63 : Int)) = false := decide_eq_false (by omega)
    have e2 : decide (i ≥ 2 ^ 63) = false := decide_eq_false (by omega)
    rw [e1, e2, Bool.or_false]) (by rw [h1]; simpa using h2) ⟨.str ⟨#[c]⟩, H, I.tok _, ⟨_, rfl⟩, q⟩) hs
/-- list, tuple or str -/
def rIx (K : PySem.W.Frag) : R2 := fun x y H Q => rIxL K x y H Q ∨ rIxT K x y H Q ∨ rIxS x y H Q
theorem ix_seq : IxR X (rIx X.K) := ix_list.or (ix_tup.or ix_str)

/-! ### xs[i] = v, any sign -/
/-- the list's object behind a store -/
theorem mapSeq_set (its : List Value) (n j : Nat) (u : Value) : Obj.mapSeq (·.setIfInBounds j u) { cls := .type "list", data := .seq its.toArray n } = { cls := .type "list", data := .seq (its.set j u).toArray n } := by
  simp [Obj.mapSeq]
theorem Inv.lst {pins : List (Addr × Obj)} {σ : St} {H : Hp} {s : Shared} {p : Addr} {xs : List V} (I : Inv X pins σ H s) (h : H p = some (.lst xs)) :
    ∃ (its : List Value) (n : Nat), Vals xs its ∧ s.heap.get? p = some { cls := .type "list", data := .seq its.toArray n } ∧ xs.length ≤ sizeLine := by
  obtain ⟨z, its, n, r, e⟩ := I.hok p _ h
  exact ⟨its, n, r, e, z⟩
/-- the list at p is written by an update of its object -/
theorem Inv.lstUpd {pins : List (Addr × Obj)} {σ : St} {H : Hp} {s : Shared} {p : Addr} {xs ys : List V} {its its' : List Value} {n n' : Nat} {f : Obj → Obj} (I : Inv X pins σ H s) (h : H p = some (.lst xs))
    (ho : s.heap.get? p = some { cls := .type "list", data := .seq its.toArray n }) (hf : f { cls := .type "list", data := .seq its.toArray n } = { cls := .type "list", data := .seq its'.toArray n' }) (r : Vals ys its') (hz : ys.length ≤ sizeLine) (t : Nat) :
    Inv X pins σ (upd H p (.lst ys)) { s with heap := s.heap.update p f, toks := t } := by
  have e : (s.heap.update p f).get? p = some { cls := .type "list", data := .seq its'.toArray n' } := by
    rw [Heap.get?_update_self f ho (by rw [hf] <;> rfl), hf]
  refine I.write (x := p) (e := p) (by rw [h]; trivial) (.inl rfl) (fun b u hb q => (Heap.get?_update_other _ _ (Ne.symm hb)).trans q) ⟨_, e⟩ ?_
  exact ⟨hz, its', n', r, e⟩
def rSetL : V → V → V → Hp → (Hp → Prop) → Prop := fun o i v H Q => ∃ p xs k j, o = .ref p ∧ i = .int k ∧ H p = some (.lst xs) ∧ ixN xs.length k = some j ∧ Q (upd H p (.lst (xs.set j v)))
theorem set_list : PSet X rSetL := by
  intro pins s σ H o i v ov iv u Q I ro ri rv h
  obtain ⟨p, xs, k, j, rfl, rfl, hp, hj, q⟩ := h
  cases ro
  obtain ⟨t, rfl⟩ := ri
  obtain ⟨its, n, r, ho, hz⟩ := I.lst hp
  obtain ⟨h1, h2, h3, h4⟩ := ixN_seq hj
  have hl := r.length
  have hn := line63
  have I' : Inv X pins σ (upd H p (.lst (xs.set j v))) { s with heap := s.heap.update p (Obj.mapSeq (·.setIfInBounds j u)) } :=
    I.lstUpd hp ho (mapSeq_set its n j u) (r.set rv j) (by rw [List.length_set]; exact hz) s.toks
  by_cases h0 : 0 ≤ k
  · have hk : k.toNat = j := by
      rw [seqIndex_of h0 h4] at h1
      exact Option.some.inj h1
    exact PySem.W.ki_setAt ho h0 (by omega) (by rw [List.size_toArray, ← hl]; exact h4) (by rw [hk]; exact ⟨_, I', q⟩)
  · have hk : (k + (its.toArray.size : Int)).toNat = j := by
      rw [seqIndex_neg (by omega) h3] at h1
      rw [List.size_toArray, ← hl]
      exact Option.some.inj h1
    exact PySem.W.ki_setBack ho (by omega) (by rw [List.size_toArray, ← hl]; exact h3) (by omega) (by rw [hk]; exact ⟨_, I', q⟩)

/-! ### slices -/
theorem slice_bounds (lo hi : Option Int) (n : Nat) : (sliceBounds lo hi none n).1 = ((HT.sIx n 0 lo : Nat) : Int) ∧ (sliceBounds lo hi none n).2.1 = ((HT.sIx n n hi : Nat) : Int) ∧ (sliceBounds lo hi none n).2.2 = 1 := by
  refine ⟨?_, ?_, rfl⟩
  · cases lo with
    | none => simp [sliceBounds, HT.sIx]
    | some i =>
      simp only [sliceBounds, HT.sIx, Option.getD_none, show (1 : Int) > 0 by decide, if_true]
      by_cases h : i < 0
      · simp only [h, if_true] <;> omega
      · simp only [h, if_false] <;> omega
  · cases hi with
    | none => simp [sliceBounds, HT.sIx]
    | some i =>
      simp only [sliceBounds, HT.sIx, Option.getD_none, show (1 : Int) > 0 by decide, if_true]
      by_cases h : i < 0
      · simp only [h, if_true] <;> omega
      · simp only [h, if_false] <;> omega
theorem slicePick_cut (its : List Value) (lo hi : Option Int) : slicePick its.toArray lo hi none = ((its.drop (HT.sIx its.length 0 lo)).take (HT.sIx its.length its.length hi - HT.sIx its.length 0 lo)).toArray := by
  obtain ⟨h1, h2, h3⟩ := slice_bounds lo hi its.toArray.size
  unfold slicePick
  rw [h1, h2, h3]
  simp only [sliceRange_one, pick_run, List.size_toArray] <;> rfl
/-- xs[lo:hi] of a list: a new list -/
def rSlL (K : PySem.W.Frag) : V → Option Int → Option Int → Hp → VK → Prop := fun x lo hi H Q => ∃ a xs, x = .ref a ∧ SqL K H a xs ∧ ∀ p, H p = none → Q (.ref p) (upd H p (.lst (cutV xs lo hi)))
theorem sl_list : SlR X (rSlL X.K) := by
  intro pins s σ H x v vl vu lo hi sl Q I rx hs pl pu h
  obtain ⟨a, xs, rfl, hx, q⟩ := h
  cases rx
  obtain ⟨its, r, ht, hz⟩ := I.list hx
  have hlen := r.length
  refine ⟨"list", _, slot_list_getitem.lookup, ht.isList.typeIs, ?_⟩
  refine wpAny_getItem_list_slice ht.isList hs pl pu .none (by simp) ?_ (by rw [List.size_toArray] <;> omega)
  rw [slicePick_cut, ← hlen]
  refine ⟨.ref s.heap.objs.size, _, I.laid (t' := s.toks) (o := .lst (cutV xs lo hi)) (fun b ob q => Heap.get?_push_of_some _ q) (Nat.le_refl _) ?_, rfl, q _ (I.hok.fresh (Nat.le_refl _))⟩
  exact ⟨Nat.le_trans (cutV_length xs lo hi) hz, _, 0, (r.drop (HT.sIx xs.length 0 lo)).take (HT.sIx xs.length xs.length hi - HT.sIx xs.length 0 lo), Heap.get?_push_size _ rfl⟩

/-! ### in, not in: flat items -/
def flatV : V → Bool
  | .non => true
  | .bl _ => true
  | .int _ => true
  | .str _ => true
  | _ => false
/-- == of flat values -/
def eqV : V → V → Bool
  | .non, .non => true
  | .bl a, .bl b => a == b
  | .bl a, .int b => (if a then 1 else 0) == b
  | .int a, .bl b => a == (if b then 1 else 0)
  | .int a, .int b => a == b
  | .str a, .str b => a == b
  | _, _ => false
theorem eqAt_V {A : Around} {s : Shared} {y x : V} {u v : Value} (ry : RelV y u) (rx : RelV x v) (fy : flatV y = true) (fx : flatV x = true) : SeqAt.EqAt A s u v (eqV y x) := by
  cases y with
  | non =>
    cases ry
    cases x with
    | non => cases rx; exact SeqAt.EqAt.same _
    | bl b => cases rx; exact SeqAt.EqAt.none_bool b
    | int b => obtain ⟨t, rfl⟩ := rx; exact SeqAt.EqAt.none_int b t
    | str b => obtain ⟨t, rfl⟩ := rx; exact SeqAt.EqAt.none_str b t
    | _ => exact absurd (show false = true from fx) Bool.false_ne_true
  | bl a =>
    cases ry
    cases x with
    | non => cases rx; exact SeqAt.EqAt.bool_none a
    | bl b => cases rx; exact SeqAt.EqAt.bool_bool a b
    | int b => obtain ⟨t, rfl⟩ := rx; exact SeqAt.EqAt.bool_int a b t
    | str b => obtain ⟨t, rfl⟩ := rx; exact SeqAt.EqAt.bool_str a b t
    | _ => exact absurd (show false = true from fx) Bool.false_ne_true
  | int a =>
    obtain ⟨t', rfl⟩ := ry
    cases x with
    | non => cases rx; exact SeqAt.EqAt.int_none a t'
    | bl b => cases rx; exact SeqAt.EqAt.int_bool a t' b
    | int b => obtain ⟨t, rfl⟩ := rx; exact SeqAt.EqAt.int_int a t' b t
    | str b => obtain ⟨t, rfl⟩ := rx; exact SeqAt.EqAt.int_str a t' b t
    | _ => exact absurd (show false = true from fx) Bool.false_ne_true
  | str a =>
    obtain ⟨t', rfl⟩ := ry
    cases x with
    | non => cases rx; exact SeqAt.EqAt.str_none a t'
    | bl b => cases rx; exact SeqAt.EqAt.str_bool a t' b
    | int b => obtain ⟨t, rfl⟩ := rx; exact SeqAt.EqAt.str_int a t' b t
    | str b => obtain ⟨t, rfl⟩ := rx; exact SeqAt.EqAt.str_str a t' b t
    | _ => exact absurd (show false = true from fx) Bool.false_ne_true
  | _ => exact absurd (show false = true from fy) Bool.false_ne_true
/-- the items' answers, read off the values (a value's own answer does not lean on its token) -/
def eqU (x : V) (u : Value) : Bool := match u with
  | .none => eqV .non x
  | .bool b => eqV (.bl b) x
  | .int i _ => eqV (.int i) x
  | .str z _ => eqV (.str z) x
  | _ => false
theorem eqU_of {x y : V} {u : Value} (r : RelV y u) (f : flatV y = true) : eqU x u = eqV y x := by
  cases y with
  | non => cases r; rfl
  | bl b => cases r; rfl
  | int i => obtain ⟨t, rfl⟩ := r; rfl
  | str z => obtain ⟨t, rfl⟩ := r; rfl
  | _ => exact absurd (show false = true from f) Bool.false_ne_true
theorem any_eqU {x : V} : ∀ {xs : List V} {us : List Value}, Vals xs us → xs.all flatV = true → us.any (eqU x) = xs.any fun y => eqV y x
  | _, _, .nil, _ => rfl
  | y :: xs, u :: us, .cons r t, f => by
    rw [List.all_cons, Bool.and_eq_true] at f
    rw [List.any_cons, List.any_cons, eqU_of r f.1, any_eqU t f.2]
theorem mem_eqAt {A : Around} {s : Shared} {x : V} {v : Value} (rx : RelV x v) (fx : flatV x = true) : ∀ {xs : List V} {us : List Value}, Vals xs us → xs.all flatV = true → ∀ u ∈ us, SeqAt.EqAt A s u v (eqU x u)
  | _, _, .nil, _ => fun u hu => by cases hu
  | y :: xs, u :: us, .cons r t, f => fun u' hu => by
    rw [List.all_cons, Bool.and_eq_true] at f
    rcases List.mem_cons.mp hu with rfl | hu
    · rw [eqU_of r f.1]; exact eqAt_V r rx f.1 fx
    · exact mem_eqAt rx fx t f.2 u' hu
def inV (x : V) (xs : List V) : Bool := xs.any fun y => eqV y x
/-- x in a list or tuple of flat items -/
def rIn (K : PySem.W.Frag) (neg : Bool) : R2 := fun x y H Q => ∃ p xs, y = .ref p ∧ (SqL K H p xs ∨ SqT K H p xs) ∧ flatV x = true ∧ xs.all flatV = true ∧ Q (.bl (if neg then !inV x xs else inV x xs)) H
theorem op_in_seq : OpR X (compareOp .In) (rIn X.K false) := by
  intro pins s σ H x y v u Q I rx ry h
  obtain ⟨p, xs, rfl, hq, fx, fs, q⟩ := h
  cases ry
  rcases hq with hq | hq
  · obtain ⟨its, r, pl, hz⟩ := I.list hq
    refine SeqAt.in_listAt (eqU x) pl.isList (fun w hw => mem_eqAt rx fx r fs w (by simpa using hw)) ⟨.bl _, H, I, rfl, ?_⟩
    rw [show its.toArray.any (eqU x) = its.any (eqU x) by simp, any_eqU r fs]
    exact q
  · obtain ⟨its, r, pl, hz⟩ := I.tuple hq
    refine SeqAt.in_tupleAt (eqU x) pl (fun w hw => mem_eqAt rx fx r fs w (by simpa using hw)) ⟨.bl _, H, I, rfl, ?_⟩
    rw [show its.toArray.any (eqU x) = its.any (eqU x) by simp, any_eqU r fs]
    exact q
theorem op_notIn_seq : OpR X (compareOp .NotIn) (rIn X.K true) := by
  intro pins s σ H x y v u Q I rx ry h
  obtain ⟨p, xs, rfl, hq, fx, fs, q⟩ := h
  cases ry
  rcases hq with hq | hq
  · obtain ⟨its, r, pl, hz⟩ := I.list hq
    refine SeqAt.notIn_listAt (eqU x) pl.isList (fun w hw => mem_eqAt rx fx r fs w (by simpa using hw)) ⟨.bl _, H, I, rfl, ?_⟩
    rw [show its.toArray.any (eqU x) = its.any (eqU x) by simp, any_eqU r fs]
    exact q
  · obtain ⟨its, r, pl, hz⟩ := I.tuple hq
    refine SeqAt.notIn_tupleAt (eqU x) pl (fun w hw => mem_eqAt rx fx r fs w (by simpa using hw)) ⟨.bl _, H, I, rfl, ?_⟩
    rw [show its.toArray.any (eqU x) = its.any (eqU x) by simp, any_eqU r fs]
    exact q
theorem op_notIn_str : OpR X (compareOp .NotIn) (fun x y H Q => ∃ i j, x = .str i ∧ y = .str j ∧ Q (.bl (!(!(Builtin.Str.occurrences j i 0 j.length 1).isEmpty))) H) := by
  intro pins s σ H x y v u Q I rx ry h
  obtain ⟨i, j, rfl, rfl, q⟩ := h
  obtain ⟨t, rfl⟩ := rx
  obtain ⟨t', rfl⟩ := ry
  exact notIn_str ⟨.bl _, H, I, rfl, q⟩

/-! ### len, list(x), tuple(x) of any list or tuple that is read -/
theorem call_len_seq : CallR X (.builtin "len") (fun xs H Q => ∃ p ys, xs = [.ref p] ∧ (SqL X.K H p ys ∨ SqT X.K H p ys) ∧ Q (.int ys.length) H) := by
  intro pins s σ H xs us Q I r h
  obtain ⟨p, ys, rfl, hq, q⟩ := h
  obtain ⟨u, rfl, rx⟩ := vals1 r
  cases rx
  have hn := line63
  rcases hq with hq | hq
  · obtain ⟨its, r', pl, hz⟩ := I.list hq
    have hlen := r'.length
    exact Calls.call_len_list pl.isList (by simp only [List.size_toArray] <;> omega) ⟨.int ys.length, H, I.tok _, ⟨s.toks + 1, by rw [List.size_toArray, hlen]⟩, q⟩
  · obtain ⟨its, r', pl, hz⟩ := I.tuple hq
    have hlen := r'.length
    exact len_tuple pl (by simp only [List.size_toArray] <;> omega) ⟨.int ys.length, H, I.tok _, ⟨s.toks + 1, by rw [List.size_toArray, hlen]⟩, q⟩
theorem call_len_str : CallR X (.builtin "len") (fun xs H Q => ∃ z, xs = [.str z] ∧ z.length ≤ sizeLine ∧ Q (.int z.length) H) := by
  intro pins s σ H xs us Q I r h
  obtain ⟨z, rfl, hz, q⟩ := h
  obtain ⟨u, rfl, t, rfl⟩ := vals1 r
  have hn := line63
  exact len_str (by omega) ⟨.int z.length, H, I.tok _, ⟨_, rfl⟩, q⟩
theorem CallR.or {f : Value} {r r' : List V → Hp → VK → Prop} (h : CallR X f r) (h' : CallR X f r') : CallR X f (fun xs H Q => r xs H Q ∨ r' xs H Q) := by
  intro pins s σ H xs us Q I rs q
  rcases q with q | q
  · exact h pins s σ H xs us Q I rs q
  · exact h' pins s σ H xs us Q I rs q
theorem call_list_of : CallR X (.type "list") (fun xs H Q => ∃ p ys, xs = [.ref p] ∧ (SqL X.K H p ys ∨ SqT X.K H p ys) ∧ ∀ l, H l = none → Q (.ref l) (upd H l (.lst ys))) := by
  intro pins s σ H xs us Q I r h
  obtain ⟨p, ys, rfl, hq, q⟩ := h
  obtain ⟨u, rfl, rx⟩ := vals1 r
  cases rx
  have fin : ∀ (its : List Value), Vals ys its → ys.length ≤ sizeLine → ∀ (h' : Heap) (c' : Nat), (∀ b o', s.heap.get? b = some o' → h'.get? b = some o') →
      h'.get? s.heap.objs.size = some { cls := .type "list", dict := none, data := .seq its.toArray c', slots := #[] } → EP X pins σ Q (.ref s.heap.objs.size) { s with heap := h' } := fun its r' hz h' c' kp e =>
    ⟨.ref s.heap.objs.size, _, I.laid (t' := s.toks) kp (Nat.le_refl _) (show ObjOk X.prog X.w _ h' _ (.lst ys) from ⟨hz, its, c', r', e⟩), rfl, q _ (I.hok.fresh (Nat.le_refl _))⟩
  rcases hq with hq | hq
  · obtain ⟨its, r', pl, hz⟩ := I.list hq
    have hlen := r'.length
    obtain ⟨o, ho, hc, n, hd⟩ := pl.isList
    exact call_list_seq p (.inl rfl) ho hc hd (fun h' c' kp e => fin its r' hz h' c' kp e) (by simp only [List.size_toArray] <;> omega)
  · obtain ⟨its, r', pl, hz⟩ := I.tuple hq
    have hlen := r'.length
    obtain ⟨o, ho, hc, n, hd⟩ := pl
    exact call_list_seq p (.inr rfl) ho hc hd (fun h' c' kp e => fin its r' hz h' c' kp e) (by simp only [List.size_toArray] <;> omega)
theorem call_tuple_of : CallR X (.type "tuple") (fun xs H Q => ∃ p ys, xs = [.ref p] ∧ ((SqL X.K H p ys ∧ ∀ l, H l = none → Q (.ref l) (upd H l (.tup ys))) ∨ (SqT X.K H p ys ∧ Q (.ref p) H))) := by
  intro pins s σ H xs us Q I r h
  obtain ⟨p, ys, rfl, h⟩ := h
  obtain ⟨u, rfl, rx⟩ := vals1 r
  cases rx
  rcases h with ⟨hq, q⟩ | ⟨hq, q⟩
  · obtain ⟨its, r', pl, hz⟩ := I.list hq
    have hlen := r'.length
    refine call_tuple_list pl.isList (fun h' kp => ?_) (by simp only [List.size_toArray] <;> omega)
    have I1 : Inv X pins σ H { s with heap := h' } := I.kept (t' := s.toks) kp
    have I2 : Inv X pins σ (upd H h'.objs.size (.tup ys)) { s with heap := h'.push { cls := .type "tuple", data := .seq its.toArray } } :=
      I1.laid (t' := s.toks) (fun b o e => Heap.get?_push_of_some _ e) (Nat.le_refl _) (show ObjOk X.prog X.w _ _ _ (.tup ys) from ⟨hz, its, r', IsTup.new _ _⟩)
    exact ⟨.ref h'.objs.size, _, I2, rfl, q _ (I1.hok.fresh (Nat.le_refl _))⟩
  · obtain ⟨its, r', pl, hz⟩ := I.tuple hq
    exact call_tuple_same pl ⟨.ref p, H, I, rfl, q⟩

/-! ### the call of a builtin's method: o.m(..) -/
/-- the value is of that builtin type -/
def tyV (K : PySem.W.Frag) (T : String) (x : V) (H : Hp) : Prop := match x with
  | .str _ => T = "str"
  | .int _ => T = "int"
  | .ref p => (T = "list" ∧ ∃ xs, SqL K H p xs) ∨ (T = "tuple" ∧ ∃ o, K.lookup p = some o ∧ o.cls = .type "tuple" ∧ o.dict = none) ∨
      (T = "dict" ∧ ((∃ kvs, H p = some (.dK kvs)) ∨ ∃ kvs, H p = some (.dT kvs))) ∨ (T = "set" ∧ ∃ S n, H p = some (.set S n))
  | _ => False
theorem tyV_is {pins : List (Addr × Obj)} {σ : St} {H : Hp} {s : Shared} {T : String} {x : V} {v : Value} (I : Inv X pins σ H s) (r : RelV x v) (ty : tyV X.K T x H) :
    s.TypeIs v T ∧ ∀ a, v = .ref a → ∃ ob, s.heap.get? a = some ob ∧ ob.dict = none := by
  cases x with
  | str z =>
    obtain ⟨t, rfl⟩ := r
    cases (show T = "str" from ty)
    exact ⟨typeIs_str s z t, fun _ e => nomatch e⟩
  | int i =>
    obtain ⟨t, rfl⟩ := r
    cases (show T = "int" from ty)
    exact ⟨typeIs_int s i t, fun _ e => nomatch e⟩
  | ref p =>
    cases r
    rcases ty with ⟨rfl, xs, hq⟩ | ⟨rfl, o, hk, hc, hd⟩ | ⟨rfl, hk⟩ | ⟨rfl, S, n, hk⟩
    · obtain ⟨its, _, pl, _⟩ := I.list hq
      refine ⟨pl.isList.typeIs, fun a e => ?_⟩
      cases e
      obtain ⟨o, n, e, c, hd, _⟩ := pl
      exact ⟨o, e, hd⟩
    · refine ⟨⟨o, I.kIn p o hk, hc⟩, fun a e => ?_⟩
      cases e
      exact ⟨o, I.kIn _ o hk, hd⟩
    · have z : ∃ o, s.heap.get? p = some o ∧ o.ExactDict := by
        rcases hk with ⟨kvs, hk⟩ | ⟨kvs, hk⟩
        · obtain ⟨_, _, _, _, o, _, _, e, ex, _⟩ := I.hok p _ hk
          exact ⟨o, e, ex⟩
        · obtain ⟨_, _, _, _, o, _, _, e, ex, _⟩ := I.hok p _ hk
          exact ⟨o, e, ex⟩
      obtain ⟨o, e, ex⟩ := z
      refine ⟨⟨o, e, ex.1⟩, fun a e2 => ?_⟩
      cases e2
      exact ⟨o, e, ex.2.1⟩
    · obtain ⟨o, _, _, _, e, ex, _⟩ := I.hok p _ hk
      refine ⟨⟨o, e, ex.1⟩, fun a e2 => ?_⟩
      cases e2
      exact ⟨o, e, ex.2.1⟩
  | _ => exact False.elim ty
def tBM0 (K : PySem.W.Frag) (T : String) (r : V → List V → Hp → VK → Prop) (to : TE) : TE := fun σ H Q => to σ H fun x H1 => tyV K T x H1 ∧ r x [] H1 Q
def tBM (K : PySem.W.Frag) (T : String) (r : V → List V → Hp → VK → Prop) (to : TE) (t : TA) : TE := fun σ H Q => to σ H fun x H1 => tyV K T x H1 ∧ t σ H1 fun xs H2 => r x xs H2 Q
variable {o e : Expr} {es : List Expr} {to : TE} {t : TA} {name : Str} {apos cpos : Pos} {T id : String} {r : V → List V → Hp → VK → Prop}
theorem pe_bm0 (pa : PlainAttrs T) (slot : Slot T name id) (hty : typeOf (.builtin id) = pure (.type "method_descriptor")) (hm : MtR X id r) (ho : PE X o to)
    (hbase : attributeBase o name X.env (eval o X.env) = eval o X.env := by rfl) (hline : (apos.endLine == cpos.line) = true := by rfl) : PE X (.Call (.Attribute o name apos) [] [] cpos) (tBM0 X.K T r to) := by
  intro pins s σ H Q I h
  refine wpAny_Call_method0_late hbase hline (thn (ho pins s σ H _ I h) fun v s1 ⟨x, H1, I1, r1, ty, q1⟩ => ?_)
  obtain ⟨h1, h2⟩ := tyV_is I1 r1 ty
  exact ⟨T, id, pa, slot, hty, h1, h2, Calls.callWith_builtin rfl (PySem.evalArgs_none (hm pins s1 σ H1 x [] v [] Q I1 r1 .nil q1))⟩
theorem pe_bm (pa : PlainAttrs T) (slot : Slot T name id) (hty : typeOf (.builtin id) = pure (.type "method_descriptor")) (hm : MtR X id r) (ho : PE X o to) (ha : PA X (e :: es) t)
    (hbase : attributeBase o name X.env (eval o X.env) = eval o X.env := by rfl)
    (hfew : ((backTo cpos (starEach (e :: es) X.env)).all (fun x => !x.1) && (backToKw cpos (keywordEach [] X.env)).all (fun x => x.1.isSome)
      && decide ((e :: es).length + ([] : List Keyword).length + (if ([] : List Keyword).isEmpty then 0 else 1) < 30)) = true := by rfl)
    (hline : (apos.endLine == cpos.line) = true := by rfl) (hs : starEach (e :: es) X.env = (false, eval e X.env) :: starEach es X.env := by rfl) (hplain : (backTo cpos (starEach es X.env)).any (·.1) = false := by rfl) :
    PE X (.Call (.Attribute o name apos) (e :: es) [] cpos) (tBM X.K T r to t) := by
  intro pins s σ H Q I h
  refine wpAny_Call_method_late hbase hfew hline rfl (thn (ho pins s σ H _ I h) fun v s1 ⟨x, H1, I1, r1, ty, q1⟩ => ?_)
  obtain ⟨h1, h2⟩ := tyV_is I1 r1 ty
  refine ⟨T, id, pa, slot, hty, h1, h2, ?_⟩
  have hA := ha cpos pins s1 σ H1 _ I1 q1
  rw [hs] at hA ⊢
  refine Calls.callWith_builtin (by show (false || (backTo cpos (starEach es X.env)).any (·.1)) = false; rw [hplain] <;> rfl) (Calls.evalArgs_plain ?_)
  exact thn hA fun us s2 ⟨vs, H2, I2, r2, q2⟩ => hm pins s2 σ H2 x vs v us Q I2 r1 r2 q2
/- xs.append(e), list.index on a module's tuple .. are MtR facts of 06m -/
end
end L2

namespace L2
open PySem PySem.Spec PyProof.Rows

def MtM (X : Cx) (id : String) (r : V → List V → Hp → VK → Prop) : Prop :=
  ∀ (pins : List (Addr × Obj)) (s : Shared) (σ : St) (H : Hp) (x : V) (xs : List V) (v : Value) (us : List Value) (Q : VK), Inv X pins σ H s → RelV x v → Vals xs us → r x xs H Q →
    wpAny (model X.prog X.w) X.A (call (.builtin id) (v :: us)) (EP X pins σ Q) X.xe s

/-! ### lists of values -/
theorem Vals.one : ∀ {x : V} {us : List Value}, Vals [x] us → ∃ u, us = [u] ∧ RelV x u
  | _, _, .cons r .nil => ⟨_, rfl, r⟩
theorem Vals.two : ∀ {x y : V} {us : List Value}, Vals [x, y] us → ∃ u v, us = [u, v] ∧ RelV x u ∧ RelV y v
  | _, _, _, .cons r (.cons q .nil) => ⟨_, _, rfl, r, q⟩
theorem Vals.zero : ∀ {us : List Value}, Vals [] us → us = []
  | _, .nil => rfl
theorem Vals.dropLast {xs : List V} {us : List Value} (h : Vals xs us) : Vals xs.dropLast us.dropLast := by
  induction h with
  | nil => exact .nil
  | cons r t ih =>
    cases t with
    | nil => exact .nil
    | cons q t' => exact .cons r ih
theorem Vals.eraseIdx : ∀ {xs : List V} {us : List Value} (i : Nat), Vals xs us → Vals (xs.eraseIdx i) (us.eraseIdx i)
  | _, _, _, .nil => .nil
  | _, _, 0, .cons _ t => t
  | _, _, i + 1, .cons r t => .cons r (Vals.eraseIdx i t)
theorem Vals.reverse {xs : List V} {us : List Value} (h : Vals xs us) : Vals xs.reverse us.reverse := by
  induction h with
  | nil => exact .nil
  | cons r t ih => rw [List.reverse_cons, List.reverse_cons]; exact Vals.append ih (.cons r .nil)
theorem Vals.rep {xs : List V} {us : List Value} (h : Vals xs us) : ∀ k : Nat, Vals (List.replicate k xs).flatten (List.replicate k us).flatten
  | 0 => .nil
  | k + 1 => by
    rw [List.replicate_succ, List.replicate_succ, List.flatten_cons, List.flatten_cons]
    exact Vals.append h (Vals.rep h k)
theorem erase_last {α : Type} (l : List α) : l.eraseIdx (l.length - 1) = l.dropLast := by
  induction l with
  | nil => rfl
  | cons a r ih =>
    cases r with
    | nil => rfl
    | cons b r =>
      have e : (a :: b :: r).length - 1 = ((b :: r).length - 1) + 1 := by
        have h1 : (a :: b :: r).length = r.length + 2 := rfl
        have h2 : (b :: r).length = r.length + 1 := rfl
        omega
      rw [e, List.eraseIdx_cons_succ, ih]
      all_goals rfl
theorem len_erase {α : Type} : ∀ (l : List α) (i : Nat), (l.eraseIdx i).length ≤ l.length
  | [], _ => Nat.le_refl _
  | _ :: _, 0 => Nat.le_succ _
  | _ :: r, i + 1 => Nat.succ_le_succ (len_erase r i)
theorem foldl_rep (its : List Value) : ∀ (k : Nat) (acc : List Value),
    List.foldl (fun x1 x2 => x1 ++ x2) acc.toArray (List.replicate k its.toArray) = (acc ++ (List.replicate k its).flatten).toArray
  | 0, acc => by simp
  | k + 1, acc => by
    have e : acc.toArray ++ its.toArray = (acc ++ its).toArray := by simp
    have e2 : (acc ++ its) ++ (List.replicate k its).flatten = acc ++ (List.replicate (k + 1) its).flatten := by
      rw [List.replicate_succ, List.flatten_cons, List.append_assoc]
    rw [← e2, ← foldl_rep its k (acc ++ its), ← e, List.replicate_succ, List.foldl_cons]

section
variable {X : Cx} {pins : List (Addr × Obj)} {σ : St} {H : Hp} {s : Shared} {l b : Addr} {xs ys zs : List V}

/-! ### the two steps: a tracked list is rewritten, a new list is laid -/
theorem Inv.lset {its its' : List Value} {n : Nat} {f : Array Value → Array Value} {t' : Nat} (I : Inv X pins σ H s) (hH : H l = some (.lst xs))
    (e : s.heap.get? l = some { cls := .type "list", data := .seq its.toArray n }) (hf : f its.toArray = its'.toArray) (hv : Vals ys its') (hz : ys.length ≤ sizeLine) :
    Inv X pins σ (upd H l (.lst ys)) { s with heap := s.heap.update l (Obj.mapSeq f), toks := t' } := by
  have q := PySem.IsL.update e f
  rw [hf] at q
  refine I.write (x := l) (e := l) (by rw [hH]; exact trivial) (.inl rfl) (fun b' u hb hu => (Heap.get?_update_other s.heap (Obj.mapSeq f) (Ne.symm hb)).trans hu) ⟨_, q⟩ ?_
  exact ⟨hz, its', _, hv, q⟩
theorem Inv.lnew {its : List Value} {t' : Nat} (I : Inv X pins σ H s) (hv : Vals ys its) (hz : ys.length ≤ sizeLine) :
    Inv X pins σ (upd H s.heap.objs.size (.lst ys)) { s with heap := s.heap.push { cls := .type "list", data := .seq its.toArray }, toks := t' } :=
  I.laid (fun _ _ q => Heap.get?_push_of_some _ q) (Nat.le_refl _) ⟨hz, its, 0, hv, Heap.get?_push_size _ rfl⟩
theorem Inv.fresh (I : Inv X pins σ H s) : H s.heap.objs.size = none := I.hok.fresh (Nat.le_refl _)
theorem Inv.lstM (I : Inv X pins σ H s) (hH : H l = some (.lst xs)) : xs.length ≤ sizeLine ∧ ∃ (its : List Value) (n : Nat), Vals xs its ∧ xs.length = its.length ∧ s.heap.get? l = some { cls := .type "list", data := .seq its.toArray n } := by
  obtain ⟨z, its, n, r, e⟩ := I.hok l _ hH
  exact ⟨z, its, n, r, r.length, e⟩

theorem notLongL {n : Nat} (h : n ≤ sizeLine) : Builtin.List.listTooLong n = false := by
  unfold Builtin.List.listTooLong
  exact decide_eq_false (by omega)
end

section
variable {X : Cx}

/-! ### methods -/
def rAppend : V → List V → Hp → VK → Prop := fun x vs H Q => ∃ l xs y, x = .ref l ∧ vs = [y] ∧ H l = some (.lst xs) ∧ xs.length < sizeLine ∧ Q .non (upd H l (.lst (xs ++ [y])))
theorem mt_append : MtM X "list.append" rAppend := by
  intro pins s σ H x vs v us Q I rx rv h
  obtain ⟨l, xs, y, rfl, rfl, hH, hz, q⟩ := h
  cases rx
  obtain ⟨u, rfl, ru⟩ := rv.one
  obtain ⟨z, its, n, r, hl, e⟩ := I.lstM hH
  refine call_meets F.slot_list_append ⟨_, e, rfl⟩ F.entry_list_append (F.args_list_append_2 _ _) (PySem.list_append l its.toArray n u (by rw [List.size_toArray]; omega)) ⟨e, ?_⟩
  refine ⟨.non, _, I.lset (its' := its ++ [u]) hH e (by simp) (r.append (.cons ru .nil)) ?_, rfl, q⟩
  rw [List.length_append, List.length_singleton]
  omega

def rExtend : V → List V → Hp → VK → Prop := fun x vs H Q => ∃ l b xs zs, x = .ref l ∧ vs = [.ref b] ∧ H l = some (.lst xs) ∧ H b = some (.lst zs) ∧ xs.length + zs.length ≤ sizeLine ∧ Q .non (upd H l (.lst (xs ++ zs)))
theorem mt_extend : MtM X "list.extend" rExtend := by
  intro pins s σ H x vs v us Q I rx rv h
  obtain ⟨l, b, xs, zs, rfl, rfl, hH, hB, hz, q⟩ := h
  cases rx
  obtain ⟨u, rfl, ru⟩ := rv.one
  cases ru
  obtain ⟨z, its, n, r, hl, e⟩ := I.lstM hH
  obtain ⟨z2, its2, n2, r2, hl2, e2⟩ := I.lstM hB
  have hsz : its.toArray.size + its2.toArray.size ≤ sizeLine := by rw [List.size_toArray, List.size_toArray]; omega
  have hlong : ¬ (!its.toArray.isEmpty && Builtin.List.listTooLong (its.toArray.size + its2.toArray.size)) = true := by
    rw [notLongL hsz, Bool.and_false]
    exact Bool.false_ne_true
  refine call_meets F.slot_list_extend ⟨_, e, rfl⟩ F.entry_list_extend (F.args_list_extend_2 _ _)
    (AutoSeq1.list_extend_list_list_0 l its.toArray n b its2.toArray n2 hlong (by rw [List.size_toArray]; omega) (by omega)) ⟨e, e2, ?_⟩
  refine ⟨.non, _, I.lset (its' := its ++ its2) hH e (by simp) (r.append r2) ?_, rfl, q⟩
  rw [List.length_append]
  omega

def rPop : V → List V → Hp → VK → Prop := fun x vs H Q => ∃ l xs y, x = .ref l ∧ vs = [] ∧ H l = some (.lst xs) ∧ xs[xs.length - 1]? = some y ∧ Q y (upd H l (.lst xs.dropLast))
theorem mt_pop : MtM X "list.pop" rPop := by
  intro pins s σ H x vs v us Q I rx rv h
  obtain ⟨l, xs, y, rfl, rfl, hH, hy, q⟩ := h
  cases rx
  have hus := rv.zero
  subst hus
  obtain ⟨z, its, n, r, hl, e⟩ := I.lstM hH
  obtain ⟨u, hu, ru⟩ := r.get hy
  have hy' : its.toArray[its.toArray.size - 1]? = some u := by
    show its.toArray[its.length - 1]? = some u
    rw [← Array.getElem?_toList, ← hl]
    exact hu
  refine call_meets F.slot_list_pop ⟨_, e, rfl⟩ F.entry_list_pop (F.args_list_pop_1 _) (MeetsSeq.list_pop_last l its.toArray n u hy' (by rw [List.size_toArray]; omega)) ⟨e, ?_⟩
  refine ⟨y, _, I.lset (its' := its.dropLast) hH e ?_ r.dropLast ?_, ru, q⟩
  · show its.toArray.eraseIdxIfInBounds (its.toArray.size - 1) = its.dropLast.toArray
    rw [List.size_toArray, List.eraseIdxIfInBounds_toArray, erase_last]
  · rw [List.length_dropLast]
    omega

def rPopAt : V → List V → Hp → VK → Prop := fun x vs H Q => ∃ l xs i k y, x = .ref l ∧ vs = [.int i] ∧ H l = some (.lst xs) ∧ -(2 ^ 63) ≤ i ∧ i < 2 ^ 63 ∧ seqIndex? i xs.length = some k ∧ xs[k]? = some y ∧ Q y (upd H l (.lst (xs.eraseIdx k)))
theorem mt_popAt : MtM X "list.pop" rPopAt := by
  intro pins s σ H x vs v us Q I rx rv h
  obtain ⟨l, xs, i, k, y, rfl, rfl, hH, h1, h2, hk, hy, q⟩ := h
  cases rx
  obtain ⟨u, rfl, ru⟩ := rv.one
  obtain ⟨t, rfl⟩ := ru
  obtain ⟨z, its, n, r, hl, e⟩ := I.lstM hH
  obtain ⟨w, hw, rw'⟩ := r.get hy
  refine call_meets F.slot_list_pop ⟨_, e, rfl⟩ F.entry_list_pop (F.args_list_pop_2 _ _)
    (MeetsSeq.list_pop_at l its.toArray n i t k w (fitsIndex_both h1 h2) (by rw [List.size_toArray, ← hl]; exact hk) (by rw [← Array.getElem?_toList]; exact hw) (by rw [List.size_toArray]; omega)) ⟨e, ?_⟩
  refine ⟨y, _, I.lset (its' := its.eraseIdx k) hH e ?_ (r.eraseIdx k) ?_, rw', q⟩
  · show its.toArray.eraseIdxIfInBounds k = (its.eraseIdx k).toArray
    rw [List.eraseIdxIfInBounds_toArray]
  · have := len_erase xs k
    omega

def rReverse : V → List V → Hp → VK → Prop := fun x vs H Q => ∃ l xs, x = .ref l ∧ vs = [] ∧ H l = some (.lst xs) ∧ Q .non (upd H l (.lst xs.reverse))
theorem mt_reverse : MtM X "list.reverse" rReverse := by
  intro pins s σ H x vs v us Q I rx rv h
  obtain ⟨l, xs, rfl, rfl, hH, q⟩ := h
  cases rx
  have hus := rv.zero
  subst hus
  obtain ⟨z, its, n, r, hl, e⟩ := I.lstM hH
  refine call_meets F.slot_list_reverse ⟨_, e, rfl⟩ F.entry_list_reverse (F.args_list_reverse_1 _) (AutoSeq1.list_reverse_list_0 l its.toArray n (by rw [List.size_toArray]; omega)) ⟨e, ?_⟩
  refine ⟨.non, _, I.lset (its' := its.reverse) hH e (by simp) r.reverse ?_, rfl, q⟩
  rw [List.length_reverse]
  omega

def rClear : V → List V → Hp → VK → Prop := fun x vs H Q => ∃ l xs, x = .ref l ∧ vs = [] ∧ H l = some (.lst xs) ∧ Q .non (upd H l (.lst []))
theorem mt_clear : MtM X "list.clear" rClear := by
  intro pins s σ H x vs v us Q I rx rv h
  obtain ⟨l, xs, rfl, rfl, hH, q⟩ := h
  cases rx
  have hus := rv.zero
  subst hus
  obtain ⟨z, its, n, r, hl, e⟩ := I.lstM hH
  refine call_meets F.slot_list_clear ⟨_, e, rfl⟩ F.entry_list_clear (F.args_list_clear_1 _) (AutoSeq1.list_clear_list_0 l its.toArray n (by rw [List.size_toArray]; omega)) ⟨e, ?_⟩
  exact ⟨.non, _, I.lset (its' := []) (ys := []) hH e rfl .nil (Nat.zero_le _), rfl, q⟩

/-! ### list + list, list += list, list * int -/
def rCat : R2 := fun x y H Q => ∃ l b xs zs, x = .ref l ∧ y = .ref b ∧ H l = some (.lst xs) ∧ H b = some (.lst zs) ∧ xs.length + zs.length ≤ sizeLine ∧ ∀ p, H p = none → Q (.ref p) (upd H p (.lst (xs ++ zs)))
theorem op_cat : OpR X (binaryOp .Add) rCat := by
  intro pins s σ H x y v u Q I rx ry h
  obtain ⟨l, b, xs, zs, rfl, rfl, hH, hB, hz, q⟩ := h
  cases rx
  cases ry
  obtain ⟨z, its, n, r, hl, e⟩ := I.lstM hH
  obtain ⟨z2, its2, n2, r2, hl2, e2⟩ := I.lstM hB
  refine PySem.P.add_list e e2 ?_ (by rw [List.size_toArray, List.size_toArray]; omega)
  have ea : its.toArray ++ its2.toArray = (its ++ its2).toArray := by simp
  rw [ea]
  exact ⟨.ref _, _, I.lnew (t' := s.toks) (r.append r2) (by rw [List.length_append]; omega), rfl, q _ I.fresh⟩
/-- a list times an int (a negative one is nothing) -/
def rRep : R2 := fun x y H Q => ∃ l k xs, x = .ref l ∧ y = .int k ∧ H l = some (.lst xs) ∧ -(2 ^ 63) ≤ k ∧ k < 2 ^ 63 ∧ xs.length * k.toNat ≤ sizeLine ∧
  ∀ p, H p = none → Q (.ref p) (upd H p (.lst (List.replicate k.toNat xs).flatten))
theorem len_rep {α : Type} (xs : List α) (k : Nat) : (List.replicate k xs).flatten.length = k * xs.length := by
  induction k with
  | zero => simp
  | succ k ih => rw [List.replicate_succ, List.flatten_cons, List.length_append, ih, Nat.succ_mul, Nat.add_comm]
theorem op_rep : OpR X (binaryOp .Mult) rRep := by
  intro pins s σ H x y v u Q I rx ry h
  obtain ⟨l, k, xs, rfl, rfl, hH, h1, h2, hz, q⟩ := h
  cases rx
  obtain ⟨t, rfl⟩ := ry
  obtain ⟨z, its, n, r, hl, e⟩ := I.lstM hH
  have hlen : its.toArray.size * k.toNat ≤ sizeLine := by rw [List.size_toArray, ← hl]; exact hz
  have hcap : ¬ its.toArray.size * k.toNat > (2 ^ 63 - 1) / 8 := by
    have : (sizeLine : Nat) ≤ (2 ^ 63 - 1) / 8 := by decide
    omega
  have hfit : ¬ (!Builtin.List.listFitsIndex k) = true := by
    rw [fitsIndex_both h1 h2]
    exact Bool.false_ne_true
  have hlong : ¬ Builtin.List.listTooLong (its.toArray.size * k.toNat) = true := by
    rw [notLongL hlen]
    exact Bool.false_ne_true
  have hnew : List.foldl (fun x1 x2 => x1 ++ x2) #[] (List.replicate (if its.toArray.isEmpty = true then 0 else k.toNat) its.toArray) = (List.replicate k.toNat its).flatten.toArray := by
    have f0 : ∀ m : Nat, List.foldl (fun x1 x2 => x1 ++ x2) #[] (List.replicate m its.toArray) = (List.replicate m its).flatten.toArray := fun m => by
      have := foldl_rep its m []
      rw [List.nil_append] at this
      exact this
    rw [f0]
    cases its with
    | nil => simp
    | cons a r' => rw [if_neg (by simp)]
  refine wpAny_binaryOp_repeat_ref (T := "list") (U := "int") (by decide) ⟨_, e, rfl⟩ (fun s' => typeIs_int s' k t) noFill_list_mul F.fills_int_mul F.slot_int_rmul repeat_list F.slot_int_index.lookup
    (call_meets F.slot_int_rmul (typeIs_int s k t) F.entry_int_rmul (F.args_int_rmul_2 _ _) (int___rmul___int_list k t l its.toArray n)
      ⟨e, rfl, ⟨_, e, rfl⟩, call_meets F.slot_list_mul ⟨_, e, rfl⟩ F.entry_list_mul (F.args_list_mul_2 _ _) (AutoListH.list___mul___list_int_3 l its.toArray n k t hfit hcap hlong) ⟨e, ?_⟩⟩)
  rw [hnew]
  exact ⟨.ref _, _, I.lnew (t' := s.toks) (r.rep k.toNat) (by rw [len_rep, Nat.mul_comm]; exact hz), rfl, q _ I.fresh⟩

/-! ### del xs[i] -/
theorem del_list {pins : List (Addr × Obj)} {s : Shared} {σ : St} {H : Hp} {l : Addr} {xs : List V} {i : Int} {t : Tok} {k : Nat} {Q : Unit → Shared → Prop} (I : Inv X pins σ H s) (hH : H l = some (.lst xs))
    (h1 : -(2 ^ 63) ≤ i) (h2 : i < 2 ^ 63) (hk : seqIndex? i xs.length = some k) (h : ∀ s', Inv X pins σ (upd H l (.lst (xs.eraseIdx k))) s' → Q () s') :
    wpAny (model X.prog X.w) X.A (delItem (.ref l) (.int i t)) Q X.xe s := by
  obtain ⟨z, its, n, r, hl, e⟩ := I.lstM hH
  refine PySem.P.delItem_list (k := k) e (fitsIndex_both h1 h2) (by rw [List.size_toArray, ← hl]; exact hk) (h _ ?_) (by rw [List.size_toArray]; omega)
  refine I.lset (its' := its.eraseIdx k) (t' := s.toks) hH e ?_ (r.eraseIdx k) ?_
  · show its.toArray.eraseIdxIfInBounds k = (its.eraseIdx k).toArray
    rw [List.eraseIdxIfInBounds_toArray]
  · have := len_erase xs k
    omega
end

/-! ### xs[a:b] = ys -/
section
variable {prog : Program} {w : World} {A : Around} {E : Value → Shared → Prop} {s : Shared}
theorem splice_eq (its its2 : List Value) (a c : Nat) : its.toArray.extract 0 a ++ its2.toArray ++ its.toArray.extract c its.toArray.size = (its.take a ++ its2 ++ its.drop c).toArray := by
  apply Array.toList_inj.mp
  first
    | (simp
       exact List.take_of_length_le (by simp))
    | simp [List.take_of_length_le]
    | simp
theorem bounds_run {a c n : Nat} (hac : a ≤ c) (hc : c ≤ n) : sliceBounds (some (a : Int)) (some (c : Int)) none n = ((a : Int), (c : Int), 1) := by
  simp only [sliceBounds, Option.getD_none]
  have h1 : ¬ ((a : Int) < 0) := by omega
  have h2 : ¬ ((c : Int) < 0) := by omega
  simp only [h1, h2, if_false, show (1 : Int) > 0 by decide, if_true]
  congr 1
  · omega
  · congr 1; omega
set_option maxRecDepth 100000 in
/-- list.__setitem__ with a slice of step one and another list -/
theorem setItem_slice {l b sl : Addr} {items new : Array Value} {n n2 : Nat} {vl vu : Value} {a c : Nat} {Q : Unit → Shared → Prop}
    (e : s.heap.get? l = some { cls := .type "list", data := .seq items n }) (e2 : s.heap.get? b = some { cls := .type "list", data := .seq new n2 }) (hne : l ≠ b)
    (hs : s.heap.IsSliceOf sl vl vu .none) (pl : IsPart vl (some (a : Int))) (pu : IsPart vu (some (c : Int))) (hac : a ≤ c) (hc : c ≤ items.size)
    (hsz : items.size + new.size ≤ sizeLine) (h : Q () { s with heap := s.heap.update l (Obj.mapSeq fun xs => xs.extract 0 a ++ new ++ xs.extract c xs.size) }) :
    wpAny (model prog w) A (setItem (.ref l) (.ref sl) (.ref b)) Q E s := by
  have hl : s.heap.IsList l items := PySem.IsL.isList e
  have hb : s.heap.IsList b new := PySem.IsL.isList e2
  obtain ⟨os, hos, hcs, hds⟩ := id hs
  have hTs : s.TypeIs (.ref sl) "slice" := ⟨os, hos, hcs⟩
  have hstep : ¬ ((rawPart none == rawInt 0) = true) := Bool.false_ne_true
  have hsame : Builtin.List.listSameRef (.ref l) (.ref b) = false := by
    unfold Builtin.List.listSameRef
    exact beq_eq_false_iff_ne.mpr hne
  have hmax : (max (a : Int) (c : Int)).toNat = c := by omega
  have hz' : ((fun xs : Array Value => xs.extract 0 a ++ new ++ xs.extract c xs.size) items).size ≤ sizeLine + 1 := by
    simp only [Array.size_append, Array.size_extract]
    omega
  unfold setItem
  try with_reducible refine wpAny_holding ?_
  first | refine wpAny_bind (wpAny_pure ?_) | skip
  refine wpAny_bind (wpAny_sequenceKey hl.typeIs (by decide) ?_)
  refine wpAny_bind (wpAny_callSpecial?_slot (name := Str.ofString "__setitem__") hl.typeIs slot_list_setitem
    (wpAny_call_entry slot_list_setitem hl.typeIs entry_list_setitem ?_ (args_list_setitem _ _ _)))
  show wpAny _ _ (Builtin.List.listSubscript? (.ref sl) >>= _) _ _ s
  refine wpAny_bind ?_
  unfold Builtin.List.listSubscript?
  refine wpAny_bind (wpAny_specialOf hTs slice_no_index ?_)
  simp only [Option.isNone_none, if_true]
  refine wpAny_pure ?_
  show wpAny _ _ (typeOf (.ref sl) >>= _) _ _ s
  refine wpAny_bind (wpAny_typeOf hTs ?_)
  first
    | rw [if_neg (by decide)]
    | refine PySem.W.KFB.if_not (by decide) ?_
  rw [listSliceParts_eq]
  refine wpAny_bind (wpAny_bind (wpAny_field hos hds (x := .none) rfl (wpAny_bind (wpAny_listPart .none ?_))))
  rw [if_neg hstep]
  refine wpAny_bind (wpAny_field hos hds (x := vl) rfl (wpAny_bind (wpAny_listPart pl ?_)))
  refine wpAny_bind (wpAny_field hos hds (x := vu) rfl (wpAny_bind (wpAny_listPart pu (wpAny_pure ?_))))
  first
    | simp only [hsame, Bool.false_eq_true, if_false]
    | refine PySem.W.KFB.if_not hsame ?_
    | (dsimp only
       rw [if_neg (by rw [hsame]; exact Bool.false_ne_true)])
  refine wpAny_bind (m := Builtin.List.listAllItems (.ref b) "must assign iterable to extended slice") ?_
  unfold Builtin.List.listAllItems
  refine wpAny_bind (wpAny_typeOf hb.typeIs ?_)
  first
    | refine PySem.W.KFB.if_so (by decide) ?_
    | rw [if_pos (by decide)]
    | simp only [beq_self_eq_true, Bool.true_or, if_true]
  unfold Builtin.List.listItems
  refine wpAny_bind (wpAny_seqItems e2 rfl (wpAny_pure ?_))
  refine wpAny_bind (wpAny_bind (wpAny_seqItems e rfl (wpAny_pure ?_)))
  refine wpAny_bind (wpAny_of_eq ((sliceIndices_raw (some (a : Int)) (some (c : Int)) none items.size (by simp)).trans (congrArg (pure : Int × Int × Int → Sem (Int × Int × Int)) (bounds_run hac hc))) ?_)
  show wpAny _ _ (if ((1 : Int) == 1) = true then _ else _) _ _ s
  rw [if_pos (by decide)]
  refine wpAny_bind (wpAny_rule ?_)
  first
    | simp only [notLongL hsz, Bool.false_eq_true, if_false]
    | refine PySem.W.KFB.if_not (notLongL hsz) ?_
  first | refine wpAny_bind (wpAny_pure ?_) | skip
  show wpAny _ _ (updateSeq l (fun xs => xs.extract 0 ((a : Int)).toNat ++ new ++ xs.extract (max (a : Int) (c : Int)).toNat xs.size) >>= _) _ _ s
  rw [hmax, Int.toNat_natCast]
  refine wpAny_bind (wpAny_updateSeq (hz := Nat.le_trans (Nat.le_add_right _ _) hsz) (_hz' := hz') e rfl ?_)
  refine wpAny_bind (wpAny_letGo ?_)
  first
    | exact wpAny_bind (wpAny_pure (wpAny_pure ⟨.none, rfl, wpAny_pure h⟩))
    | exact wpAny_pure ⟨.none, rfl, wpAny_pure h⟩
end

section
variable {X : Cx}
/-- xs[a:c] = ys of another list, at the value level: sl is the slice object that was just made -/
theorem set_slice {pins : List (Addr × Obj)} {s : Shared} {σ : St} {H : Hp} {l b sl : Addr} {xs ys : List V} {a c : Int} {vl vu : Value} {Q : Unit → Shared → Prop} (I : Inv X pins σ H s)
    (hH : H l = some (.lst xs)) (hB : H b = some (.lst ys)) (hne : l ≠ b) (hs : s.heap.IsSliceOf sl vl vu .none) (ra : RelV (.int a) vl) (rc : RelV (.int c) vu) (h0 : 0 ≤ a) (hac : a ≤ c) (hc : c ≤ xs.length)
    (hz : xs.length + ys.length ≤ sizeLine) (h : ∀ s', Inv X pins σ (upd H l (.lst (xs.take a.toNat ++ ys ++ xs.drop c.toNat))) s' → Q () s') :
    wpAny (model X.prog X.w) X.A (setItem (.ref l) (.ref sl) (.ref b)) Q X.xe s := by
  obtain ⟨ta, rfl⟩ := ra
  obtain ⟨tc, rfl⟩ := rc
  obtain ⟨z, its, n, r, hl, e⟩ := I.lstM hH
  obtain ⟨z2, its2, n2, r2, hl2, e2⟩ := I.lstM hB
  obtain ⟨a', rfl⟩ := Int.eq_ofNat_of_zero_le h0
  obtain ⟨c', rfl⟩ := Int.eq_ofNat_of_zero_le (Int.le_trans h0 hac)
  simp only [Int.toNat_natCast] at h
  refine setItem_slice (a := a') (c := c') e e2 hne hs (.int _ _) (.int _ _) (by omega) (by rw [List.size_toArray]; omega) (by rw [List.size_toArray, List.size_toArray]; omega) (h _ ?_)
  refine I.lset (its' := its.take a' ++ its2 ++ its.drop c') (t' := s.toks) hH e ?_ (Vals.append (Vals.append (r.take _) r2) (r.drop _)) ?_
  · exact splice_eq its its2 a' c'
  · rw [List.length_append, List.length_append, List.length_take, List.length_drop]
    omega
end
end L2

namespace Att
open PySem PySem.W PySem.Calls PyProof.Rows

/-! ### the script -/
theorem ints_of_wellAll {P : Params} {h : Heap} : ∀ (ns : List Int) (vs : List Value), WellAll P h vs (ns.map WData.int) → IntsAre vs ns := by
  intro ns
  induction ns with
  | nil =>
    intro vs w
    rw [List.map_nil] at w
    cases w
    exact .nil
  | cons n ns ih =>
    intro vs w
    rw [List.map_cons] at w
    cases w with
    | cons a b =>
      cases a
      exact .cons _ _ (ih _ b)

theorem script_of {l : OpenLaw} {n : Nat} (hn : l.most = some n) {P : Params} {h : Heap} {args : List WData} {vals : List Value}
    (hpre : l.row.toRowW.claim.pre args = true) (hwl : WellAll P h vals args) :
    ∃ a vs ns, vals = [Value.ref a] ∧ args = [WData.list (ns.map WData.int)] ∧ h.get? a = some { cls := .type "list", data := .seq vs.toArray } ∧ IntsAre vs ns ∧ ns.length ≤ n := by
  have hsh : WShape.hasAll [] args [.list .int] = true := (pre_splitW hpre).1
  have hc : l.pre.holds [] { args := args } = true := (pre_splitW hpre).2
  obtain ⟨d, r, rfl, h1, h2⟩ := hasAllW_cons hsh
  obtain rfl := hasAllW_nil h2
  obtain ⟨xs, rfl, h3⟩ := hasW_list h1
  obtain ⟨ns, rfl⟩ := items_int h3
  have hlen : ns.length ≤ n := by
    unfold OpenLaw.pre at hc
    have h4 : (WTm.not (.lt (.lit (.int (n : Int))) (.len (.arg 0)))).holds [] { args := [.list (ns.map .int)] } = true := by
      have h4 := (holds_andW hc).1
      rw [hn] at h4
      exact h4
    have h5 := condW_of h4 (w_not (w_lt w_lit (w_len_list (w_arg rfl))))
    rw [List.length_map] at h5
    refine Nat.le_of_not_lt fun q => ?_
    have q' : (n : Int) < ((ns.length : Nat) : Int) := by omega
    first
      | (rw [decide_eq_true q'] at h5; exact absurd h5 (by decide))
      | (simp at h5; omega)
  cases hwl with
  | cons w1 w2 =>
    cases w2
    cases w1 with
    | list ho hall => exact ⟨_, _, ns, rfl, rfl, ho, ints_of_wellAll ns _ hall, hlen⟩

theorem post_true (l : OpenLaw) (args : List WData) : l.row.toRowW.claim.post args (.bool true) args = true :=
  postW_of (r := l.row.toRowW) (X := (true == true))
    (show WShape.has [] (.bool true) .bool = true by first | rfl | decide | simp [WShape.has, WShape.arms, WShape.armsAll])
    (show (WTm.eq .res (.lit (.bool true))).value [] { args := args, res := some (.bool true), after := args } = some (.bool (true == true)) from w_eq_bool (w_res rfl) w_lit) rfl

/-! ### the attachment: holds_open's last premise (the goal 'hc' behind k_head) from a wpAny of the law's body -/
theorem attach {l : OpenLaw} {n : Nat} {q : Program} {loose : List Str} {XP : (Str → Option Value) → Heap → Prop} {YP : World → Heap → Prop} {d : DefRec} {x : Str}
    (hn : l.most = some n) (hdf : d.params.defaults = [])
    (hbind : ∀ pm cd doc v : Value, bindArgs (docDef d.name d.params d.body d.scope pm cd doc) ⟨[v], []⟩ = pure [(x, v)])
    (hx : d.scope.names.lookup x = some .local ∨ d.scope.names.lookup x = some .cell)
    (hk : d.scope.kind = .function) (hco : d.scope.isCoroutine = false) (hgen : d.scope.isGenerator = false)
    (body : ∀ (w : World) (s₀ s₁ s : Shared) (mg mb : Str → Option Value) (fa : Addr) (o : Obj) (pm cd doc : Value) (a : Addr) (vs : List Value) (ns : List Int),
      Ground q loose [] XP w s₀ mg mb s₁.heap → YP w s₁.heap →
      s₁.heap.get? fa = some o → o.data = .func (docDef d.name d.params d.body d.scope pm cd doc) → s₁.heap.CodeRec cd d.name → mg d.name = some (.ref fa) →
      s₁.heap.get? a = some { cls := .type "list", data := .seq vs.toArray } → IntsAre vs ns → ns.length ≤ n →
      s.gens = #[] → s.os = s₁.os →
      Fr s₁.heap s₁.heap.objs.size s.heap (bindL (envOfC d.name d.scope s₁.heap.objs.size fa cd).kindOf [(x, .ref a)] fun _ => none) →
      Cl s₁.heap.objs.size (cellsFrom (s₁.heap.objs.size + 1) d.scope.names []) s.heap (bindC (envOfC d.name d.scope s₁.heap.objs.size fa cd).kindOf [(x, .ref a)] fun _ => none) →
      wpAny (model l.prog w) (callerA.deeper (envOfC d.name d.scope s₁.heap.objs.size fa cd)) (execs d.body (envOfC d.name d.scope s₁.heap.objs.size fa cd))
        (fun f s' => f = .ret (.bool true) ∧ OldK s₁.heap s'.heap ∧ s'.os = s₁.os ∧ AllBare s'.gens) (fun _ _ => False) s) :
    WalkO q loose XP YP l.row.toRowW d [] (fun f vs => PySem.call f vs) := by
  intro w s₀ s₁ mg mb G Y fa o pm cd doc dV kV ho hd hcd hD hmg hg args vals as hpre hlay hrd hwl hlo
  obtain rfl : dV = .none := Dflts.none hD hdf
  obtain rfl : kV = .none := Dflts.noKw hD
  obtain ⟨a, vs, ns, rfl, rfl, hobj, hints, hlen⟩ := script_of hn hpre hwl
  refine enter_call ?_
  refine call_cells_ret (o := o) (by rw [depth_caller]; decide) ho (fd_plain hd) G.T.nolimit hcd (hbind pm cd doc (.ref a)) (fun y hy => ?_) (fun h₁ tk F X => ?_) hco hgen hk
  · obtain rfl : y = (x, Value.ref a) := List.mem_singleton.mp hy
    rcases hx with e | e
    · exact .inl e
    · exact .inr ⟨e, cellsFrom_some _ _ _ (.inl e)⟩
  · refine wpAny_mono (body w s₀ s₁ { s₁ with heap := h₁, toks := tk } mg mb fa o pm cd doc a vs ns G Y ho (fd_plain hd) hcd hmg hobj hints hlen hg rfl F X) (fun f s' hq => ?_) (fun _ _ hq => hq)
    obtain ⟨rfl, h2, h3, h4⟩ := hq
    exact ⟨.inl ⟨.bool true, .bool true, [], rfl, fun _ => rfl, .bool true, post_true l _, fun _ => ⟨List.Pairwise.nil, fun _ hm => (nomatch hm)⟩⟩, h2, h3, h4⟩

/-- the same from a codeAny of the CALL (for a layer whose function contracts speak of calls) -/
theorem attach_call {l : OpenLaw} {n : Nat} {q : Program} {loose : List Str} {XP : (Str → Option Value) → Heap → Prop} {YP : World → Heap → Prop} {d : DefRec}
    (hn : l.most = some n) (hdf : d.params.defaults = [])
    (call : ∀ (w : World) (s₀ s₁ : Shared) (mg mb : Str → Option Value) (fa : Addr) (o : Obj) (pm cd doc : Value) (a : Addr) (vs : List Value) (ns : List Int),
      Ground q loose [] XP w s₀ mg mb s₁.heap → YP w s₁.heap →
      s₁.heap.get? fa = some o → o.data = .func (docDef d.name d.params d.body d.scope pm cd doc) → s₁.heap.CodeRec cd d.name → mg d.name = some (.ref fa) →
      s₁.heap.get? a = some { cls := .type "list", data := .seq vs.toArray } → IntsAre vs ns → ns.length ≤ n → s₁.gens = #[] →
      codeAny (model l.prog w) callerA (.call (.ref fa) ⟨[.ref a], []⟩) (fun r s' => r = .ok (.ret (.bool true)) ∧ OldK s₁.heap s'.heap ∧ s'.os = s₁.os ∧ AllBare s'.gens) s₁) :
    WalkO q loose XP YP l.row.toRowW d [] (fun f vs => PySem.call f vs) := by
  intro w s₀ s₁ mg mb G Y fa o pm cd doc dV kV ho hd hcd hD hmg hg args vals as hpre hlay hrd hwl hlo
  obtain rfl : dV = .none := Dflts.none hD hdf
  obtain rfl : kV = .none := Dflts.noKw hD
  obtain ⟨a, vs, ns, rfl, rfl, hobj, hints, hlen⟩ := script_of hn hpre hwl
  refine enter_call (codeAny_mono (call w s₀ s₁ mg mb fa o pm cd doc a vs ns G Y ho (fd_plain hd) hcd hmg hobj hints hlen hg) fun r s' hq => ?_)
  obtain ⟨rfl, h2, h3, h4⟩ := hq
  exact ⟨.inl ⟨.bool true, .bool true, [], rfl, fun _ => rfl, .bool true, post_true l _, fun _ => ⟨List.Pairwise.nil, fun _ hm => (nomatch hm)⟩⟩, h2, h3, h4⟩

/-- the same where the top left finished generators (o_head chose holds_openN): nothing may have changed at all and no generator may be left -/
theorem attachN {l : OpenLaw} {n : Nat} {q : Program} {loose : List Str} {XP : (Str → Option Value) → Heap → Prop} {YP : World → Heap → Prop} {d : DefRec} {x : Str}
    (hn : l.most = some n) (hdf : d.params.defaults = [])
    (hbind : ∀ pm cd doc v : Value, bindArgs (docDef d.name d.params d.body d.scope pm cd doc) ⟨[v], []⟩ = pure [(x, v)])
    (hx : d.scope.names.lookup x = some .local ∨ d.scope.names.lookup x = some .cell)
    (hk : d.scope.kind = .function) (hco : d.scope.isCoroutine = false) (hgen : d.scope.isGenerator = false)
    (body : ∀ (w : World) (s₀ s₁ s : Shared) (mg mb : Str → Option Value) (fa : Addr) (o : Obj) (pm cd doc : Value) (a : Addr) (vs : List Value) (ns : List Int),
      Ground q loose [] XP w s₀ mg mb s₁.heap → YP w s₁.heap →
      s₁.heap.get? fa = some o → o.data = .func (docDef d.name d.params d.body d.scope pm cd doc) → s₁.heap.CodeRec cd d.name → mg d.name = some (.ref fa) →
      s₁.heap.get? a = some { cls := .type "list", data := .seq vs.toArray } → IntsAre vs ns → ns.length ≤ n →
      s.gens = #[] → s.os = s₁.os →
      Fr s₁.heap s₁.heap.objs.size s.heap (bindL (envOfC d.name d.scope s₁.heap.objs.size fa cd).kindOf [(x, .ref a)] fun _ => none) →
      Cl s₁.heap.objs.size (cellsFrom (s₁.heap.objs.size + 1) d.scope.names []) s.heap (bindC (envOfC d.name d.scope s₁.heap.objs.size fa cd).kindOf [(x, .ref a)] fun _ => none) →
      wpAny (model l.prog w) (callerA.deeper (envOfC d.name d.scope s₁.heap.objs.size fa cd)) (execs d.body (envOfC d.name d.scope s₁.heap.objs.size fa cd))
        (fun f s' => f = .ret (.bool true) ∧ (∀ b o, s₁.heap.get? b = some o → s'.heap.get? b = some o) ∧ s'.os = s₁.os ∧ s'.gens = #[]) (fun _ _ => False) s) :
    WalkN q loose XP YP l.row.toRowW d [] (fun f vs => PySem.call f vs) := by
  intro w s₀ s₁ mg mb G Y fa o pm cd doc dV kV ho hd hcd hD hmg hg args vals as hpre hlay hrd hwl hlo
  obtain rfl : dV = .none := Dflts.none hD hdf
  obtain rfl : kV = .none := Dflts.noKw hD
  obtain ⟨a, vs, ns, rfl, rfl, hobj, hints, hlen⟩ := script_of hn hpre hwl
  refine enter_callW ?_
  refine call_cells_ret (o := o) (by rw [depth_caller]; decide) ho (fd_plain hd) G.T.nolimit hcd (hbind pm cd doc (.ref a)) (fun y hy => ?_) (fun h₁ tk F X => ?_) hco hgen hk
  · obtain rfl : y = (x, Value.ref a) := List.mem_singleton.mp hy
    rcases hx with e | e
    · exact .inl e
    · exact .inr ⟨e, cellsFrom_some _ _ _ (.inl e)⟩
  · refine wpAny_mono (body w s₀ s₁ { s₁ with heap := h₁, toks := tk } mg mb fa o pm cd doc a vs ns G Y ho (fd_plain hd) hcd hmg hobj hints hlen hg rfl F X) (fun f s' hq => ?_) (fun _ _ hq => hq)
    obtain ⟨rfl, h2, h3, h4⟩ := hq
    exact ⟨.inl ⟨.bool true, .bool true, [], rfl, fun _ => rfl, .bool true, post_true l _, fun _ => ⟨List.Pairwise.nil, fun _ hm => (nomatch hm)⟩⟩, h2, h3, h4⟩

/-! ### rules over ANY heap (no ledger) from facts about the written part K: the library's own take a ledger (News) for what they write -/
section
variable {prog : Program} {w : World} {A : Around} {E : Value → Shared → Prop} {s : Shared} {K : Frag}

/-- a def of the module, or a method (qual 'C.m'), entered: the frame is the next address; cells behind it -/
theorem call_fn {R : Result → Shared → Prop} {name qual : Str} {params : Arguments} {body : List Stmt} {scope : Scope} {dV kV doc pm cdv ct oc : Value} {an od : Option Addr} {osl : Array (Option Value)} {f : Addr} {args : Args} {binds : List (Str × Value)}
    (X : K.In s.heap) (hlim : s.heap.NoLimit) (ho : K.lookup f = some ⟨oc, od, .func (fnOf name qual params body scope dV kV doc pm an cdv ct), osl⟩) (hcd : codeIn K cdv qual = true) (hroom : A.depth < recursionLimit)
    (hbind : BindsTo s (fnOf name qual params body scope dV kV doc pm an cdv ct) args binds)
    (hkind : (binds.all fun y => scope.names.lookup y.1 == some .local || scope.names.lookup y.1 == some .cell) = true)
    (h : ∀ s₁, InCallC s s.heap.objs.size (bindL (envOfC qual scope s.heap.objs.size f cdv).kindOf binds fun _ => none) (cellsFrom (s.heap.objs.size + 1) scope.names [])
        (bindC (envOfC qual scope s.heap.objs.size f cdv).kindOf binds fun _ => none) s₁ →
      wpAny (model prog w) (A.deeper (envOfC qual scope s.heap.objs.size f cdv)) (execs body (envOfC qual scope s.heap.objs.size f cdv))
        (fun fl s' => R (.ok (.ret (match fl with | .ret v => v | _ => .none))) s')
        (fun e s' => wpAny (model prog w) (A.deeper (envOfC qual scope s.heap.objs.size f cdv)) (leaving (envOfC qual scope s.heap.objs.size f cdv) e) (fun _ s'' => R (.error e) s'') (fun e' s'' => R (.error e') s'') s') s₁)
    (hco : scope.isCoroutine = false) (hgen : scope.isGenerator = false) (hk : scope.kind = .function) : codeAny (model prog w) A (.call (.ref f) args) R s := by
  refine codeAny_call_function hroom (X _ _ ho) rfl hco hgen rfl (codeRec_of X hcd) (hbind _ _ _ _ ?_)
  refine wpAny_newFunctionEnv_cells hk (kindsX hkind _) fun env he s₁ x => ?_
  subst he
  exact ⟨hlim.keeps x.toInCall.keep, codeAny_func (h s₁ x)⟩

/-- C(..): dict at size, instance at size + 1, then __init__ -/
theorem make_obj {R : Result → Shared → Prop} {C fI : Addr} {rest : List Value} {kw : List (Str × Value)}
    (X : K.In s.heap) (hm : makesIn K C = true) (hi : findIn K (.ref C) "__init__" = some (some (.ref fI))) (hf : isFn K (.ref fI) = true)
    (h : codeAny (model prog w) (A.under (.builtin "type.__call__" ⟨.ref C :: rest, kw⟩)) (.call (.ref fI) ⟨.ref (s.heap.objs.size + 1) :: rest, kw⟩) (InitBack (s.heap.objs.size + 1) R)
      { s with heap := (s.heap.push emptyDict).push (instObj C s.heap.objs.size) }) : codeAny (model prog w) A (.call (.ref C) ⟨rest, kw⟩) R s := by
  obtain ⟨hh, g, d, t, os⟩ := s
  exact make_core (makes_of X hm) (looks_findIn X hi) (fun self => bind_fn X self (beq_iff_eq.mp hf)) (.inl rfl) h

/-- x.name where the instance's dict holds the name and the class does not -/
theorem get_field {x C : Addr} {ox : Obj} {es : List DictEntry} {n : Nat} {name : Str} {expr : Bool} {v : Value} {Q : Value → Shared → Prop}
    (X : K.In s.heap) (I : PySem.W.InstAt s.heap x ox C (some (dictOf es n))) (hg : plainGet K C name = true) (hh : hasDictIn K C = true) (ha : findIn K (.ref C) name = some none)
    (hl : getL name es = some (some v)) (hv : handedIn v = true) (h : Q v { s with toks := s.toks + 1 }) : wpAny (model prog w) A (getAttr (.ref x) name expr) Q E s :=
  get_value X I (plainGet_of hg).1 (findObj_own hh ha rfl hl) hv h

/-- x.m(..): the method found in the class -/
theorem get_method {x C f : Addr} {ox : Obj} {es : List DictEntry} {n : Nat} {name : Str} {pl : Sem Bool} {Q : Value × List Value → Shared → Prop}
    (X : K.In s.heap) (I : PySem.W.InstAt s.heap x ox C (some (dictOf es n))) (hg : plainGet K C name = true) (hf : findIn K (.ref C) name = some (some (.ref f))) (ht : isFn K (.ref f) = true)
    (hl : getL name es = some none) (h : Q (.ref f, [.ref x]) s) : wpAny (model prog w) A (getMethod (.ref x) name pl) Q E s :=
  method_fn X I (plainGet_of hg).1 (plainGet_of hg).2 hf (beq_iff_eq.mp ht) (by show (lookIn name (dictOf es n)).map _ = _; rw [lookIn_dict, hl]; rfl) h

/-! the whole heap as the ledger: makes every rule that writes through a ledger a rule over any heap -/
def noObjs (h : Heap) : Heap := { h with objs := #[] }
theorem noObjs_get (h : Heap) (b : Addr) : (noObjs h).get? b = none := by
  cases e : (noObjs h).get? b with
  | none => rfl
  | some o => exact absurd (Heap.lt_size e) (Nat.not_lt_zero _)
def ledger (h : Heap) (L d : Addr) : List (Addr × Obj) := (List.range h.objs.size).filterMap fun a => if a = L ∨ a = d then none else (h.get? a).map fun o => (a, o)
theorem mem_ledger {h : Heap} {L d a : Addr} {o : Obj} : (a, o) ∈ ledger h L d ↔ a ≠ L ∧ a ≠ d ∧ h.get? a = some o := by
  unfold ledger
  rw [List.mem_filterMap]
  constructor
  · rintro ⟨b, _, e⟩
    split at e
    · cases e
    · rename_i hb
      obtain ⟨o', ho, e'⟩ := Option.map_eq_some_iff.mp e
      cases e'
      exact ⟨fun q => hb (.inl q), fun q => hb (.inr q), ho⟩
  · rintro ⟨n1, n2, ho⟩
    refine ⟨a, List.mem_range.mpr (Heap.lt_size ho), ?_⟩
    rw [if_neg (show ¬ (a = L ∨ a = d) from fun q => q.elim n1 n2), ho] <;> rfl
theorem news_ledger {h : Heap} {L d : Addr} {od : Obj} (hne : d ≠ L) (ho : h.get? d = some od) : News (noObjs h) L h ([] ++ (d, od) :: ledger h L d) := by
  rintro ⟨a, o⟩ hp
  rcases List.mem_cons.mp hp with e | hp
  · cases e
    exact ⟨ho, hne, noObjs_get _ _⟩
  · obtain ⟨n1, n2, e⟩ := mem_ledger.mp hp
    exact ⟨e, n1, noObjs_get _ _⟩
theorem fr_all {h : Heap} {L : Addr} {m : Str → Option Value} (n : h.Ns L m) : Fr (noObjs h) L h m :=
  ⟨n, fun b o e => (by rw [noObjs_get] at e; cases e), Nat.zero_le _⟩
/-- Upd of the head entry (for append_K, setItem_K ..) -/
theorem upd_ledger {h : Heap} {L d : Addr} {o o' : Obj} : Upd d o o' ((d, o) :: ledger h L d) ((d, o') :: ledger h L d) :=
  .head fun ⟨_, _⟩ hp => (mem_ledger.mp hp).2.1

/-- x.name = v over any heap: L is any namespace of the heap (the frame's, say): its map stays, its object is not told; all else but the dict stays -/
theorem set_field {x C dx L : Addr} {ox : Obj} {m : Str → Option Value} {es es' : List DictEntry} {n n' : Nat} {name : Str} {v : Value} {Q : Unit → Shared → Prop}
    (X : K.In s.heap) (I : PySem.W.InstAt s.heap x ox C (some (dictOf es n))) (hd : ox.dict = some dx) (hL : s.heap.Ns L m) (hne : dx ≠ L)
    (hs : findIn K (.ref C) "__setattr__" = some (some (.builtin "object.__setattr__"))) (hp : plainOver K C = true) (ht : takerIn K C name = some none) (hh : hasDictIn K C = true) (hl : (getL name es).isSome = true)
    (e : (putL name (PyData.keyHash w.params name) (.str name (s.toks + 1)) v es, putN name es n) = (es', n')) (hz : es'.length ≤ 1000)
    (h : ∀ h' : Heap, h'.Ns L m → h'.get? dx = some (dictOf es' n') → (∀ b o, b ≠ dx → b ≠ L → s.heap.get? b = some o → h'.get? b = some o) → Q () { s with heap := h', toks := s.toks + 2 }) :
    wpAny (model prog w) A (setAttr (.ref x) name v) Q E s := by
  obtain ⟨e1, e2⟩ := Prod.mk.inj e
  have hdx : s.heap.get? dx = some (dictOf es n) := by
    have := I.dict
    rw [hd] at this
    exact this
  refine set_plain X I hs (osa_dict (s := { s with toks := s.toks + 1 }) (h₀ := noObjs s.heap) (L := L) (m := m) (od := dictOf es n) (od' := dictOf es' n') (es := es') (n := n') (pre := []) (post := ledger s.heap L dx)
    (fr_all hL) (news_ledger hne hdx) X I hd hp ht hh hl (fun _ q => nomatch q) (fun ⟨_, _⟩ q => (mem_ledger.mp q).2.1) (by rw [putName_dict, e1, e2]) rfl hz fun h' F' N' => ?_)
  exact h h' F'.ns (N'.get (List.Mem.head _)) fun b o n1 n2 ho => N'.get (List.Mem.tail _ (mem_ledger.mpr ⟨n2, n1, ho⟩))
end
end Att

namespace L2
open PySem PySem.Spec PyProof.Rows

theorem vals_ints : ∀ {vs : List Value} {ns : List Int}, IntsAre vs ns → Vals (ns.map V.int) vs
  | _, _, .nil => .nil
  | _, _, .cons n t h => .cons ⟨t, rfl⟩ (vals_ints h)

/-- nothing is tracked but the script, known to the object (or it is an object of the module) -/
def Only (H : Hp) : Prop := ∀ b, H b = none ∨ ∃ o xs, H b = some (.frz o (.lst xs))

/-- THE HEAD: the law's promise, at the heap behind the top. F, the promise of the law's def, may use that base is part of the heap (so K.In base, base.Ns mainGlobals mg stand in Mod) -/
theorem law_call {P : Program} {w : World} {K : PySem.W.Frag} {mg mb : Str → Option Value} {CX : CXT} {k : Nat} {fa a : Addr} {fd : FuncData} {x : Str} {sp : Sp} {s₁ : Shared} {vs : List Value} {ns : List Int}
    (KX : K.In s₁.heap) (hns : s₁.heap.Ns mainGlobals mg) (hb : s₁.heap.Ns builtinsNs mb) (hbb : ∀ x : Str, x ≠ "__name__" → mb x = bootBuiltins x) (hlim : s₁.heap.NoLimit) (hg : s₁.gens = #[])
    (ha : s₁.heap.get? a = some { cls := .type "list", data := .seq vs.toArray }) (hi : IntsAre vs ns) (hl : ns.length ≤ sizeLine) (hr : Room k callerA)
    (F : ∀ base : Heap, K.In base → base.Ns mainGlobals mg → FnOk P w K mg base CX k fa fd [x] sp) (hbind : ∀ (s : Shared) (u : Value), BindsTo s fd ⟨[u], []⟩ [(x, u)])
    (hsp : ∀ H : Hp, Only H → SqL K H a (ns.map V.int) → sp [.ref a] H (fun v _ => v = .bl true) fun _ _ _ => False)
    (hCX : ∀ H e s', CX [] H s₁ (fun _ _ _ => False) e s' → False) :
    codeAny (model P w) callerA (.call (.ref fa) ⟨[.ref a], []⟩) (fun r s' => r = .ok (.ret (.bool true)) ∧ OldK s₁.heap s'.heap ∧ s'.os = s₁.os ∧ AllBare s'.gens) s₁ := by
  have rv := vals_ints hi
  have lenV := hi.length
  -- from an abstract heap in which nothing but the script may be tracked
  have core : ∀ H : Hp, Only H → SqL K H a (ns.map V.int) → HOk P w H s₁.heap → (∀ b, H b ≠ none → b = a) → (H a ≠ none → K.lookup a = none) →
      codeAny (model P w) callerA (.call (.ref fa) ⟨[.ref a], []⟩) (fun r s' => r = .ok (.ret (.bool true)) ∧ OldK s₁.heap s'.heap ∧ s'.os = s₁.os ∧ AllBare s'.gens) s₁ := by
    intro H hO hS hok hA hK
    have base_of : ∀ {b : Addr} {o : Obj}, s₁.heap.get? b = some o → H b = none → (hidT s₁.heap H).get? b = some o := fun e n => hidT_get e n
    have noA : ∀ {b : Addr} {o : Obj} {es : Array DictEntry} {ep : Nat}, s₁.heap.get? b = some o → o.data = .dict es ep → H b = none := fun {b o es ep} e d => by
      cases q : H b with
      | none => rfl
      | some u =>
        have e' : b = a := hA b (by rw [q]; simp)
        subst e'
        rw [ha] at e; cases e
        have d' : Data.seq vs.toArray _ = Data.dict es ep := d
        cases d'
    have nsK : ∀ {b : Addr} {m : Str → Option Value}, s₁.heap.Ns b m → (hidT s₁.heap H).Ns b m := fun {b m} ⟨o, es, ep, e, d, r⟩ => ⟨o, es, ep, base_of e (noA e d), d, r⟩
    have hKb : K.In (hidT s₁.heap H) := fun b o e => base_of (KX b o e) (by
      cases q : H b with
      | none => rfl
      | some u =>
        have e' : b = a := hA b (by rw [q]; simp)
        subst e'
        rw [hK (by rw [q]; simp)] at e; cases e)
    have hM : Mod K mg (hidT s₁.heap H) := ⟨hKb, nsK hns, ⟨mb, nsK hb, hbb⟩, let ⟨mc, h1, h2⟩ := hlim; ⟨mc, nsK h1, h2⟩⟩
    have e0 : Env0 P w K mg (hidT s₁.heap H) callerA [] s₁ H := ⟨rfl, hM, fun b o e => of_hidT e, Nat.le_of_eq (hidT_size _ _), trivial, fun b hb => absurd (show b ∈ ([] : List Addr) from hb) (by simp), hok, .of_eq hg⟩
    refine codeAny_mono ((F _ hKb (nsK hns)).run callerA [] s₁ H ⟨[.ref a], []⟩ [.ref a] [.ref a] _ _ hr e0 (hbind s₁ (.ref a)) (.cons rfl .nil) (hsp H hO hS)) fun r s' h => ?_
    cases r with
    | error e => exact (hCX H e s' h).elim
    | ok fl =>
      cases fl with
      | next => exact False.elim h
      | brk => exact False.elim h
      | cont => exact False.elim h
      | ret u =>
        obtain ⟨v, H', os, bare, un, hok', r', q⟩ := h
        have q' : v = .bl true := q
        subst q'
        obtain rfl : u = Value.bool true := r'
        refine ⟨rfl, OldK.of_keep fun b o e => ?_, os, bare⟩
        cases q : H b with
        | none => exact un.keep b o e q (by intro z; exact absurd (show b ∈ ([] : List Addr) from z) (by simp)) (by simp)
        | some u =>
          rcases hO b with z | ⟨ob, xs, z⟩
          · rw [q] at z; cases z
          · have z2 := un.frzs b ob _ z
            obtain ⟨e1, _⟩ := hok b _ z
            obtain ⟨e2, _⟩ := hok' b _ z2
            rw [e] at e1; cases e1
            exact e2
  cases hk : K.lookup a with
  | some o =>
    -- the script is one of the module's own objects
    have e := KX a o hk
    rw [ha] at e
    cases e
    refine core (fun _ => none) (fun _ => .inl rfl) (.inr ⟨_, vs.toArray, _, hk, rfl, rfl, rfl, by rw [List.size_toArray, lenV]; exact hl, by simpa using rv⟩) (fun b u z => by have z' : (none : Option HO) = some u := z; cases z') (fun b z => absurd rfl z) fun z => absurd rfl z
  | none =>
    refine core (fun b => if b = a then some (.frz { cls := .type "list", data := .seq vs.toArray } (.lst (ns.map V.int))) else none) (fun b => ?_) (.inl (.inr ⟨{ cls := .type "list", data := .seq vs.toArray }, if_pos rfl⟩)) (fun b u z => ?_) (fun b z => ?_) fun _ => hk
    · by_cases hb : b = a
      · exact .inr ⟨_, _, if_pos hb⟩
      · exact .inl (if_neg hb)
    · by_cases hb : b = a
      · have z' := (if_pos hb).symm.trans z
        cases z'
        subst hb
        exact ⟨ha, by rw [List.length_map]; exact hl, vs, _, rv, ha⟩
      · have z' := (if_neg hb).symm.trans z
        cases z'
    · by_cases hb : b = a
      · exact hb
      · exact absurd (if_neg hb) z
end L2

namespace L2
open PySem PySem.Spec PyProof.Rows

abbrev KOf {K : PySem.W.Frag} {h : Heap} (_ : K.In h) : PySem.W.Frag := K

/-- the goal that k_head leaves (case hc), from the law's promise. F gives the function object fd (K's own) once, then the promise over every base -/
theorem walk_of {l : PySem.W.OpenLaw} {n k : Nat} {q : Program} {loose : List Str} {XP : (Str → Option Value) → Heap → Prop} {YP : World → Heap → Prop} {d : DefRec} {K : Params → PySem.W.Frag} {CX : World → CXT} {sp : World → Sp} {x : Str}
    (hn : l.most = some n) (hn2 : n ≤ sizeLine) (hdf : d.params.defaults = []) (hr : Room k callerA)
    (hY : ∀ (w : World) (h : Heap), YP w h → (K w.params).In h)
    (F : ∀ (w : World) (mg : Str → Option Value) (fa : Addr) (h : Heap), (K w.params).In h → h.Ns mainGlobals mg → mg d.name = some (.ref fa) →
      ∃ fd : FuncData, (∀ (s : Shared) (u : Value), BindsTo s fd ⟨[u], []⟩ [(x, u)]) ∧
        ∀ base : Heap, (K w.params).In base → base.Ns mainGlobals mg → FnOk l.prog w (K w.params) mg base (CX w) k fa fd [x] (sp w))
    (hsp : ∀ (w : World) (H : Hp) (a : Addr) (ns : List Int), ns.length ≤ n → Only H → SqL (K w.params) H a (ns.map V.int) → sp w [.ref a] H (fun v _ => v = .bl true) fun _ _ _ => False)
    (hCX : ∀ (w : World) (H : Hp) (s : Shared) (e : Value) (s' : Shared), CX w [] H s (fun _ _ _ => False) e s' → False) :
    PySem.W.WalkO q loose XP YP l.row.toRowW d [] (fun f vs => PySem.call f vs) := by
  refine Att.attach_call hn hdf fun w s₀ s₁ mg mb fa o pm cd doc a vs ns G Y ho hd hcd hmg hobj hints hlen hg => ?_
  have KX := hY w _ Y
  obtain ⟨fd, hb, hF⟩ := F w mg fa _ KX G.T.g hmg
  exact law_call KX G.T.g G.T.b G.T.builtins G.T.nolimit hg hobj hints (Nat.le_trans hlen hn2) hr hF hb (fun H hO hS => hsp w H a ns hlen hO hS) fun H e s' => hCX w H s₁ e s'
/-- the same where the promise hangs on the written part alone: (sp := My.sp_law), no hole under a binder -/
theorem walk_ofK {l : PySem.W.OpenLaw} {n k : Nat} {q : Program} {loose : List Str} {XP : (Str → Option Value) → Heap → Prop} {YP : World → Heap → Prop} {d : DefRec} {K : Params → PySem.W.Frag} {CX : CXT} {sp : PySem.W.Frag → Sp} {x : Str}
    (hn : l.most = some n) (hn2 : n ≤ sizeLine) (hdf : d.params.defaults = []) (hr : Room k callerA)
    (hY : ∀ (w : World) (h : Heap), YP w h → (K w.params).In h)
    (F : ∀ (w : World) (mg : Str → Option Value) (fa : Addr) (h : Heap), (K w.params).In h → h.Ns mainGlobals mg → mg d.name = some (.ref fa) →
      ∃ fd : FuncData, (∀ (s : Shared) (u : Value), BindsTo s fd ⟨[u], []⟩ [(x, u)]) ∧
        ∀ base : Heap, (K w.params).In base → base.Ns mainGlobals mg → FnOk l.prog w (K w.params) mg base CX k fa fd [x] (sp (K w.params)))
    (hsp : ∀ (K : PySem.W.Frag) (H : Hp) (a : Addr) (ns : List Int), ns.length ≤ n → Only H → SqL K H a (ns.map V.int) → sp K [.ref a] H (fun v _ => v = .bl true) fun _ _ _ => False)
    (hCX : ∀ (H : Hp) (s : Shared) (e : Value) (s' : Shared), CX [] H s (fun _ _ _ => False) e s' → False) :
    PySem.W.WalkO q loose XP YP l.row.toRowW d [] (fun f vs => PySem.call f vs) :=
  walk_of (K := K) (CX := fun _ => CX) (sp := fun w => sp (K w.params)) hn hn2 hdf hr hY F (fun w H a ns h1 h2 h3 => hsp (K w.params) H a ns h1 h2 h3) fun _ H s e s' => hCX H s e s'
end L2


/-! SHORT WORDS over the layer: a def of the text, its body, what a loop and a test want. -/
namespace L2
open PySem PySem.Spec PyProof.Rows

/-! ### the text by places -/
/-- the j-th statement of a class's body -/
def inClass (s : Stmt) (j : Nat) : Stmt := match s with
  | .ClassDef _ _ _ body _ _ _ _ _ _ _ => body.getD j (.Pass ⟨0, 0, 0, 0⟩)
  | _ => .Pass ⟨0, 0, 0, 0⟩
def defArgs (s : Stmt) : Arguments := match s with
  | .FunctionDef _ a _ _ _ _ _ _ _ _ => a
  | _ => { posonlyargs := [], args := [], vararg := none, kwonlyargs := [], kw_defaults := [], kwarg := none, defaults := [] }
def defBody (s : Stmt) : List Stmt := match s with
  | .FunctionDef _ _ b _ _ _ _ _ _ _ => b
  | _ => []
def defScope (s : Stmt) : Scope := match s with
  | .FunctionDef _ _ _ _ _ _ sc _ _ _ => sc
  | _ => { kind := .function, names := [], isGenerator := false, isCoroutine := false }

/-! ### no exception leaves a def -/
abbrev CX0 : CXT := fun _ _ _ _ _ _ => False
abbrev E0 : XK := fun _ _ _ => False
theorem pass0 {X : Cx} : Passes CX0 X E0 := fun _ _ _ _ _ _ _ h => h.elim

/-! ### a def (or method) of the text as it stands behind the top -/
structure Fun (K : PySem.W.Frag) (x qual : Str) (st : Stmt) (f : Addr) (fd : FuncData) : Prop where
  ex : ∃ (oc : Value) (od : Option Addr) (kV doc pm : Value) (an : Option Addr) (cdv ct : Value) (osl : Array (Option Value)),
    fd = PySem.W.fnOf x qual (defArgs st) (defBody st) (defScope st) .none kV doc pm an cdv ct ∧ K.lookup f = some ⟨oc, od, .func fd, osl⟩ ∧ PySem.W.codeIn K cdv qual = true
  kp : PySem.W.keepIn K (.ref f) = true
section
variable {P : Program} {w : World} {K : PySem.W.Frag} {mg : Str → Option Value} {base : Heap}
/-- THE RULE for a def: its body as a term of rules, and the reading of that term -/
theorem Fun.ok {x qual : Str} {st : Stmt} {f : Addr} {fd : FuncData} {N ps : List Str} {k : Nat} {sp : Sp} (F : Fun K x qual st f fd) (S : FnScope N ps (defScope st)) (len : ∀ vs H Q E, sp vs H Q E → vs.length = ps.length)
    (hbody : ∀ (cdv : Value) (A : Around) (outer : List Env) (s : Shared) (H : Hp) (vs : List V) (Q : VK) (E : XK), Room k (A.deeper (envOfC qual (defScope st) s.heap.objs.size f cdv)) → sp vs H Q E →
      ∃ t, PSs (cxOf CX0 P w K mg base N qual (defScope st) f cdv A outer s H E).nox (defBody st) t ∧ t { nx := fun _ H' => Q .non H', rt := Q } (start N vs) H) : FnOk P w K mg base CX0 (k + 1) f fd ps sp := by
  obtain ⟨oc, od, kV, doc, pm, an, cdv, ct, osl, rfl, lk, hcd⟩ := F.ex
  refine fn_of lk hcd S len fun A outer s H vs Q E hr hsp => ?_
  obtain ⟨t, h, q⟩ := hbody cdv A outer s H vs Q E hr hsp
  exact ⟨t, h.nox, q⟩
/-- how its arguments bind (no defaults): h is «fun _ _ _ _ _ _ us hl => match us, hl with | [_, _], _ => rfl», one _ a parameter -/
theorem Fun.binds {x qual : Str} {st : Stmt} {f : Addr} {fd : FuncData} {ps : List Str} (F : Fun K x qual st f fd)
    (h : ∀ (kV doc pm : Value) (an : Option Addr) (cdv ct : Value) (us : List Value), us.length = ps.length → bindArgs (PySem.W.fnOf x qual (defArgs st) (defBody st) (defScope st) .none kV doc pm an cdv ct) ⟨us, []⟩ = pure (ps.zip us)) : Binds K fd ps [] := by
  obtain ⟨oc, od, kV, doc, pm, an, cdv, ct, osl, rfl, lk, hcd⟩ := F.ex
  exact .all (h kV doc pm an cdv ct)
theorem fun_mk {x qual : Str} {st : Stmt} {f : Addr} {oc : Value} {od an : Option Addr} {osl : Array (Option Value)} {kV doc pm cdv ct : Value} (l : K.lookup f = some ⟨oc, od, .func (PySem.W.fnOf x qual (defArgs st) (defBody st) (defScope st) .none kV doc pm an cdv ct), osl⟩)
    (c : PySem.W.codeIn K cdv qual = true) (k : PySem.W.keepIn K (.ref f) = true) : Fun K x qual st f (PySem.W.fnOf x qual (defArgs st) (defBody st) (defScope st) .none kV doc pm an cdv ct) := ⟨⟨oc, od, kV, doc, pm, an, cdv, ct, osl, rfl, l, c⟩, k⟩
end
theorem hu_of {A : Around} {k : Nat} (hr : Room k A) : A.units + 1 < cLine := Nat.lt_of_le_of_lt (Nat.add_le_add_left (by decide : 1 ≤ 64) _) hr.units
theorem small1000 {n : Nat} (h : n ≤ 1000) : n < sizeLine := Nat.lt_of_le_of_lt h (by decide)

/-! ### expressions in short: the name that stands in the i-th slot -/
section
variable {X : Cx}
theorem pv (i : Nat) {x : Str} {pos : Pos} (hN : X.N[i]? = some x := by rfl) (hv : Vis X.env.scope x := by first | exact Or.inl rfl | exact Or.inr (Or.inl rfl) | exact Or.inr (Or.inr rfl)) (hd : (x == ("__debug__" : Str)) = false := by decide)
    (hcd : (x == ("__classdict__" : Str)) = false := by decide) : PE X (.Name x pos) (tVar i) := pe_var hN hv hd hcd
end

/-! ### tests -/
theorem iteF {A B : Prop} (h : B) : if false = true then A else B := by
  rw [if_neg Bool.false_ne_true]
  exact h
theorem iteT {A B : Prop} (h : A) : if true = true then A else B := by
  rw [if_pos rfl]
  exact h
theorem ite2 {c A B : Prop} [Decidable c] (h1 : c → A) (h2 : ¬ c → B) : if c then A else B := by
  by_cases h : c
  · rw [if_pos h]
    exact h1 h
  · rw [if_neg h]
    exact h2 h
theorem iteNS {c A B : Prop} [Decidable c] (hc : c) (h : B) : if (!decide c) = true then A else B := by
  rw [decide_eq_true hc]
  exact iteF h


end L2

set_option maxHeartbeats 4000000
namespace L2
open PySem PySem.Spec PyProof.Rows

/-! ### heaps: all that was tracked stays; a code table may take up its one code -/
def codeX (c : Addr) (qual : Str) : HO := .ext fun h => h.CodeRec (.ref c) qual
/-- where the one inner code of the text stands, and its name -/
class TabPar where
  p : Value
  q : Value
  qual : Str
variable [TabPar]
/-- a table: empty, or with the one code -/
def TabOk (P : Addr) (H : Hp) : Prop := H P = some (.tbl #[]) ∨ ∃ c, H P = some (.tbl #[TabPar.p, TabPar.q, .ref c]) ∧ H c = some (codeX c TabPar.qual)
def plainO : HO → Bool
  | .tbl _ => false
  | _ => true
structure Same (H H' : Hp) : Prop where
  at' : ∀ b o, H b = some o → plainO o = true → H' b = some o
  tbl : ∀ b ps, H b = some (.tbl ps) → ∃ ps', H' b = some (.tbl ps')
  tab : ∀ P, TabOk P H → TabOk P H'
theorem Same.app {H H' : Hp} (s : Same H H') : ∀ b o, H b = some o → (nt : plainO o = true := by rfl) → H' b = some o := fun b o h nt => s.at' b o h nt
instance {H H' : Hp} : CoeFun (Same H H') (fun _ => ∀ b o, H b = some o → (nt : plainO o = true := by rfl) → H' b = some o) := ⟨@Same.app _ H H'⟩
theorem Same.refl (H : Hp) : Same H H := ⟨fun _ _ h _ => h, fun _ ps h => ⟨ps, h⟩, fun _ h => h⟩
theorem Same.trans {H H1 H2 : Hp} (a : Same H H1) (b : Same H1 H2) : Same H H2 := ⟨fun c o h n => b.at' c o (a.at' c o h n) n, fun c ps h => by
  obtain ⟨ps', h'⟩ := a.tbl c ps h
  exact b.tbl c ps' h', fun P h => b.tab P (a.tab P h)⟩
theorem Same.free {H H' : Hp} (e : Same H H') {l : Addr} (h : H' l = Option.none) : H l = Option.none := by
  cases q : H l with
  | none => rfl
  | some o =>
    cases hp : plainO o with
    | true => rw [e.at' l o q hp] at h; cases h
    | false =>
      cases o with
      | tbl ps =>
        obtain ⟨ps', h'⟩ := e.tbl l ps q
        rw [h'] at h
        cases h
      | _ => cases hp
theorem Same.seq {K : PySem.W.Frag} {H H' : Hp} {a : Addr} {xs : List V} (e : Same H H') (h : SqL K H a xs) : SqL K H' a xs := by
  rcases h with (h | ⟨o, h⟩) | h
  · exact .inl (.inl (e _ _ h))
  · exact .inl (.inr ⟨o, e _ _ h⟩)
  · exact .inr h
theorem Same.tup {K : PySem.W.Frag} {H H' : Hp} {a : Addr} {xs : List V} (e : Same H H') (h : SqT K H a xs) : SqT K H' a xs := by
  rcases h with (h | ⟨o, h⟩) | h
  · exact .inl (.inl (e _ _ h))
  · exact .inl (.inr ⟨o, e _ _ h⟩)
  · exact .inr h
/-- what stands there is no code record -/
def NotX (H : Hp) (r : Addr) : Prop := ∀ φ, H r ≠ some (.ext φ)
theorem NotX.lst {H : Hp} {r : Addr} {xs : List V} (h : H r = some (.lst xs)) : NotX H r := fun φ e => by rw [h] at e; cases e
theorem NotX.dT {H : Hp} {r : Addr} {xs : List (List Key × V)} (h : H r = some (.dT xs)) : NotX H r := fun φ e => by rw [h] at e; cases e
theorem NotX.non {H : Hp} {r : Addr} (h : H r = none) : NotX H r := fun φ e => by rw [h] at e; cases e
theorem TabOk.upd {P r : Addr} {H : Hp} {o : HO} (t : TabOk P H) (h1 : r ≠ P) (h2 : NotX H r) : TabOk P (L2.upd H r o) := by
  rcases t with t | ⟨c, t1, t2⟩
  · exact .inl (by rw [upd_ne (Ne.symm h1)]; exact t)
  · refine .inr ⟨c, by rw [upd_ne (Ne.symm h1)]; exact t1, ?_⟩
    rw [upd_ne (fun e => h2 _ (by rw [← e]; exact t2))]
    exact t2
theorem TabOk.at {P : Addr} {H : Hp} (t : TabOk P H) : ∃ ps, H P = some (.tbl ps) := by
  rcases t with t | ⟨c, t1, t2⟩
  · exact ⟨_, t⟩
  · exact ⟨_, t1⟩
theorem Same.upd {H H' : Hp} {r : Addr} {o : HO} (e : Same H H') (h : H r = none) (hx : NotX H' r := by first | exact NotX.lst (by assumption) | exact NotX.lst upd_same | exact NotX.dT (by assumption) | exact NotX.non (by assumption)) : Same H (L2.upd H' r o) := by
  refine ⟨fun b u q n => ?_, fun b ps q => ?_, fun P t => ?_⟩
  · rw [upd_ne (ne_of_none q h)]
    exact e.at' b u q n
  · rw [upd_ne (ne_of_none q h)]
    exact e.tbl b ps q
  · obtain ⟨ps, hp⟩ := t.at
    exact (e.tab P t).upd (Ne.symm (ne_of_none hp h)) hx
theorem same_new {H : Hp} {p : Addr} (h : H p = none) (o : HO) : Same H (upd H p o) := (Same.refl H).upd h (NotX.non h)
/-- all but what stands at d stays -/
structure But (d : Addr) (H H' : Hp) : Prop where
  at' : ∀ b o, b ≠ d → H b = some o → plainO o = true → H' b = some o
  tbl : ∀ b ps, H b = some (.tbl ps) → ∃ ps', H' b = some (.tbl ps')
  tab : ∀ P, TabOk P H → TabOk P H'
theorem Same.but {d : Addr} {H H' : Hp} (e : Same H H') : But d H H' := ⟨fun b o _ h n => e.at' b o h n, e.tbl, e.tab⟩
theorem But.refl (d : Addr) (H : Hp) : But d H H := (Same.refl H).but
theorem But.trans {d : Addr} {H H1 H2 : Hp} (a : But d H H1) (b : But d H1 H2) : But d H H2 := ⟨fun c o z h n => b.at' c o z (a.at' c o z h n) n, fun c ps h => by
  obtain ⟨ps', h'⟩ := a.tbl c ps h
  exact b.tbl c ps' h', fun P h => b.tab P (a.tab P h)⟩
theorem But.same {d : Addr} {H H' : Hp} (e : But d H H') (h : H d = none) : Same H H' := ⟨fun b o q n => e.at' b o (ne_of_none q h) q n, e.tbl, e.tab⟩
/-- d is new behind H -/
theorem But.old {d : Addr} {H H1 H2 : Hp} (s : Same H H1) (e : But d H1 H2) (h : H d = none) : Same H H2 := ⟨fun b o q n => e.at' b o (ne_of_none q h) (s.at' b o q n) n, fun b ps q => by
  obtain ⟨ps', h'⟩ := s.tbl b ps q
  exact e.tbl b ps' h', fun P t => e.tab P (s.tab P t)⟩
theorem But.tup {K : PySem.W.Frag} {d : Addr} {H H' : Hp} {a : Addr} {xs : List V} (e : But d H H') (hd : a ≠ d) (h : SqT K H a xs) : SqT K H' a xs := by
  rcases h with (h | ⟨o, h⟩) | h
  · exact .inl (.inl (e.at' _ _ hd h rfl))
  · exact .inl (.inr ⟨o, e.at' _ _ hd h rfl⟩)
  · exact .inr h
theorem But.seq {K : PySem.W.Frag} {d : Addr} {H H' : Hp} {a : Addr} {xs : List V} (e : But d H H') (hd : a ≠ d) (h : SqL K H a xs) : SqL K H' a xs := by
  rcases h with (h | ⟨o, h⟩) | h
  · exact .inl (.inl (e.at' _ _ hd h rfl))
  · exact .inl (.inr ⟨o, e.at' _ _ hd h rfl⟩)
  · exact .inr h
end L2

namespace L2
open PySem PySem.Spec PyProof.Rows

/-! ### lists of pairs as tables -/
section
variable {κ : Type} [DecidableEq κ]
def valV (kvs : List (κ × V)) (k : κ) : Option V := (kvs.find? fun kv => decide (kv.1 = k)).map (·.2)
/-- in its place, or at the end -/
def putK (kvs : List (κ × V)) (k : κ) (v : V) : List (κ × V) :=
  if (kvs.any fun kv => decide (kv.1 = k)) = true then kvs.map (fun kv => if kv.1 = k then (kv.1, v) else kv) else kvs ++ [(k, v)]
def dropK (kvs : List (κ × V)) (k : κ) : List (κ × V) := kvs.filter fun kv => decide (kv.1 ≠ k)

theorem valV_nil {k : κ} : valV ([] : List (κ × V)) k = none := rfl
theorem valV_pos {p : κ × V} {r : List (κ × V)} {k : κ} (e : p.1 = k) : valV (p :: r) k = some p.2 := by simp [valV, List.find?_cons, e]
theorem valV_neg {p : κ × V} {r : List (κ × V)} {k : κ} (e : ¬ p.1 = k) : valV (p :: r) k = valV r k := by simp [valV, List.find?_cons, e]
theorem valV_any (k : κ) : ∀ kvs : List (κ × V), (kvs.any fun kv => decide (kv.1 = k)) = (valV kvs k).isSome
  | [] => rfl
  | p :: r => by
    rw [List.any_cons]
    by_cases e : p.1 = k
    · simp only [valV_pos e, decide_eq_true e, Bool.true_or, Option.isSome_some]
    · rw [valV_neg e, decide_eq_false e, Bool.false_or]; exact valV_any k r
theorem valV_map (k j : κ) (y : V) : ∀ kvs : List (κ × V), valV (kvs.map fun kv => if kv.1 = k then (kv.1, y) else kv) j = (valV kvs j).map fun x => if j = k then y else x
  | [] => rfl
  | p :: r => by
    have ih := valV_map k j y r
    rw [List.map_cons]
    by_cases h : p.1 = k
    · rw [if_pos h]
      by_cases e : p.1 = j
      · rw [valV_pos (p := (p.1, y)) e, valV_pos e, Option.map_some, if_pos (e.symm.trans h)]
      · rw [valV_neg (p := (p.1, y)) e, valV_neg e, ih]
    · rw [if_neg h]
      by_cases e : p.1 = j
      · rw [valV_pos (p := p) e, valV_pos e, Option.map_some, if_neg (fun z => h (e.trans z))]
      · rw [valV_neg (p := p) e, valV_neg e, ih]
theorem valV_snoc (k j : κ) (y : V) : ∀ kvs : List (κ × V), valV kvs k = none → valV (kvs ++ [(k, y)]) j = if j = k then some y else valV kvs j
  | [], _ => by
    by_cases e : k = j
    · rw [if_pos e.symm]; exact valV_pos (p := (k, y)) e
    · rw [if_neg (fun z => e z.symm)]; exact valV_neg (p := (k, y)) e
  | p :: r, hn => by
    rw [List.cons_append]
    have hk : ¬ p.1 = k := fun z => by rw [valV_pos z] at hn; cases hn
    rw [valV_neg hk] at hn
    have ih := valV_snoc k j y r hn
    by_cases e : p.1 = j
    · rw [valV_pos e, valV_pos e, if_neg (fun z => hk (e.trans z))]
    · rw [valV_neg e, valV_neg e, ih]
theorem valV_put (kvs : List (κ × V)) (k j : κ) (y : V) : valV (putK kvs k y) j = if j = k then some y else valV kvs j := by
  unfold putK
  by_cases a : (kvs.any fun kv => decide (kv.1 = k)) = true
  · rw [if_pos a, valV_map]
    rw [valV_any] at a
    by_cases e : j = k
    · obtain ⟨x, hx⟩ := Option.isSome_iff_exists.mp a
      rw [if_pos e, e, hx, Option.map_some, if_pos rfl]
    · rw [if_neg e]
      cases valV kvs j with
      | none => rfl
      | some x => rw [Option.map_some, if_neg e]
  · rw [if_neg a]
    refine valV_snoc k j y kvs ?_
    rw [valV_any] at a
    cases q : valV kvs k with
    | none => rfl
    | some x => rw [q] at a; exact (a rfl).elim
theorem length_putK (kvs : List (κ × V)) (k : κ) (v : V) : (putK kvs k v).length ≤ kvs.length + 1 := by
  unfold putK
  split
  · rw [List.length_map]; omega
  · rw [List.length_append, List.length_cons, List.length_nil]; omega
theorem putK_new {kvs : List (κ × V)} {k : κ} (v : V) (h : valV kvs k = none) : putK kvs k v = kvs ++ [(k, v)] := by
  unfold putK
  rw [valV_any, h]
  exact if_neg (by decide)

theorem RelO.isSome_eq {o : Option V} {u : Option Value} (r : RelO o u) : o.isSome = u.isSome := by
  cases o with
  | none => cases u with
    | none => rfl
    | some _ => exact (show False from r).elim
  | some _ => cases u with
    | none => exact (show False from r).elim
    | some _ => rfl
theorem RelO.getD {o : Option V} {u : Option Value} {d : V} {d' : Value} (r : RelO o u) (rd : RelV d d') : RelV (o.getD d) (u.getD d') := by
  cases o with
  | none => cases u with
    | none => exact rd
    | some _ => exact (show False from r).elim
  | some _ => cases u with
    | none => exact (show False from r).elim
    | some _ => exact r

/-- raw tables of the same keys -/
theorem KV.val {kvs : List (κ × V)} {vs : List (κ × Value)} (r : KV kvs vs) (k : κ) : RelO (valV kvs k) (valueAt vs k) := by
  unfold KV at r
  induction r with
  | nil => exact True.intro
  | @cons p q ps qs h t ih =>
    obtain ⟨h1, h2⟩ := h
    by_cases e : p.1 = k
    · have e' : q.1 = k := h1.symm.trans e
      have b : valueAt (q :: qs) k = some q.2 := by simp [valueAt, List.find?_cons, e']
      rw [valV_pos e, b]; exact h2
    · have e' : ¬ q.1 = k := fun z => e (h1.trans z)
      have b : valueAt (q :: qs) k = valueAt qs k := by simp [valueAt, List.find?_cons, e']
      rw [valV_neg e, b]; exact ih
theorem KV.any {kvs : List (κ × V)} {vs : List (κ × Value)} (r : KV kvs vs) (k : κ) : (kvs.any fun kv => decide (kv.1 = k)) = vs.any fun kv => decide (kv.1 = k) := by
  unfold KV at r
  induction r with
  | nil => rfl
  | cons h t ih => rw [List.any_cons, List.any_cons, ih, h.1]
theorem KV.repl {kvs : List (κ × V)} {vs : List (κ × Value)} (r : KV kvs vs) (k : κ) {y : V} {u : Value} (ry : RelV y u) :
    KV (kvs.map fun kv => if kv.1 = k then (kv.1, y) else kv) (vs.map fun kv => if kv.1 = k then (kv.1, u) else kv) := by
  unfold KV at r ⊢
  induction r with
  | nil => exact .nil
  | @cons p q ps qs h t ih =>
    rw [List.map_cons, List.map_cons]
    refine .cons ?_ ih
    obtain ⟨h1, h2⟩ := h
    by_cases e : p.1 = k
    · rw [if_pos e, if_pos (h1.symm.trans e)]; exact ⟨h1, ry⟩
    · rw [if_neg e, if_neg (fun z => e (h1.trans z))]; exact ⟨h1, h2⟩
theorem KV.put {kvs : List (κ × V)} {vs : List (κ × Value)} (r : KV kvs vs) (k : κ) {y : V} {u : Value} (ry : RelV y u) : KV (putK kvs k y) (stored vs k u) := by
  unfold putK stored
  rw [r.any k]
  by_cases e : (vs.any fun kv => decide (kv.1 = k)) = true
  · rw [if_pos e, if_pos e]; exact r.repl k ry
  · rw [if_neg e, if_neg e]; exact Paired.snoc r ⟨rfl, ry⟩
theorem KV.drop {kvs : List (κ × V)} {vs : List (κ × Value)} (r : KV kvs vs) (k : κ) : KV (dropK kvs k) (without vs k) := by
  unfold KV at r ⊢
  unfold dropK without
  induction r with
  | nil => exact .nil
  | @cons p q ps qs h t ih =>
    obtain ⟨h1, h2⟩ := h
    rw [List.filter_cons, List.filter_cons]
    by_cases e : p.1 = k
    · have a : ¬ decide (p.1 ≠ k) = true := by simp [e]
      have b : ¬ decide (q.1 ≠ k) = true := by simp [h1.symm.trans e]
      rw [if_neg a, if_neg b]; exact ih
    · have e' : ¬ q.1 = k := fun z => e (h1.trans z)
      have a : decide (p.1 ≠ k) = true := by simp [e]
      have b : decide (q.1 ≠ k) = true := by simp [e']
      rw [if_pos a, if_pos b]; exact .cons ⟨h1, h2⟩ ih
theorem KV.keys {kvs : List (κ × V)} {vs : List (κ × Value)} (r : KV kvs vs) : kvs.map (·.1) = vs.map (·.1) := by
  unfold KV at r
  induction r with
  | nil => rfl
  | cons h t ih => rw [List.map_cons, List.map_cons, ih, h.1]
theorem KV.length {kvs : List (κ × V)} {vs : List (κ × Value)} (r : KV kvs vs) : kvs.length = vs.length := Paired.length r
theorem dropK_le (kvs : List (κ × V)) (k : κ) : (dropK kvs k).length ≤ kvs.length := List.length_filter_le _ _
end


/-! ### a tracked dict, its keys ints and texts or tuples of these -/
theorem kV_is {P : Program} {w : World} {k : Key} {u : Value} (r : RelV (kV k) u) : (mixKind P w).is k u = true := by
  cases k with
  | inl i => obtain ⟨t, e⟩ := (show ∃ t, u = Value.int i t from r); subst e; exact mixKind_int P w i t
  | inr x => obtain ⟨t, e⟩ := (show ∃ t, u = Value.str x t from r); subst e; exact mixKind_str P w x t
theorem kV_inj {a b : Key} (e : kV a = kV b) : a = b := by
  cases a with
  | inl i => cases b with
    | inl j => have e' : V.int i = V.int j := e; injection e' with e'; rw [e']
    | inr y => exact nomatch (show V.int i = V.str y from e)
  | inr x => cases b with
    | inl j => exact nomatch (show V.str x = V.int j from e)
    | inr y => have e' : V.str x = V.str y := e; injection e' with e'; rw [e']
theorem kVs_inj : ∀ {a b : List Key}, a.map kV = b.map kV → a = b
  | [], [], _ => rfl
  | [], _ :: _, e => by simp at e
  | _ :: _, [], e => by simp at e
  | x :: xs, y :: ys, e => by
    rw [List.map_cons, List.map_cons] at e
    injection e with e1 e2
    rw [kV_inj e1, kVs_inj e2]
theorem items_are {P : Program} {w : World} : ∀ {ks : List Key} {us : List Value}, Vals (ks.map kV) us → ItemsAre (mixKind P w) ks us
  | [], _, r => by rw [List.map_nil] at r; cases r; exact .nil
  | k :: ks, _, r => by
    rw [List.map_cons] at r
    cases r with
    | cons h t => exact .cons (kV_is h) (items_are t)

/-- raw entries of a dict with tuple keys -/
abbrev KT (H : Hp) : List (List Key × V) → List (List Key × Addr × Value) → Prop := Paired fun p q => p.1 = q.1 ∧ H q.2.1 = some (.tup (p.1.map kV)) ∧ RelV p.2 q.2.2
theorem KT.val {H : Hp} {kvs : List (List Key × V)} {xs : List (List Key × Addr × Value)} (r : KT H kvs xs) (k : List Key) : RelO (valV kvs k) ((atKey xs k).map (·.2)) := by
  induction r with
  | nil => exact True.intro
  | @cons p q ps qs h t ih =>
    obtain ⟨h1, _, h2⟩ := h
    by_cases e : p.1 = k
    · have e' : q.1 = k := h1.symm.trans e
      have b : atKey (q :: qs) k = some q.2 := by simp [atKey, List.find?_cons, e']
      rw [valV_pos e, b]; exact h2
    · have e' : ¬ q.1 = k := fun z => e (h1.trans z)
      have b : atKey (q :: qs) k = atKey qs k := by simp [atKey, List.find?_cons, e']
      rw [valV_neg e, b]; exact ih
theorem KT.repl {H : Hp} {kvs : List (List Key × V)} {xs : List (List Key × Addr × Value)} (r : KT H kvs xs) (k : List Key) {y : V} {u : Value} (ry : RelV y u) :
    KT H (kvs.map fun kv => if kv.1 = k then (kv.1, y) else kv) (xs.map (putAt k u)) := by
  induction r with
  | nil => exact .nil
  | @cons p q ps qs h t ih =>
    rw [List.map_cons, List.map_cons]
    refine .cons ?_ ih
    obtain ⟨h1, h2, h3⟩ := h
    unfold putAt
    by_cases e : p.1 = k
    · rw [if_pos e, if_pos (h1.symm.trans e)]; exact ⟨h1, h2, ry⟩
    · rw [if_neg e, if_neg (fun z => e (h1.trans z))]; exact ⟨h1, h2, h3⟩
theorem KT.put {H : Hp} {kvs : List (List Key × V)} {xs : List (List Key × Addr × Value)} (r : KT H kvs xs) (k : List Key) {b : Addr} {y : V} {u : Value} (hb : H b = some (.tup (k.map kV))) (ry : RelV y u) :
    KT H (putK kvs k y) (storedH xs k b u) := by
  have e : (kvs.any fun kv => decide (kv.1 = k)) = (atKey xs k).isSome := by
    rw [valV_any, (r.val k).isSome_eq, Option.isSome_map]
  unfold putK storedH
  rw [e]
  by_cases q : (atKey xs k).isSome = true
  · rw [if_pos q, if_pos q]; exact r.repl k ry
  · rw [if_neg q, if_neg q]; exact Paired.snoc r ⟨rfl, hb, ry⟩
theorem KT.keeps {H H' : Hp} {kvs : List (List Key × V)} {xs : List (List Key × Addr × Value)} (r : KT H kvs xs) (ht : ∀ b ys, H b = some (.tup ys) → H' b = some (.tup ys)) : KT H' kvs xs :=
  Paired.mapP r fun _ _ z => ⟨z.1, ht _ _ z.2.1, z.2.2⟩

section
variable {P : Program} {w : World} {H : Hp} {h : Heap} {a : Addr}
theorem rd_of {u : HO} (ok : HOk P w H h) (e : Rd H a u) : ObjOk P w H h a u := e.ok ok
theorem dk_rd {kvs : List (Key × V)} (ok : HOk P w H h) (e : Rd H a (.dK kvs)) : kvs.length ≤ sizeLine ∧ (a == sysModules) = false ∧ ∃ vs, KV kvs vs ∧ h.DictOf (mixKind P w) a vs :=
  show ObjOk P w H h a (.dK kvs) from rd_of ok e
theorem dk_of {kvs : List (Key × V)} (ok : HOk P w H h) (e : H a = some (.dK kvs)) : kvs.length ≤ sizeLine ∧ (a == sysModules) = false ∧ ∃ vs, KV kvs vs ∧ h.DictOf (mixKind P w) a vs := dk_rd ok (.inl e)
/-- a tracked tuple of ints and texts is a key -/
theorem key_of {ks : List Key} (ok : HOk P w H h) (e : H a = some (.tup (ks.map kV))) : (tupleKind (mixKind P w)).is h ks a := by
  obtain ⟨_, its, r, o, h1, h2, n, h3⟩ := (show ObjOk P w H h a (.tup (ks.map kV)) from ok a _ e)
  exact ⟨o, its.toArray, n, h1, h2, h3, by simpa using items_are r⟩
theorem dt_rd {kvs : List (List Key × V)} (ok : HOk P w H h) (e : Rd H a (.dT kvs)) : kvs.length ≤ sizeLine ∧ (a == sysModules) = false ∧
    ∃ xs, KT H kvs xs ∧ h.DictOfH (tupleKind (mixKind P w)) a xs := by
  obtain ⟨z, y, xs, r, o, es, ep, h1, h2, h3, h4, h5⟩ := (show ObjOk P w H h a (.dT kvs) from rd_of ok e)
  refine ⟨z, y, xs, r, o, es, ep, h1, h2, h3, h4, fun x hx => ?_, h5⟩
  have all : ∀ {l : List (List Key × V)} {m : List (List Key × Addr × Value)}, KT H l m → ∀ x ∈ m, (tupleKind (mixKind P w)).is h x.1 x.2.1 := by
    intro l m q
    induction q with
    | nil => intro x hx; exact nomatch hx
    | @cons p q ps qs hq t ih =>
      intro x hx
      rcases List.mem_cons.mp hx with e | hx
      · subst e
        exact key_of ok (by rw [← hq.1]; exact hq.2.1)
      · exact ih x hx
  exact all r x hx
theorem dt_of {kvs : List (List Key × V)} (ok : HOk P w H h) (e : H a = some (.dT kvs)) : kvs.length ≤ sizeLine ∧ (a == sysModules) = false ∧
    ∃ xs, KT H kvs xs ∧ h.DictOfH (tupleKind (mixKind P w)) a xs := dt_rd ok (.inl e)
end

/-- what the dict at a holds at the key y -/
def DGet (H : Hp) (a : Addr) (y : V) (r : Option V) : Prop :=
  (∃ kvs k, Rd H a (.dK kvs) ∧ y = kV k ∧ r = valV kvs k) ∨ ∃ kvs k b, Rd H a (.dT kvs) ∧ y = .ref b ∧ H b = some (.tup (k.map kV)) ∧ r = valV kvs k
/-- the heap behind a[y] = v -/
def DPut (H : Hp) (a : Addr) (y v : V) (H' : Hp) : Prop :=
  (∃ kvs k, H a = some (.dK kvs) ∧ y = kV k ∧ kvs.length < sizeLine ∧ H' = upd H a (.dK (putK kvs k v))) ∨
  ∃ kvs k b, H a = some (.dT kvs) ∧ y = .ref b ∧ H b = some (.tup (k.map kV)) ∧ kvs.length < sizeLine ∧ H' = upd H a (.dT (putK kvs k v))
theorem DGet.k {H : Hp} {a : Addr} {kvs : List (Key × V)} {k : Key} (e : H a = some (.dK kvs)) : DGet H a (kV k) (valV kvs k) := .inl ⟨kvs, k, .inl e, rfl, rfl⟩
theorem DGet.t {H : Hp} {a b : Addr} {kvs : List (List Key × V)} {k : List Key} (e : H a = some (.dT kvs)) (eb : H b = some (.tup (k.map kV))) : DGet H a (.ref b) (valV kvs k) := .inr ⟨kvs, k, b, .inl e, rfl, eb, rfl⟩
theorem DPut.k {H : Hp} {a : Addr} {kvs : List (Key × V)} {k : Key} {v : V} (e : H a = some (.dK kvs)) (hl : kvs.length < sizeLine) : DPut H a (kV k) v (upd H a (.dK (putK kvs k v))) := .inl ⟨kvs, k, e, rfl, hl, rfl⟩
theorem DPut.t {H : Hp} {a b : Addr} {kvs : List (List Key × V)} {k : List Key} {v : V} (e : H a = some (.dT kvs)) (eb : H b = some (.tup (k.map kV))) (hl : kvs.length < sizeLine) :
    DPut H a (.ref b) v (upd H a (.dT (putK kvs k v))) := .inr ⟨kvs, k, b, e, rfl, eb, hl, rfl⟩


section
variable {X : Cx} {pins : List (Addr × Obj)} {σ : St} {H : Hp} {s : Shared} {a : Addr} {y v : V} {u r : Value} {o : Option V} {A : Around} {E : Value → Shared → Prop}

theorem Inv.big (I : Inv X pins σ H s) : sysModules < s.heap.objs.size := by
  have h : mainGlobals < s.heap.objs.size := (I.mod.glob.keeps I.bk).lt
  exact Nat.lt_trans (by decide) h

/-- d[y], there -/
theorem d_getItem {Q : Value → Shared → Prop} (hu : A.units + 1 < cLine) (I : Inv X pins σ H s) (g : DGet H a y (some v)) (ry : RelV y u) (h : ∀ w' s', Inv X pins σ H s' → RelV v w' → Q w' s') :
    wpAny (model X.prog X.w) A (getItem (.ref a) u) Q E s := by
  rcases g with ⟨kvs, k, e, ey, l⟩ | ⟨kvs, k, b, e, ey, eb, l⟩
  · subst ey
    obtain ⟨z, hd, vs, rel, dd⟩ := dk_rd I.hok e
    obtain ⟨w', hw, rw'⟩ := RelO.some_of (v := v) (o := valueAt vs k) (by rw [l]; exact rel.val k)
    exact wpAny_getItem_of (kV_is ry) dd.mapOf hw (h w' _ (I.tok _) rw')
  · subst ey
    cases (show u = Value.ref b from ry)
    obtain ⟨z, hd, xs, rel, dd⟩ := dt_rd I.hok e
    obtain ⟨w', hw, rw'⟩ := RelO.some_of (v := v) (o := (atKey xs k).map (·.2)) (by rw [l]; exact rel.val k)
    obtain ⟨p, hp, hp2⟩ := Option.map_eq_some_iff.mp hw
    refine wpAny_getItem_heap (tupleKind_room_in1 hu) (key_of I.hok eb) dd hp ?_
    rw [hp2]
    exact h w' _ (I.tok _) rw'
/-- y in d -/
theorem d_in {Q : Value → Shared → Prop} (hu : A.units + 1 < cLine) (I : Inv X pins σ H s) (g : DGet H a y o) (ry : RelV y u) (h : ∀ s', Inv X pins σ H s' → Q (.bool o.isSome) s') :
    wpAny (model X.prog X.w) A (compareOp .In u (.ref a)) Q E s := by
  rcases g with ⟨kvs, k, e, ey, l⟩ | ⟨kvs, k, b, e, ey, eb, l⟩
  · subst ey
    obtain ⟨z, hd, vs, rel, dd⟩ := dk_rd I.hok e
    refine wpAny_in_of (kV_is ry) hd dd.mapOf ?_
    rw [← (rel.val k).isSome_eq, ← l]
    exact h _ (I.tok _)
  · subst ey
    cases (show u = Value.ref b from ry)
    obtain ⟨z, hd, xs, rel, dd⟩ := dt_rd I.hok e
    refine wpAny_in_heap (tupleKind_room_in1 hu) (key_of I.hok eb) hd dd ?_
    have q := (rel.val k).isSome_eq
    rw [Option.isSome_map] at q
    rw [← q, ← l]
    exact h _ (I.tok _)
theorem d_notIn {Q : Value → Shared → Prop} (hu : A.units + 1 < cLine) (I : Inv X pins σ H s) (g : DGet H a y o) (ry : RelV y u) (h : ∀ s', Inv X pins σ H s' → Q (.bool (!o.isSome)) s') :
    wpAny (model X.prog X.w) A (compareOp .NotIn u (.ref a)) Q E s := by
  rcases g with ⟨kvs, k, e, ey, l⟩ | ⟨kvs, k, b, e, ey, eb, l⟩
  · subst ey
    obtain ⟨z, hd, vs, rel, dd⟩ := dk_rd I.hok e
    refine wpAny_notIn_of (kV_is ry) hd dd.mapOf ?_
    rw [← (rel.val k).isSome_eq, ← l]
    exact h _ (I.tok _)
  · subst ey
    cases (show u = Value.ref b from ry)
    obtain ⟨z, hd, xs, rel, dd⟩ := dt_rd I.hok e
    refine wpAny_notIn_heap (tupleKind_room_in1 hu) (key_of I.hok eb) hd dd ?_
    have q := (rel.val k).isSome_eq
    rw [Option.isSome_map] at q
    rw [← q, ← l]
    exact h _ (I.tok _)
/-- a dict's object is replaced -/
theorem d_write {h' : Heap} {t' : Nat} {ob : HO} (I : Inv X pins σ H s) (mu : Mut (H a)) (hs : Heap.SameBut a s.heap h') (he : ∃ q, h'.get? a = some q) (new : ObjOk X.prog X.w (upd H a ob) h' a ob) :
    Inv X pins σ (upd H a ob) { s with heap := h', toks := t' } :=
  I.write (x := a) (e := a) mu (.inl rfl) (fun b q hb z => (hs.2 b hb).trans z) he new
theorem dk_new {P : Program} {w : World} {H' : Hp} {h' : Heap} {kvs : List (Key × V)} {vs : List (Key × Value)} (z : kvs.length ≤ sizeLine) (hd : (a == sysModules) = false) (rel : KV kvs vs) (dd : h'.DictOf (mixKind P w) a vs) :
    ObjOk P w H' h' a (.dK kvs) := ⟨z, hd, vs, rel, dd⟩
/-- d[y] = v -/
theorem d_setItem {H' : Hp} {Q : Unit → Shared → Prop} (hu : A.units + 1 < cLine) (I : Inv X pins σ H s) (g : DPut H a y v H') (ry : RelV y u) (rv : RelV v r) (h : ∀ s', Inv X pins σ H' s' → Q () s') :
    wpAny (model X.prog X.w) A (setItem (.ref a) u r) Q E s := by
  rcases g with ⟨kvs, k, e, ey, l, eH⟩ | ⟨kvs, k, b, e, ey, eb, l, eH⟩
  · subst ey eH
    obtain ⟨z, hd, vs, rel, dd⟩ := dk_of I.hok e
    have hz : vs.length ≤ sizeLine := by rw [← rel.length]; exact z
    have hl : (putK kvs k v).length ≤ sizeLine := by have := length_putK kvs k v; omega
    refine wpAny_setItem_pairs (hsz := hz) (kV_is ry) dd fun h' dd' hs => h _ ?_
    have he : ∃ q, h'.get? a = some q := let ⟨q, _, _, hq, _⟩ := dd'; ⟨q, hq⟩
    exact d_write I (by rw [e]; exact True.intro) hs he (dk_new hl hd (rel.put k rv) dd')
  · subst ey eH
    cases (show u = Value.ref b from ry)
    obtain ⟨z, hd, xs, rel, dd⟩ := dt_of I.hok e
    have hz : xs.length ≤ sizeLine := by rw [← Paired.length rel]; exact z
    have hl : (putK kvs k v).length ≤ sizeLine := by have := length_putK kvs k v; omega
    refine wpAny_setItem_heap (hsz := hz) (tupleKind_room_in1 hu) (key_of I.hok eb) dd fun h' dd' hs => h _ ?_
    obtain ⟨q, es, ep, hq, h2, h3, h4, _, h5⟩ := dd'
    refine d_write I (by rw [e]; exact True.intro) hs ⟨q, hq⟩ ⟨hl, hd, _, (rel.put k eb rv).keeps fun c ys ec => ?_, q, es, ep, hq, h2, h3, h4, h5⟩
    rw [upd_ne (ne_of ec e (fun z => nomatch z))]
    exact ec
end

section
variable {X : Cx} {pins : List (Addr × Obj)} {σ : St} {H : Hp} {s : Shared} {a : Addr} {kvs : List (Key × V)} {k : Key} {u : Value} {A : Around} {E : Value → Shared → Prop}
/-- del d[k] -/
theorem d_delItem {Q : Unit → Shared → Prop} (I : Inv X pins σ H s) (e : H a = some (.dK kvs)) (ry : RelV (kV k) u) (l : (valV kvs k).isSome = true) (h : ∀ s', Inv X pins σ (upd H a (.dK (dropK kvs k))) s' → Q () s') :
    wpAny (model X.prog X.w) A (delItem (.ref a) u) Q E s := by
  obtain ⟨z, hd, vs, rel, dd⟩ := dk_of I.hok e
  refine wpAny_delItem_slot dd.typeIs (by decide) PySem.F.slot_dict_delitem
    (call_meetsIn PySem.F.slot_dict_delitem dd.typeIs PySem.F.entry_dict_delitem (PySem.F.args_dict_delitem_2 _ _) (meets_dict_delitem_pairs (mixKind X.prog X.w) a (kV_is ry)) ⟨vs, dd, by rw [← rel.length]; exact z, by rw [← (rel.val k).isSome_eq]; exact l, fun h' dd' hs => h _ ?_⟩)
  have he : ∃ q, h'.get? a = some q := let ⟨q, _, _, hq, _⟩ := dd'; ⟨q, hq⟩
  exact d_write I (by rw [e]; exact True.intro) hs he (dk_new (Nat.le_trans (dropK_le kvs k) z) hd (rel.drop k) dd')
/-- d.pop(k[, x]), there -/
theorem d_pop {v : V} {more : List Value} {Q : Value → Shared → Prop} (I : Inv X pins σ H s) (e : H a = some (.dK kvs)) (ry : RelV (kV k) u) (l : valV kvs k = some v) (hm : more = [] ∨ ∃ x, more = [x])
    (h : ∀ w' s', Inv X pins σ (upd H a (.dK (dropK kvs k))) s' → RelV v w' → Q w' s') : wpAny (model X.prog X.w) A (call (.builtin "dict.pop") (.ref a :: u :: more)) Q E s := by
  obtain ⟨z, hd, vs, rel, dd⟩ := dk_of I.hok e
  obtain ⟨w', hw, rw'⟩ := RelO.some_of (v := v) (o := valueAt vs k) (by rw [← l]; exact rel.val k)
  have hp : (keyPart u).isSome = true := by
    cases k with
    | inl i => obtain ⟨t, q⟩ := (show ∃ t, u = Value.int i t from ry); subst q; rfl
    | inr x => obtain ⟨t, q⟩ := (show ∃ t, u = Value.str x t from ry); subst q; rfl
  have ha : argsOk "dict.pop" ⟨.ref a :: u :: more, []⟩ := by
    rcases hm with q | ⟨x, q⟩
    · subst q; exact PySem.F.args_dict_pop_2 _ _
    · subst q; exact PySem.F.args_dict_pop_3 _ _ _
  refine call_meetsIn PySem.F.slot_dict_pop dd.typeIs PySem.F.entry_dict_pop ha (meets_dict_pop_there (mixKind X.prog X.w) a (kV_is ry) more hm hp)
    ⟨vs, w', dd, by rw [← rel.length]; exact z, hw, fun h' dd' hs => h w' _ ?_ rw'⟩
  have he : ∃ q, h'.get? a = some q := let ⟨q, _, _, hq, _⟩ := dd'; ⟨q, hq⟩
  exact d_write I (by rw [e]; exact True.intro) hs he (dk_new (Nat.le_trans (dropK_le kvs k) z) hd (rel.drop k) dd')
/-- d.pop(k, x), not there -/
theorem d_popD {r : Value} {Q : Value → Shared → Prop} (I : Inv X pins σ H s) (e : H a = some (.dK kvs)) (ry : RelV (kV k) u) (l : valV kvs k = none) (h : ∀ s', Inv X pins σ H s' → Q r s') :
    wpAny (model X.prog X.w) A (call (.builtin "dict.pop") [.ref a, u, r]) Q E s := by
  obtain ⟨z, hd, vs, rel, dd⟩ := dk_of I.hok e
  have hn : valueAt vs k = none := RelO.none_of (by rw [← l]; exact rel.val k)
  have hp : (keyPart u).isSome = true := by
    cases k with
    | inl i => obtain ⟨t, q⟩ := (show ∃ t, u = Value.int i t from ry); subst q; rfl
    | inr x => obtain ⟨t, q⟩ := (show ∃ t, u = Value.str x t from ry); subst q; rfl
  exact call_meetsIn PySem.F.slot_dict_pop dd.typeIs PySem.F.entry_dict_pop (PySem.F.args_dict_pop_3 _ _ _) (meets_dict_pop_default (mixKind X.prog X.w) a (kV_is ry) hd hp r) ⟨vs, dd, hn, h _ (I.tok _)⟩
/-- d.clear() -/
theorem d_clear {Q : Value → Shared → Prop} (I : Inv X pins σ H s) (e : H a = some (.dK kvs)) (h : ∀ s', Inv X pins σ (upd H a (.dK [])) s' → Q .none s') : wpAny (model X.prog X.w) A (call (.builtin "dict.clear") [.ref a]) Q E s := by
  obtain ⟨z, hd, vs, rel, dd⟩ := dk_of I.hok e
  refine call_meetsIn PySem.F.slot_dict_clear dd.typeIs PySem.F.entry_dict_clear (PySem.F.args_dict_clear_1 _) (meets_dict_clear (mixKind X.prog X.w) a) ⟨vs, dd, by rw [← rel.length]; exact z, fun h' dd' hs => h _ ?_⟩
  have he : ∃ q, h'.get? a = some q := let ⟨q, _, _, hq, _⟩ := dd'; ⟨q, hq⟩
  exact d_write (t' := s.toks) I (by rw [e]; exact True.intro) hs he (dk_new (Nat.zero_le _) hd .nil dd')
/-- len(d) -/
theorem d_len {Q : Value → Shared → Prop} (I : Inv X pins σ H s) (e : Rd H a (.dK kvs)) (h : ∀ t s', Inv X pins σ H s' → Q (.int kvs.length t) s') : wpAny (model X.prog X.w) A (call (.builtin "len") [.ref a]) Q E s := by
  obtain ⟨z, hd, vs, rel, dd⟩ := dk_rd I.hok e
  refine call_len_dict hd dd (by rw [← rel.length]; rw [sizeLine_eq] at z; omega) ?_
  rw [← rel.length]
  exact h _ _ (I.tok _)
/-- if d -/
theorem d_truth {Q : Bool → Shared → Prop} (I : Inv X pins σ H s) (e : Rd H a (.dK kvs)) (h : ∀ s', Inv X pins σ H s' → Q (!kvs.isEmpty) s') : wpAny (model X.prog X.w) A (truthy (.ref a)) Q E s := by
  obtain ⟨z, hd, vs, rel, dd⟩ := dk_rd I.hok e
  refine wpAny_truthy_dict hd dd (by rw [← rel.length]; rw [sizeLine_eq] at z; omega) ?_
  have q : kvs.isEmpty = vs.isEmpty := by cases rel <;> rfl
  rw [← q]
  exact h _ (I.tok _)
end


/-! ### readings and rules -/
/-- the element of a subscription, not a slice -/
def NoSl (i : Expr) : Prop := ∀ ov iv, subscripted i false ov iv = operate [ov, iv] (getItem ov iv)
theorem subD_of {prog : Program} {w : World} {A : Around} {E : Value → Shared → Prop} {s : Shared} {env : Env} {value slice : Expr} {pos : Pos} {T id : String} {Q : Value → Shared → Prop}
    (hl : typeLookup (.type T) "__getitem__" = pure (some (.builtin id))) (hs : NoSl slice)
    (h : wpAny (model prog w) A (eval value env) (fun o s₁ => wpAny (model prog w) A (eval slice env) (fun i s₂ => s₂.TypeIs o T ∧ wpAny (model prog w) A (getItem o i) Q E s₂) E s₁) E s) :
    wpAny (model prog w) A (eval (.Subscript value slice pos) env) Q E s := by
  refine Subscript_ (wpAny_mono h (fun o s₁ h₁ => wpAny_mono h₁ (fun i s₂ h₂ => ?_) fun _ _ x => x) fun _ _ x => x)
  obtain ⟨hT, h₂⟩ := h₂
  unfold subscriptTail
  refine wpAny_bind ?_
  rw [getitemInPython_of_ne hT.not_modules]
  refine wpAny_bind (wpAny_specialOf hT hl ?_)
  have fin : wpAny (model prog w) A (subscripted slice false o i) (fun r s₃ => wpAny (model prog w) A (letTemporaryGo value o r >>= fun _ => pure r) Q E s₃) E s₂ := by
    rw [hs o i]
    exact wpAny_operating (wpAny_mono h₂ (fun r s₃ h₃ => wpAny_bind (wpAny_letTemporaryGo (wpAny_pure h₃))) fun _ _ x => x)
  first
    | exact wpAny_pure (wpAny_bind fin)
    | exact wpAny_bind (wpAny_pure (wpAny_bind fin))
    | exact wpAny_bind fin

theorem dict_typeIs {X : Cx} {pins : List (Addr × Obj)} {σ : St} {H : Hp} {s : Shared} {a : Addr} {y : V} {o : Option V} (I : Inv X pins σ H s) (g : DGet H a y o) : s.TypeIs (.ref a) "dict" := by
  rcases g with ⟨kvs, k, e, _, _⟩ | ⟨kvs, k, b, e, _, _, _⟩
  · obtain ⟨_, _, vs, _, dd⟩ := dk_rd I.hok e
    exact dd.typeIs
  · obtain ⟨_, _, xs, _, dd⟩ := dt_rd I.hok e
    exact dd.typeIs
theorem dict_noDict {X : Cx} {pins : List (Addr × Obj)} {σ : St} {H : Hp} {s : Shared} {a : Addr} {y : V} {o : Option V} (I : Inv X pins σ H s) (g : DGet H a y o) :
    ∀ b, Value.ref a = .ref b → ∃ ob, s.heap.get? b = some ob ∧ ob.dict = none := fun b q => by
  cases q
  rcases g with ⟨kvs, k, e, _, _⟩ | ⟨kvs, k, b, e, _, _, _⟩
  · obtain ⟨_, _, vs, _, ob, _, _, h1, h2, _⟩ := dk_rd I.hok e
    exact ⟨ob, h1, h2.2.1⟩
  · obtain ⟨_, _, xs, _, ob, _, _, h1, h2, _⟩ := dt_rd I.hok e
    exact ⟨ob, h1, h2.2.1⟩

/-- d[y] -/
def tDGet (td ty : TE) : TE := fun σ H Q => td σ H fun x H1 => ty σ H1 fun y H2 => ∃ a v, x = .ref a ∧ DGet H2 a y (some v) ∧ Q v H2
/-- y in d, y not in d -/
def tDIn (ty td : TE) : TE := fun σ H Q => ty σ H fun y H1 => td σ H1 fun x H2 => ∃ a o, x = .ref a ∧ DGet H2 a y o ∧ Q (.bl o.isSome) H2
def tDNotIn (ty td : TE) : TE := fun σ H Q => ty σ H fun y H1 => td σ H1 fun x H2 => ∃ a o, x = .ref a ∧ DGet H2 a y o ∧ Q (.bl (!o.isSome)) H2
/-- d[y] = v -/
def sDPut (td ty tv : TE) : TS := fun D σ H => tv σ H fun v H1 => td σ H1 fun x H2 => ty σ H2 fun y H3 => ∃ a H4, x = .ref a ∧ DPut H3 a y v H4 ∧ D.nx σ H4
/-- d[y] op= v -/
def sDAug (td ty tv : TE) (rd : V → V → Hp → VK → Prop) : TS := fun D σ H => td σ H fun x H1 => ty σ H1 fun y H2 => ∃ a v, x = .ref a ∧ DGet H2 a y (some v) ∧
  tv σ H2 fun y2 H3 => rd v y2 H3 fun z H4 => ∃ H5, DPut H4 a y z H5 ∧ D.nx σ H5
/-- del d[y] -/
def sDDel (td ty : TE) : TS := fun D σ H => td σ H fun x H1 => ty σ H1 fun y H2 => ∃ a kvs k, x = .ref a ∧ H2 a = some (.dK kvs) ∧ y = kV k ∧ (valV kvs k).isSome = true ∧ D.nx σ (upd H2 a (.dK (dropK kvs k)))

section
variable {X : Cx} {o i e value : Expr} {pos pos' tpos : Pos} {td ty tv : TE}
theorem pe_dget (hu : X.A.units + 1 < cLine) (ho : PE X o td) (hi : PE X i ty) (hs : NoSl i) : PE X (.Subscript o i pos) (tDGet td ty) := by
  intro pins s σ H Q I h
  refine subD_of PySem.F.slot_dict_getitem.lookup hs (thn (ho pins s σ H _ I h) fun u s1 ⟨x, H1, I1, rx, q1⟩ => thn (hi pins s1 σ H1 _ I1 q1) fun iv s2 ⟨y, H2, I2, ry, a, v, ex, g, q2⟩ => ?_)
  subst ex
  obtain rfl : u = Value.ref a := rx
  exact ⟨dict_typeIs I2 g, d_getItem hu I2 g ry fun w' s3 I3 rw' => ⟨v, H2, I3, rw', q2⟩⟩
theorem pc_din (hu : X.A.units + 1 < cLine) (hi : PE X i ty) (ho : PE X o td) : PC X .In i o (tDIn ty td) := by
  intro pins s σ H Q I h
  refine thn (hi pins s σ H _ I h) fun iv s1 ⟨y, H1, I1, ry, q1⟩ => thn (ho pins s1 σ H1 _ I1 q1) fun u s2 ⟨x, H2, I2, rx, a, ov, ex, g, q2⟩ => ?_
  subst ex
  obtain rfl : u = Value.ref a := rx
  exact d_in hu I2 g ry fun s3 I3 => ⟨.bl ov.isSome, H2, I3, rfl, q2⟩
theorem pc_dnotin (hu : X.A.units + 1 < cLine) (hi : PE X i ty) (ho : PE X o td) : PC X .NotIn i o (tDNotIn ty td) := by
  intro pins s σ H Q I h
  refine thn (hi pins s σ H _ I h) fun iv s1 ⟨y, H1, I1, ry, q1⟩ => thn (ho pins s1 σ H1 _ I1 q1) fun u s2 ⟨x, H2, I2, rx, a, ov, ex, g, q2⟩ => ?_
  subst ex
  obtain rfl : u = Value.ref a := rx
  exact d_notIn hu I2 g ry fun s3 I3 => ⟨.bl (!ov.isSome), H2, I3, rfl, q2⟩
theorem ps_dput (hu : X.A.units + 1 < cLine) (ho : PE X o td) (hi : PE X i ty) (hv : PE X value tv) (hs : swapsWith value (some (.Subscript o i pos')) pos.line X.env = pure false) :
    PS X (.Assign [.Subscript o i pos'] value pos) (sDPut td ty tv) := by
  intro pins s σ H D I h
  refine wpAny_Assign_Subscript (thn (hv pins s σ H _ I h) fun r s1 ⟨v, H1, I1, rv, q1⟩ => thn (ho pins s1 σ H1 _ I1 q1) fun u s2 ⟨x, H2, I2, rx, q2⟩ => thn (hi pins s2 σ H2 _ I2 q2) fun iv s3 ⟨y, H3, I3, ry, a, H4, ex, g, q3⟩ => ?_) hs
  subst ex
  obtain rfl : u = Value.ref a := rx
  exact d_setItem hu I3 g ry rv fun s4 I4 => ⟨σ, H4, I4, q3⟩
theorem ps_daug {op : Operator} {rd : V → V → Hp → VK → Prop} (hu : X.A.units + 1 < cLine) (ho : PE X o td) (hi : PE X i ty) (hv : PE X value tv) (hop : InOp X op rd)
    (ha : ∀ ov iv new, augStore i ov iv new = (do holding [new, ov, iv] (setItem ov iv new); release [new, ov, iv] []; pure .next)) : PS X (.AugAssign (.Subscript o i tpos) op value pos) (sDAug td ty tv rd) := by
  intro pins s σ H D I h
  refine wpAny_AugAssign_SubscriptAny (thn (ho pins s σ H _ I h) fun u s1 ⟨x, H1, I1, rx, q1⟩ => thn (hi pins s1 σ H1 _ I1 q1) fun iv s2 ⟨y, H2, I2, ry, a, v, ex, g, q2⟩ => ?_) ha
  subst ex
  obtain rfl : u = Value.ref a := rx
  refine d_getItem hu I2 g ry fun w' s3 I3 rw' => thn (hv pins s3 σ H2 _ I3 q2) fun w2 s4 ⟨y2, H3, I4, ry2, q3⟩ => thn (hop pins s4 σ H3 v y2 w' w2 _ I4 rw' ry2 q3) fun w3 s5 ⟨z, H4, I5, rz, H5, g5, q4⟩ => ?_
  exact d_setItem hu I5 g5 ry rz fun s6 I6 => ⟨σ, H5, I6, q4⟩
theorem ps_ddel (ho : PE X o td) (hi : PE X i ty) : PS X (.Delete [.Subscript o i tpos] pos) (sDDel td ty) := by
  intro pins s σ H D I h
  refine wpAny_Delete (wpAny_deleteEach_cons (wpAny_delete_Subscript (thn (ho pins s σ H _ I h) fun u s1 ⟨x, H1, I1, rx, q1⟩ => thn (hi pins s1 σ H1 _ I1 q1) fun iv s2 ⟨y, H2, I2, ry, a, kvs, k, ex, e, ey, l, q2⟩ => ?_)))
  subst ex ey
  obtain rfl : u = Value.ref a := rx
  exact d_delItem I2 e ry l fun s3 I3 => wpAny_deleteEach_nil ⟨σ, _, I3, q2⟩
end


/-! ### displays -/
theorem dk_empty {P : Program} {w : World} {H : Hp} (h : Heap) (hb : sysModules < h.objs.size) : ObjOk P w H (h.push { cls := .type "dict", data := .dict #[] }) h.objs.size (.dK []) :=
  ⟨Nat.zero_le _, beq_eq_false_iff_ne.mpr (Ne.symm (Nat.ne_of_lt hb)), [], .nil, Heap.DictOf.new h⟩
theorem dt_empty {P : Program} {w : World} {H : Hp} (h : Heap) (hb : sysModules < h.objs.size) : ObjOk P w H (h.push { cls := .type "dict", data := .dict #[] }) h.objs.size (.dT []) :=
  ⟨Nat.zero_le _, beq_eq_false_iff_ne.mpr (Ne.symm (Nat.ne_of_lt hb)), [], .nil, _, #[], 0, Heap.get?_push_size _ rfl, ⟨rfl, rfl, rfl⟩, rfl, rfl, List.nodup_nil⟩
/-- {}, to be a dict of the kind that is wanted -/
def tDNewK : TE := fun _ H Q => ∀ p, H p = none → Q (.ref p) (upd H p (.dK []))
def tDNewT : TE := fun _ H Q => ∀ p, H p = none → Q (.ref p) (upd H p (.dT []))
section
variable {X : Cx} {pos : Pos}
theorem pe_dnewK : PE X (.Dict [] [] pos) tDNewK := fun pins s σ H Q I h =>
  wpAny_Dict_empty ⟨.ref s.heap.objs.size, _, I.laid (a := s.heap.objs.size) (o := .dK []) (t' := s.toks) (fun _ _ q => Heap.get?_push_of_some _ q) (Nat.le_refl _) (dk_empty s.heap I.big), rfl, h _ (I.hok.fresh (Nat.le_refl _))⟩
theorem pe_dnewT : PE X (.Dict [] [] pos) tDNewT := fun pins s σ H Q I h =>
  wpAny_Dict_empty ⟨.ref s.heap.objs.size, _, I.laid (a := s.heap.objs.size) (o := .dT []) (t' := s.toks) (fun _ _ q => Heap.get?_push_of_some _ q) (Nat.le_refl _) (dt_empty s.heap I.big), rfl, h _ (I.hok.fresh (Nat.le_refl _))⟩
end
/-! ### a dict's pairs: keys that differ -/
section
variable {κ : Type} [DecidableEq κ]
theorem valV_not {kvs : List (κ × V)} {k : κ} (h : valV kvs k = none) : ¬ k ∈ kvs.map (·.1) := by
  intro m
  obtain ⟨p, hp, e⟩ := List.mem_map.mp m
  have q : (kvs.any fun kv => decide (kv.1 = k)) = true := List.any_eq_true.mpr ⟨p, hp, decide_eq_true e⟩
  rw [valV_any, h] at q
  exact absurd q (by simp)
theorem valV_in {kvs : List (κ × V)} {k : κ} {v : V} (h : valV kvs k = some v) : k ∈ kvs.map (·.1) := by
  have q : (kvs.any fun kv => decide (kv.1 = k)) = true := by
    rw [valV_any, h]
    all_goals rfl
  obtain ⟨p, hp, e⟩ := List.any_eq_true.mp q
  exact List.mem_map.mpr ⟨p, hp, of_decide_eq_true e⟩
theorem nd_snoc : ∀ {l : List κ} {k : κ}, l.Nodup → ¬ k ∈ l → (l ++ [k]).Nodup
  | [], k, _, _ => by simp
  | a :: r, k, h, hk => by
    obtain ⟨h1, h2⟩ := List.nodup_cons.mp h
    show (a :: (r ++ [k])).Nodup
    refine List.nodup_cons.mpr ⟨fun m => ?_, nd_snoc h2 fun m => hk (List.mem_cons.mpr (Or.inr m))⟩
    rcases List.mem_append.mp m with q | q
    · exact h1 q
    · exact hk (List.mem_cons.mpr (Or.inl (List.mem_singleton.mp q).symm))
theorem nd_putK {kvs : List (κ × V)} {k : κ} (v : V) (hn : (kvs.map (·.1)).Nodup) (h : valV kvs k = none) : ((putK kvs k v).map (·.1)).Nodup := by
  rw [putK_new v h, List.map_append]
  exact nd_snoc hn (valV_not h)
theorem dropK_pos {p : κ × V} {r : List (κ × V)} {k : κ} (e : p.1 = k) : dropK (p :: r) k = dropK r k := by
  unfold dropK
  rw [List.filter_cons, if_neg (by simp [e])]
theorem dropK_neg {p : κ × V} {r : List (κ × V)} {k : κ} (e : ¬ p.1 = k) : dropK (p :: r) k = p :: dropK r k := by
  unfold dropK
  rw [List.filter_cons, if_pos (by simp [e])]
theorem dropK_no : ∀ {kvs : List (κ × V)} {k : κ}, ¬ k ∈ kvs.map (·.1) → dropK kvs k = kvs
  | [], _, _ => rfl
  | p :: r, k, h => by
    have h' : ¬ k ∈ r.map (·.1) := fun m => by
      obtain ⟨q, hq, e⟩ := List.mem_map.mp m
      exact h (List.mem_map.mpr ⟨q, List.mem_cons.mpr (Or.inr hq), e⟩)
    rw [dropK_neg fun e => h (List.mem_map.mpr ⟨p, List.mem_cons.mpr (Or.inl rfl), e⟩), dropK_no h']
theorem dropK_mem {kvs : List (κ × V)} {k : κ} {p : κ × V} (h : p ∈ dropK kvs k) : p ∈ kvs := (List.mem_filter.mp h).1
theorem nd_dropK : ∀ {kvs : List (κ × V)} {k : κ}, (kvs.map (·.1)).Nodup → ((dropK kvs k).map (·.1)).Nodup
  | [], _, _ => List.nodup_nil
  | p :: r, k, h => by
    have h : (p.1 :: r.map (·.1)).Nodup := h
    obtain ⟨h1, h2⟩ := List.nodup_cons.mp h
    by_cases e : p.1 = k
    · rw [dropK_pos e]
      exact nd_dropK h2
    · rw [dropK_neg e]
      show (p.1 :: (dropK r k).map (·.1)).Nodup
      refine List.nodup_cons.mpr ⟨fun m => h1 ?_, nd_dropK h2⟩
      obtain ⟨q, hq, eq⟩ := List.mem_map.mp m
      exact List.mem_map.mpr ⟨q, dropK_mem hq, eq⟩
theorem dropK_len : ∀ {kvs : List (κ × V)} {k : κ}, (kvs.map (·.1)).Nodup → k ∈ kvs.map (·.1) → (dropK kvs k).length + 1 = kvs.length
  | [], _, _, m => by simp at m
  | p :: r, k, h, m => by
    have h : (p.1 :: r.map (·.1)).Nodup := h
    have m : k = p.1 ∨ k ∈ r.map (·.1) := List.mem_cons.mp m
    obtain ⟨h1, h2⟩ := List.nodup_cons.mp h
    by_cases e : p.1 = k
    · subst e
      rw [dropK_pos rfl, dropK_no h1]
      all_goals rfl
    · have m' : k ∈ r.map (·.1) := m.resolve_left fun z => e z.symm
      have q := dropK_len h2 m'
      rw [dropK_neg e, List.length_cons, List.length_cons]
      omega
end
end L2


namespace L2
open PySem PySem.Spec PyProof.Rows

/-! ### comprehensions: the cells that the block sees -/
def clOf (cells : List (Str × Addr)) : List (Str × NameKind) → List (Str × Addr) → List (Str × Addr)
  | [], acc => acc
  | (n, k) :: r, acc => if k == .free then (match cells.lookup n with | some c => clOf cells r ((n, c) :: acc) | none => clOf cells r acc) else clOf cells r acc

theorem closure_go (env : Env) : ∀ (names : List (Str × NameKind)) (acc : List (Str × Addr)), (∀ y ∈ names, y.2 = .free → ∃ c, env.cells.lookup y.1 = some c) →
    (forIn names acc fun (x : Str × NameKind) (cs : List (Str × Addr)) => (do
      if x.2 == .free then
        let c ← cellOf env x.1
        pure (ForInStep.yield ((x.1, c) :: cs))
      else pure (ForInStep.yield cs) : Sem (ForInStep (List (Str × Addr))))) = pure (clOf env.cells names acc)
  | [], acc, _ => rfl
  | (n, k) :: r, acc, h => by
    have hr : ∀ y ∈ r, y.2 = .free → ∃ c, env.cells.lookup y.1 = some c := fun y hy => h y (List.mem_cons_of_mem _ hy)
    rw [List.forIn_cons]
    by_cases hk : k = .free
    · subst hk
      obtain ⟨c, hc⟩ := h (n, .free) List.mem_cons_self rfl
      have hc' : env.cells.lookup n = some c := hc
      have e1 : cellOf env n = pure c := by unfold cellOf; rw [hc']
      have e2 : clOf env.cells ((n, NameKind.free) :: r) acc = clOf env.cells r ((n, c) :: acc) := by
        show (if (NameKind.free == NameKind.free) = true then (match env.cells.lookup n with | some c => clOf env.cells r ((n, c) :: acc) | none => clOf env.cells r acc) else clOf env.cells r acc) = _
        rw [if_pos (show (NameKind.free == NameKind.free) = true from rfl), hc']
      rw [e2, ← closure_go env r _ hr]
      show (do let x ← (if (NameKind.free == NameKind.free) = true then (do let c ← cellOf env n; pure (ForInStep.yield ((n, c) :: acc))) else pure (ForInStep.yield acc) : Sem (ForInStep (List (Str × Addr)))); _) = _
      rw [if_pos (show (NameKind.free == NameKind.free) = true from rfl), e1]
      rfl
    · have hb : (k == NameKind.free) = false := by simpa using hk
      have e2 : clOf env.cells ((n, k) :: r) acc = clOf env.cells r acc := by
        show (if (k == NameKind.free) = true then _ else clOf env.cells r acc) = _
        rw [hb]; rfl
      rw [e2, ← closure_go env r _ hr]
      show (do let x ← (if (k == NameKind.free) = true then (do let c ← cellOf env n; pure (ForInStep.yield ((n, c) :: acc))) else pure (ForInStep.yield acc) : Sem (ForInStep (List (Str × Addr)))); _) = _
      rw [hb]
      rfl
theorem closure_of {scope : Scope} {env : Env} (h : ∀ y ∈ scope.names, y.2 = .free → ∃ c, env.cells.lookup y.1 = some c) : closureFor scope env = pure (clOf env.cells scope.names []) := by
  have q := closure_go env scope.names [] h
  have e : closureFor scope env = ((forIn scope.names [] fun (x : Str × NameKind) (cs : List (Str × Addr)) => (do
      if x.2 == .free then
        let c ← cellOf env x.1
        pure (ForInStep.yield ((x.1, c) :: cs))
      else pure (ForInStep.yield cs) : Sem (ForInStep (List (Str × Addr))))) >>= fun s => pure s) := rfl
  rw [e, q]
  rfl
/-- what the cells of the block are -/
theorem clOf_look (cells : List (Str × Addr)) : ∀ (names : List (Str × NameKind)) (acc : List (Str × Addr)) (x : Str) (c : Addr), (clOf cells names acc).lookup x = some c →
    acc.lookup x = some c ∨ cells.lookup x = some c
  | [], acc, x, c, h => .inl h
  | (n, k) :: r, acc, x, c, h => by
    unfold clOf at h
    split at h
    · split at h
      · rename_i c' hc
        rcases clOf_look cells r _ x c h with q | q
        · rw [List.lookup_cons] at q
          cases hx : x == n with
          | true =>
            rw [hx] at q
            have e : x = n := by simpa using hx
            subst e
            exact .inr (by rw [hc]; exact q)
          | false =>
            rw [hx] at q
            exact .inl q
        · exact .inr q
      · exact clOf_look cells r _ x c h
    · exact clOf_look cells r _ x c h
theorem clOf_acc (cells : List (Str × Addr)) : ∀ (names : List (Str × NameKind)) (acc : List (Str × Addr)) (x : Str) (c : Addr), cells.lookup x = some c → acc.lookup x = some c → (clOf cells names acc).lookup x = some c
  | [], acc, x, c, _, h => h
  | (n, k) :: r, acc, x, c, hx, h => by
    unfold clOf
    split
    · split
      · rename_i c' hc
        refine clOf_acc cells r _ x c hx ?_
        rw [List.lookup_cons]
        cases e : x == n with
        | true =>
          have e' : x = n := by simpa using e
          subst e'
          rw [hx] at hc
          exact hc.symm
        | false => exact h
      · exact clOf_acc cells r _ x c hx h
    · exact clOf_acc cells r _ x c hx h
theorem clOf_has (cells : List (Str × Addr)) : ∀ (names : List (Str × NameKind)) (acc : List (Str × Addr)) (x : Str) (c : Addr), cells.lookup x = some c → (x, NameKind.free) ∈ names → (clOf cells names acc).lookup x = some c
  | [], acc, x, c, _, h => absurd h (by simp)
  | (n, k) :: r, acc, x, c, hx, h => by
    rcases List.mem_cons.mp h with e | h
    · cases e
      unfold clOf
      rw [if_pos (show (NameKind.free == NameKind.free) = true from rfl), hx]
      exact clOf_acc cells r _ n c hx (by rw [List.lookup_cons]; simp)
    · unfold clOf
      split
      · split
        · exact clOf_has cells r _ x c hx h
        · exact clOf_has cells r _ x c hx h
      · exact clOf_has cells r _ x c hx h

/-! ### how the block's scope reads the names -/
theorem relabel_look {scope : Scope} {env : Env} {x : Str} {k : NameKind} (h : (relabel scope env).names.lookup x = some k) :
    (scope.names.lookup x = some k ∧ ¬ (k = .free ∧ env.scope.kind = .function ∧ env.kindOf x = some .cell)) ∨ (k = .cell ∧ scope.names.lookup x = some .free ∧ env.kindOf x = some .cell) := by
  have all : ∀ names : List (Str × NameKind), (names.map fun (p : Str × NameKind) => if (p.2 == NameKind.free && env.scope.kind == .function && env.kindOf p.1 == some .cell) = true then (p.1, NameKind.cell) else (p.1, p.2)).lookup x = some k →
      (names.lookup x = some k ∧ ¬ (k = .free ∧ env.scope.kind = .function ∧ env.kindOf x = some .cell)) ∨ (k = .cell ∧ names.lookup x = some .free ∧ env.kindOf x = some .cell) := by
    intro names
    induction names with
    | nil => intro h; simp at h
    | cons p r ih =>
      obtain ⟨n, k'⟩ := p
      intro h
      rw [List.map_cons] at h
      dsimp only at h
      by_cases hc : (k' == NameKind.free && env.scope.kind == .function && env.kindOf n == some .cell) = true
      · rw [if_pos hc, List.lookup_cons] at h
        rw [List.lookup_cons]
        cases hx : x == n with
        | true =>
          rw [hx] at h
          have e : x = n := by simpa using hx
          subst e
          simp only [Bool.and_eq_true, beq_iff_eq] at hc
          obtain ⟨⟨h1, h2⟩, h3⟩ := hc
          subst h1
          exact .inr ⟨(Option.some.inj h).symm, rfl, h3⟩
        | false =>
          rw [hx] at h
          exact ih h
      · rw [if_neg hc, List.lookup_cons] at h
        rw [List.lookup_cons]
        cases hx : x == n with
        | true =>
          rw [hx] at h
          have e : x = n := by simpa using hx
          subst e
          have e' : k' = k := Option.some.inj h
          subst e'
          refine .inl ⟨rfl, fun z => hc ?_⟩
          obtain ⟨z1, z2, z3⟩ := z
          rw [z1, z2, z3]
          rfl
        | false =>
          rw [hx] at h
          exact ih h
  exact all scope.names h

/-! ### the block's context -/
def blk (X : Cx) (own : List Str) (scope : Scope) (C : Addr) (s : Shared) (H : Hp) (ex : List Addr) : Cx :=
  { X with N := own ++ X.N, s₀ := s, H₀ := H, env := compEnvC scope (clOf X.env.cells scope.names []) C X.env, outer := X.stack, stack := X.stack, ex := ex, fn := fun _ => false, pn := [], xe := fun _ _ => False }
/-- what of the written scope the rule asks: its locals are its own, it has no cells, its free names are cells (or free) here -/
structure BlkScope (X : Cx) (own : List Str) (scope : Scope) : Prop where
  kind : scope.kind = .function
  nocell : ∀ y ∈ scope.names, y.2 ≠ .cell
  names : ∀ y ∈ scope.names, y.2 = .local → scope.names.lookup y.1 = some .local
  loc : ∀ y ∈ scope.names, y.2 = .local → y.1 ∉ X.N
  free : ∀ y ∈ scope.names, y.2 = .free → X.env.kindOf y.1 = some .cell ∨ X.env.kindOf y.1 = some .free
/-- by computation -/
theorem BlkScope.mk' {X : Cx} {own : List Str} {scope : Scope} {xs : Scope} {N : List Str} (hx : X.env.scope = xs) (hN : X.N = N) (kind : scope.kind = .function) (h : (scope.names.all fun y => (y.2 != .cell) && (y.2 != .local || (scope.names.lookup y.1 == some .local && !N.contains y.1)) && (y.2 != .free || (xs.names.lookup y.1 == some .cell || xs.names.lookup y.1 == some .free))) = true) :
    BlkScope X own scope := by
  subst hx hN
  have q := fun y hy => List.all_eq_true.mp h y hy
  refine ⟨kind, fun y hy e => ?_, fun y hy e => ?_, fun y hy e => ?_, fun y hy e => ?_⟩
  · have := q y hy
    rw [e] at this
    simp at this
  · have := q y hy
    rw [e] at this
    simp at this
    exact this.1
  · have := q y hy
    rw [e] at this
    simp at this
    exact this.2
  · have := q y hy
    rw [e] at this
    simp at this
    rcases this with z | z
    · exact .inl z
    · exact .inr z
end L2

namespace L2
open PySem PySem.Spec PyProof.Rows

section
variable {X : Cx} {pins : List (Addr × Obj)} {σ : St} {H : Hp} {s : Shared} {own : List Str} {scope : Scope} {fp : List Addr}

/-- the block's context stands -/
theorem blk_ok (I : Inv X pins σ H s) (B : BlkScope X own scope) (hf : ∀ b ∈ fp, FpOk X pins H b) {C : Addr} (hC : s.heap.objs.size ≤ C) (hfo : ∀ b ∈ fp, ∃ o, s.heap.get? b = some o) : (blk X own scope C s H fp).Ok := by
  have look : ∀ x c, (clOf X.env.cells scope.names []).lookup x = some c → X.env.cells.lookup x = some c := fun x c h => by
    rcases clOf_look _ _ _ _ _ h with q | q
    · simp at q
    · exact q
  have fz : ∀ b ∈ fp, b ∉ frs X.stack := fun b hb z => by
    obtain ⟨_, f1, f2, _⟩ := hf b hb
    rcases List.mem_cons.mp (I.stkSub b z) with e | e
    · exact f1 e
    · exact f2 e
  refine ⟨I.ok.mod, B.kind, I.ok.glob, I.ok.blt, hC, fun x y c h1 h2 => I.ok.inj x y c (look x c h1) (look y c h2), fun x hx => ?_, fun x c h => absurd h Bool.false_ne_true, I.ok.hd, I.ok.frames, .inl rfl, fun b hb => ?_,
    I.bs, Nat.le_trans I.ok.bsz I.sz, fun b o e hb => ?_, fz, I.stack, I.stkFree⟩
  · have hx' : (relabel scope X.env).names.lookup x = some .cell ∨ (relabel scope X.env).names.lookup x = some .free := hx
    have fr : scope.names.lookup x = some .free ∨ scope.names.lookup x = some .cell := by
      rcases hx' with h | h
      · rcases relabel_look h with ⟨q, _⟩ | ⟨_, q, _⟩
        · exact .inr q
        · exact .inl q
      · rcases relabel_look h with ⟨q, _⟩ | ⟨z, _, _⟩
        · exact .inl q
        · cases z
    rcases fr with q | q
    · have hm := PySem.mem_of_lookup q
      obtain ⟨c, hc⟩ := I.ok.has x (B.free _ hm rfl)
      exact ⟨c, clOf_has _ _ _ _ _ hc hm⟩
    · exact absurd rfl (B.nocell _ (PySem.mem_of_lookup q))
  · obtain ⟨f0, f1, f2, f3, f4, f5⟩ := hf b hb
    obtain ⟨o, ho⟩ := hfo b hb
    exact ⟨Nat.ne_of_lt (Nat.lt_of_lt_of_le (Heap.lt_size ho) hC), fun x c e => f4 x c (look x c e)⟩
  · obtain ⟨f0, f1, f2, f3, f4, f5⟩ := hf b hb
    rcases f3 with z | z
    · exact I.ok.noex b o e z
    · exact absurd (Nat.lt_of_lt_of_le (Nat.lt_of_lt_of_le (Heap.lt_size e) I.ok.bsz) z) (Nat.lt_irrefl _)

/-- the block's first state: D the list that grows, C its names -/
theorem blk_inv (I : Inv X pins σ H s) (B : BlkScope X own scope) (hf : ∀ b ∈ fp, FpOk X pins H b) (hfo : ∀ b ∈ fp, ∃ o, s.heap.get? b = some o) {C D : Addr} {h1 : Heap} {m : Str → Option Value} {oD : Obj} {tk : Nat} (hC : s.heap.objs.size ≤ C) (hD : s.heap.objs.size ≤ D)
    (hDC : D ≠ C) (old : ∀ b o, s.heap.get? b = some o → h1.get? b = some o) (hns : h1.Ns C m) (hoD : h1.get? D = some oD) (hdD : ∀ v, oD.data ≠ .cell v) {os : St} (hos : os = own.map fun _ => none) :
    Inv (blk X own scope C s H fp) [(D, oD)] (os ++ σ) H { s with heap := h1, toks := tk } := by
  have look : ∀ x c, (clOf X.env.cells scope.names []).lookup x = some c → X.env.cells.lookup x = some c := fun x c h => by
    rcases clOf_look _ _ _ _ _ h with q | q
    · simp at q
    · exact q
  have hol : os.length = own.length := by rw [hos]; simp
  refine ⟨blk_ok I B hf hC hfo, rfl, I.bare, Un.kept old, ⟨m, hns, fun i x v e1 e2 e3 => ?_⟩, fun x c e => ?_, I.hok.fresh hC, fun x c e => I.freeC x c (look x c e), fun p hp => ?_, I.hok.kept old, ?_⟩
  · by_cases hi : i < own.length
    · rw [List.getElem?_append_left (by omega), hos, List.getElem?_map] at e2
      cases q : own[i]? with
      | none => rw [q] at e2; cases e2
      | some z => rw [q] at e2; cases e2
    · have e1' : X.N[i - own.length]? = some x := by
        have q : (own ++ X.N)[i]? = some x := e1
        rw [List.getElem?_append_right (by omega)] at q
        exact q
      rw [List.getElem?_append_right (by omega), hol] at e2
      have e3' : (relabel scope X.env).names.lookup x = some .local ∨ (relabel scope X.env).names.lookup x = some .cell ∨ (relabel scope X.env).names.lookup x = some .free := e3
      obtain ⟨mX, hnX, hlX⟩ := I.loc
      have cellOk : ∀ {k : NameKind}, (relabel scope X.env).names.lookup x = some k → (k = .cell ∨ k = .free) → scope.names.lookup x = some .free → (X.env.kindOf x = some .cell ∨ X.env.kindOf x = some .free) →
          ∃ u, RelV v u ∧ Look (blk X own scope C s H fp).env h1 m x u := fun {k} hk hkk hs hx => by
        have vis : Vis X.env.scope x := by
          rcases hx with z | z
          · exact .inr (.inl z)
          · exact .inr (.inr z)
        obtain ⟨u, r, l⟩ := hlX _ x v e1' e2 vis
        refine ⟨u, r, .inr ⟨?_, ?_⟩⟩
        · rcases hkk with z | z
          · rw [z] at hk; exact .inl hk
          · rw [z] at hk; exact .inr hk
        · rcases l with ⟨z, _⟩ | ⟨_, c, hc, hcell⟩
          · rw [z] at hx
            rcases hx with y | y <;> cases y
          · exact ⟨c, clOf_has _ _ _ _ _ hc (PySem.mem_of_lookup hs), hcell.keeps old⟩
      rcases e3' with z | z | z
      · rcases relabel_look z with ⟨q, _⟩ | ⟨q, _, _⟩
        · exact absurd (List.mem_of_getElem? e1') (B.loc _ (PySem.mem_of_lookup q) rfl)
        · cases q
      · rcases relabel_look z with ⟨q, _⟩ | ⟨_, q, q2⟩
        · exact absurd rfl (B.nocell _ (PySem.mem_of_lookup q))
        · exact cellOk z (.inl rfl) q (.inl q2)
      · rcases relabel_look z with ⟨q, _⟩ | ⟨q, _, _⟩
        · exact cellOk z (.inr rfl) q (B.free _ (PySem.mem_of_lookup q) rfl)
        · cases q
  · obtain ⟨v, hv⟩ := I.cell x c (look x c e)
    exact ⟨v, hv.keeps old⟩
  · have hp' : p ∈ ([] : List (Addr × Obj)) ++ [(D, oD)] := hp
    have e : p = (D, oD) := by simpa using hp'
    subst e
    refine ⟨hoD, I.hok.fresh hD, hDC, fun z => ?_, hdD⟩
    have z' : D ∈ frs X.stack := z
    rcases List.mem_cons.mp (I.stkSub D z') with e | e
    · exact absurd I.lt (by rw [← e]; exact Nat.not_lt.mpr hD)
    · exact I.nofs hD e
  · show (os ++ σ).length = (own ++ X.N).length
    rw [List.length_append, List.length_append, hol, I.len]
end
end L2

namespace L2
open PySem PySem.Spec PyProof.Rows

/-- the loop of a list comprehension with one clause, by an invariant and a measure -/
theorem compLoop_any {prog : Program} {w : World} {A : Around} {R : Result → Shared → Prop} {s : Shared} {elt target iter : Expr} {ifs : List Expr} {scope : Scope} {pos : Pos} {it acc : Value} {env : Env} (J : Nat → Shared → Prop)
    (turn : ∀ n s, J n s → wpAny (model prog w) A (pyNext it) (fun r s₁ => match r with
      | none => R (.ok .next) s₁
      | some v => wpAny (model prog w) A (letOwnedTupleGo target it v) (fun _ s₁' => wpAny (model prog w) A (assign target env v) (fun _ s₂ =>
          wpAny (model prog w) A (forIn ifs true fun c r => if r = true then do let ok ← isTrue c env (eval c env); pure (ForInStep.yield ok) else pure (ForInStep.yield r)) (fun ok s₃ =>
            if ok = true then wpAny (model prog w) A (eval elt env) (fun x s₄ =>
              wpAny (model prog w) A (call (.builtin "list.append") [acc, x]) (fun _ s₅ => ∃ m, m < n ∧ J m s₅) (fun _ _ => False) s₄) (fun _ _ => False) s₃
            else ∃ m, m < n ∧ J m s₃) (fun _ _ => False) s₂) (fun _ _ => False) s₁') (fun _ _ => False) s₁) (fun _ _ => False) s)
    (n : Nat) (h : J n s) : codeAny (model prog w) A (.compLoop (.ListComp elt [⟨target, iter, ifs, 0⟩] scope pos) 0 it acc env) R s := by
  refine codeAny_loop rfl J (fun n s hI => ?_) n h
  show wpAny _ A ((compTurn (.ListComp elt [⟨target, iter, ifs, 0⟩] scope pos) 0 it acc env).onRaise (fun x => do noteFrame x env; theTreesLotGoes x)) _ _ s
  refine wpAny_noted ?_
  rw [compTurn_list]
  refine wpAny_bind (wpAny_standAt (wpAny_bind (wpAny_mono (turn n s hI) (fun r s₁ h₁ => ?_) fun _ _ h' => h'.elim)))
  cases r with
  | none => exact wpAny_pure h₁
  | some v =>
    refine wpAny_bind (wpAny_mono h₁ (fun _ s₁' h₁' => wpAny_bind (wpAny_mono h₁' (fun _ s₂ h₂ => wpAny_bind (wpAny_mono h₂ (fun ok s₃ h₃ => ?_) fun _ _ h' => h'.elim)) fun _ _ h' => h'.elim)) fun _ _ h' => h'.elim)
    cases ok with
    | false => exact wpAny_pure ⟨rfl, h₃⟩
    | true =>
      exact wpAny_bind (wpAny_bind (wpAny_mono h₃ (fun x s₄ h₄ => wpAny_bind (wpAny_mono h₄ (fun _ s₅ h₅ => wpAny_pure (wpAny_pure ⟨rfl, h₅⟩)) fun _ _ h' => h'.elim)) fun _ _ h' => h'.elim))

/-- the tests of a clause, none or one -/
def PIfs (X : Cx) (ifs : List Expr) (t : TT) : Prop :=
  ∀ (pins : List (Addr × Obj)) (s : Shared) (σ : St) (H : Hp) (Q : Bool → Hp → Prop), Inv X pins σ H s → t σ H Q →
    wpAny (model X.prog X.w) X.A (forIn ifs true fun c r => if r = true then do let ok ← isTrue c X.env (eval c X.env); pure (ForInStep.yield ok) else pure (ForInStep.yield r)) (TP X pins σ Q) X.xe s
def tNoIf : TT := fun _ H Q => Q true H
theorem pif_nil {X : Cx} : PIfs X [] tNoIf := fun _ _ _ H _ I h => wpAny_tests_nil ⟨H, I, h⟩
theorem pif_one {X : Cx} {c : Expr} {t : TT} (h : PT X c t) : PIfs X [c] t := fun pins s σ H Q I hw => wpAny_tests_one (h pins s σ H Q I hw)

/-- reading: W the invariant (turn, measure, what is collected, heap); the block's own names stand ahead of the slots -/
def CompEnd (J : It) (own : Nat) (g : TG) (tt : TT) (te : TE) (σ : St) (H : Hp) (Q : VK) : Prop := ∃ W : Nat → Nat → List V → Hp → Prop, (∃ m, W 0 m [] H) ∧ ∀ i m ys H (os : St), os.length = own → W i m ys H →
  (J.stop i H ∧ ∀ D, H D = none → Q (.ref D) (upd H D (.lst ys))) ∨
  (J.go i H ∧ ys.length < sizeLine ∧ ∃ N : List V → Hp → Prop, (∀ ys' H', N ys' H' → ∃ m', m' < m ∧ W (i + 1) m' ys' H') ∧
    ∀ x H', J.yld i H x H' → g x (os ++ σ) H' fun σ2 H2 => (∃ os2 : St, os2.length = own ∧ σ2 = os2 ++ σ) ∧ tt σ2 H2 fun b H3 => if b = true then te σ2 H3 fun v H4 => N (ys ++ [v]) H4 else N ys H3)
def tComp (own : Nat) (wi : TI) (g : TG) (tt : TT) (te : TE) : TE := fun σ H Q => wi σ H fun J H1 => CompEnd J own g tt te σ H1 Q

section
variable {X : Cx} {pins : List (Addr × Obj)} {σ : St} {H : Hp} {s : Shared} {own : List Str} {scope : Scope} {fp : List Addr}

theorem wpA {α : Type} {M : Model} {A : Around} {t : Sem α} {Q Q' : α → Shared → Prop} {s : Shared} (h : wpAny M A t Q (fun _ _ => False) s) (hQ : ∀ a s, Q a s → Q' a s) : wpAny M A t Q' (fun _ _ => False) s := wpAny_mono h hQ fun _ _ x => x

/-- behind the block: the frame's own invariant again, the new list tracked -/
theorem blk_done {C D : Addr} {H' : Hp} {s' : Shared} {h' : Heap} {σ' : St} {ys : List V} {its : List Value} {k : Nat} (I : Inv X pins σ H s) (hf : ∀ b ∈ fp, FpOk X pins H b) (hC : s.heap.objs.size ≤ C) (hD : s.heap.objs.size ≤ D) (hDC : D ≠ C)
    (J : Inv (blk X own scope C s H fp) [(D, { cls := .type "list", data := .seq its.toArray k })] σ' H' s') (rv : Vals ys its) (hz : ys.length ≤ sizeLine) (hs : Heap.SameBut C s'.heap h') :
    Inv X pins σ (upd H' D (.lst ys)) { s' with heap := h' } := by
  obtain ⟨pD, hnD, _, _, _⟩ := J.pin (D, _) (List.mem_append_right _ List.mem_cons_self)
  have HD : H D = none := I.hok.fresh hD
  have HC : H' C = none := J.free
  have un := J.base
  have ne : ∀ b o, s.heap.get? b = some o → b ≠ C ∧ b ≠ D := fun b o e => ⟨Nat.ne_of_lt (Nat.lt_of_lt_of_le (Heap.lt_size e) hC), Nat.ne_of_lt (Nat.lt_of_lt_of_le (Heap.lt_size e) hD)⟩
  have up : ∀ b u, s'.heap.get? b = some u → b ≠ C → h'.get? b = some u := fun b u e z => (hs.2 b z).trans e
  refine Inv.call' (s' := { s' with heap := h' }) (ch := fp) I J.os ⟨fun b o e n hb hx => ?_, fun b o e n hb hx => ?_, fun b o e n hx => ?_, fun b o e hx => ?_, fun b xs e => ?_, fun b o u e => ?_, fun b ps e => ?_⟩ ?_ J.bare fun b hb => ?_
  · exact up b o (un.keep b o e n hb hx) (ne b o e).1
  · obtain ⟨sl, q⟩ := un.slot b o e n hb hx
    exact ⟨sl, up b _ q (ne b o e).1⟩
  · rw [upd_ne (ne b o e).2]
    exact un.free b o e n hx
  · obtain ⟨o', q⟩ := un.there b o e hx
    exact ⟨o', up b o' q (ne b o e).1⟩
  · rw [upd_ne (ne_of_none e HD)]
    exact un.tups b xs e
  · rw [upd_ne (ne_of_none e HD)]
    exact un.frzs b o u e
  · rw [upd_ne (ne_of_none e HD)]
    exact un.tbls b ps e
  · intro b u e
    by_cases hb : b = D
    · subst hb
      rw [upd_same] at e
      cases e
      exact ⟨hz, its, k, rv, up _ _ pD hDC⟩
    · rw [upd_ne hb] at e
      refine (J.hok b u e).stay (fun c v hc q => up c v q ?_) (fun c q => ?_) fun c xs q => ?_
      · rintro rfl
        rcases hc with z | z
        · rw [← z, HC] at e; cases e
        · rw [HC] at z; cases z
      · rw [upd_ne (ne_of_none q hnD)]; exact q
      · rw [upd_ne (ne_of_none q hnD)]; exact q
  · obtain ⟨f0, f1, f2, f3, f4, f5⟩ := hf b hb
    exact ⟨f3, f1, f4, f5⟩

/-- the block runs: what comes behind it -/
theorem blk_run {elt tg iter : Expr} {ifs : List Expr} {pos : Pos} {g : TG} {tt : TT} {te : TE} {it : Addr} {tn : Nat → Heap → Prop} {J : It} {Q : VK} {E : Value → Shared → Prop} {RR : Value → Addr → Result → Shared → Prop} (hc : X.calm = true) (I : Inv X pins σ H s) (B : BlkScope X own scope)
    (T : Turn X.prog X.w X.K tg J fp it tn) (st : tn 0 s.heap) (hf : ∀ b ∈ fp, FpOk X pins H b)
    (hg : ∀ C s₀ H₀ ex, PG (blk X own scope C s₀ H₀ ex) tg g) (hi : ∀ C s₀ H₀ ex, PIfs (blk X own scope C s₀ H₀ ex) ifs tt) (he : ∀ C s₀ H₀ ex, PE (blk X own scope C s₀ H₀ ex) elt te)
    (W : Nat → Nat → List V → Hp → Prop) (w0 : ∃ m, W 0 m [] H)
    (turn : ∀ i m ys H (os : St), os.length = own.length → W i m ys H →
      (J.stop i H ∧ ∀ D, H D = none → Q (.ref D) (upd H D (.lst ys))) ∨
      (J.go i H ∧ ys.length < sizeLine ∧ ∃ N : List V → Hp → Prop, (∀ ys' H', N ys' H' → ∃ m', m' < m ∧ W (i + 1) m' ys' H') ∧
        ∀ x H', J.yld i H x H' → g x (os ++ σ) H' fun σ2 H2 => (∃ os2 : St, os2.length = own.length ∧ σ2 = os2 ++ σ) ∧ tt σ2 H2 fun b H3 => if b = true then te σ2 H3 fun v H4 => N (ys ++ [v]) H4 else N ys H3))
    (fin : ∀ (C D : Addr) (s' : Shared) (m : Str → Option Value) (H' : Hp), s'.heap.Ns C m → FpOk X pins H' C → (∀ h', Heap.SameBut C s'.heap h' → Inv X pins σ H' { s' with heap := h' }) → Q (.ref D) H' → RR (.ref D) C (.ok .next) s') :
    wpAny (model X.prog X.w) X.A (newList []) (fun acc s₃ => wpAny (model X.prog X.w) X.A (newFunctionEnv scope X.env.globals (clOf X.env.cells scope.names []) [] X.env.qual none .none (some X.env)) (fun cenv s₄ =>
      codeAny (model X.prog X.w) X.A (.compStart (.ListComp elt [⟨tg, iter, ifs, 0⟩] scope pos) 0 (.ref it) acc { cenv with scope := relabel scope X.env }) (RR acc cenv.locals) s₄) E s₃) E s := by
  have hfo : ∀ b ∈ fp, ∃ o, s.heap.get? b = some o := fun b hb => let ⟨o, e, _⟩ := T.obj _ _ st b hb; ⟨o, e⟩
  refine wpAny_newObj_type (wpAny_newFunctionEnv B.nocell (by intro y hy; simp at hy) (fun h₁ hns₁ hsb₁ => ?_) B.kind)
  dsimp only at hns₁ hsb₁ ⊢
  generalize hH2 : s.heap.push { cls := .type "list", dict := none, data := .seq ([] : List Value).toArray } = H2 at hns₁ hsb₁ ⊢
  have hCe : H2.objs.size = s.heap.objs.size + 1 := by rw [← hH2, Heap.size_push]
  have hDC : s.heap.objs.size ≠ H2.objs.size := by rw [hCe]; exact Nat.ne_of_lt (Nat.lt_succ_self _)
  have hC : s.heap.objs.size ≤ H2.objs.size := by rw [hCe]; exact Nat.le_succ _
  have hD : s.heap.objs.size ≤ s.heap.objs.size := Nat.le_refl _
  have old : ∀ b o, s.heap.get? b = some o → h₁.get? b = some o := fun b o e =>
    hsb₁.extBut b o (by rw [hCe]; exact Nat.ne_of_lt (Nat.lt_succ_of_lt (Heap.lt_size e))) (Heap.get?_push_of_some _ (hH2 ▸ Heap.get?_push_of_some _ e))
  have hoD : h₁.get? s.heap.objs.size = some { cls := .type "list", data := .seq ([] : List Value).toArray 0 } := hsb₁.extBut _ _ hDC (Heap.get?_push_of_some _ (hH2 ▸ Heap.get?_push_size _ rfl))
  have CL : H2.objs.size ≠ X.env.locals := Nat.ne_of_gt (Nat.lt_of_lt_of_le I.lt hC)
  have CF : H2.objs.size ∉ X.fs := I.nofs hC
  generalize hDe : s.heap.objs.size = D at hoD hDC hD CL CF
  generalize H2.objs.size = C at *
  have hC' : s.heap.objs.size ≤ C := hC
  have hD' : s.heap.objs.size ≤ D := by rw [hDe]; exact Nat.le_refl _
  have I0 : Inv (blk X own scope C s H fp) [(D, { cls := .type "list", data := .seq ([] : List Value).toArray 0 })] ((own.map fun _ => none) ++ σ) H { s with heap := h₁, toks := s.toks + ([] : List (Str × Value)).length } :=
    blk_inv I B hf hfo hC' hD' hDC old hns₁ hoD (fun v z => nomatch z) rfl
  have stat : ∀ {H' : Hp} {pl : List (Addr × Obj)}, (∀ p ∈ pl, p.1 = D) → (∀ b ∈ fp, H' b = none) → ∀ b ∈ fp, FpOk (blk X own scope C s H fp) pl H' b := fun {H' pl} hpl hn b hb => by
    have ok := I0.ok
    obtain ⟨o, ho⟩ := hfo b hb
    refine ⟨hn b hb, (ok.exf b hb).1, ok.exfs b hb, .inl hb, fun x c e => (ok.exf b hb).2 x c e, fun p hp => ?_⟩
    have hp' : p ∈ ([] : List (Addr × Obj)) ++ pl := hp
    rw [List.nil_append] at hp'
    rw [hpl p hp', ← hDe]
    exact Nat.ne_of_gt (Heap.lt_size ho)
  have loop : ∀ s₃ : Shared, s₃ = { s with heap := h₁, toks := s.toks + ([] : List (Str × Value)).length } →
      codeAny (model X.prog X.w) X.A (.compLoop (.ListComp elt [⟨tg, iter, ifs, 0⟩] scope pos) 0 (.ref it) (.ref D) (blk X own scope C s H fp).env) (RR (.ref D) C) s₃ := by
    rintro s₃ rfl
    obtain ⟨m0, w0⟩ := w0
    refine compLoop_any (fun n s' => ∃ (i : Nat) (ys : List V) (its : List Value) (k : Nat) (os : St) (H' : Hp), os.length = own.length ∧ Inv (blk X own scope C s H fp) [(D, { cls := .type "list", data := .seq its.toArray k })] (os ++ σ) H' s' ∧ tn i s'.heap ∧
      (∀ b ∈ fp, H' b = none) ∧ Vals ys its ∧ ys.length ≤ sizeLine ∧ W i n ys H') ?_ m0 ⟨0, [], [], 0, _, H, by simp, I0, T.keep _ _ _ st fun b hb o e => old b o e, fun b hb => (hf b hb).1, .nil, Nat.zero_le _, w0⟩
    rintro n s4 ⟨i, ys, its, k, os, H4, hos, I4, st4, fr4, rv4, hz4, w4⟩
    have one : ∀ p ∈ [((D, { cls := .type "list", data := .seq its.toArray k }) : Addr × Obj)], p.1 = D := fun p hp => by
      have e : p = (D, { cls := .type "list", data := .seq its.toArray k }) := by simpa using hp
      rw [e]
    rcases turn i n ys H4 os hos w4 with ⟨stop, qn⟩ | ⟨go, hlt, N, hN, step⟩
    · refine wpAny_mono (T.done (blk X own scope C s H fp) rfl rfl rfl hc i _ s4 _ H4 (fun _ _ => False) I4 (stat one fr4) st4 stop) (fun r s5 ⟨hr, I5⟩ => ?_) fun _ _ z => z
      subst hr
      obtain ⟨m, hn, _⟩ := I5.loc
      obtain ⟨pD, hnD, _, _, _⟩ := I5.pin (D, _) (List.mem_append_right _ List.mem_cons_self)
      refine fin C D s5 m (upd H4 D (.lst ys)) hn (I.fpOk hC' ?_) (fun h' hs => blk_done I hf hC' hD' hDC I5 rv4 hz4 hs) (qn D hnD)
      rw [upd_ne (Ne.symm hDC)]
      exact I5.free
    · refine wpAny_mono (T.item (blk X own scope C s H fp) rfl rfl rfl hc i _ s4 _ H4 (fun _ _ => False) I4 (stat one fr4) st4 go) (fun r s5 ⟨u, hr, h5⟩ => ?_) fun _ _ z => z
      subst hr
      refine wpA h5 fun _ s6 ⟨x, H6, I6, r6, y6, st6, fr6⟩ => ?_
      have I6' := I6.pinned (stat one fr6) (T.obj _ _ st6)
      refine wpA (hg C s H fp _ s6 _ H6 x u _ I6' r6 (step x H6 y6)) fun _ s7 ⟨σ7, H7, I7, ⟨os7, ho7, e7⟩, q7⟩ => ?_
      subst e7
      refine wpA (hi C s H fp _ s7 _ H7 _ I7 q7) fun b s8 ⟨H8, I8, q8⟩ => ?_
      -- what a later turn needs, from the pins
      have back : ∀ {H9 : Hp} {s9 : Shared}, Inv (blk X own scope C s H fp) ([(D, { cls := .type "list", data := .seq its.toArray k })] ++ pinsAt fp s6.heap) (os7 ++ σ) H9 s9 → tn (i + 1) s9.heap ∧ ∀ b ∈ fp, H9 b = none := fun {H9 s9} I9 => by
        refine ⟨T.keep _ _ _ st6 fun b hb o e => (I9.pin (b, o) (List.mem_append_right _ (List.mem_append_right _ (mem_pinsAt hb e)))).1, fun b hb => ?_⟩
        obtain ⟨o, e, d⟩ := T.obj _ _ st6 b hb
        exact (I9.pin (b, o) (List.mem_append_right _ (List.mem_append_right _ (mem_pinsAt hb e)))).2.1
      cases b with
      | false =>
        rw [if_neg Bool.false_ne_true] at q8 ⊢
        obtain ⟨m', hm, w'⟩ := hN _ _ q8
        exact ⟨m', hm, i + 1, ys, its, k, os7, H8, ho7, I8.unpinned, (back I8).1, (back I8).2, rv4, hz4, w'⟩
      | true =>
        rw [if_pos rfl] at q8 ⊢
        refine wpA (he C s H fp _ s8 _ H8 _ I8 q8) fun z s9 ⟨v, H9, I9, r9, q9⟩ => ?_
        obtain ⟨st9, fr9⟩ := back I9
        obtain ⟨pD, hnD, hDL, hDF, _⟩ := I9.pin (D, _) (List.mem_append_right _ (List.mem_append_left _ List.mem_cons_self))
        have hsz : its.toArray.size ≤ sizeLine := by
          rw [List.size_toArray, ← rv4.length]
          exact Nat.le_of_lt hlt
        refine append_at pD (fun h' hs hD' => ?_) hsz
        obtain ⟨m', hm, w'⟩ := hN _ _ q9
        have I10 : Inv (blk X own scope C s H fp) [] (os7 ++ σ) H9 s9 := I9.pins_of fun p hp => nomatch hp
        have I11 : Inv (blk X own scope C s H fp) [] (os7 ++ σ) H9 { s9 with heap := h' } := I10.turned (t' := s9.toks) (it := D) (fun b o hb e => (hs.2 b hb).trans e) hnD hDL
          (.inr (by show s.heap.objs.size ≤ D; rw [hDe]; exact Nat.le_refl _)) (fun x c e z => ?_) (fun p hp => absurd (show p ∈ ([] : List (Addr × Obj)) ++ [] from hp) (by simp))
        · have I12 : Inv (blk X own scope C s H fp) [(D, { cls := .type "list", data := .seq (its ++ [z]).toArray (k + 1) })] (os7 ++ σ) H9 { s9 with heap := h' } := I11.pins_of fun p hp => by
            have e : p = (D, { cls := .type "list", data := .seq (its ++ [z]).toArray (k + 1) }) := by simpa using hp
            subst e
            refine ⟨?_, hnD, hDL, hDF, fun v z => nomatch z⟩
            show h'.get? D = _
            rw [hD']
            simp
          refine ⟨m', hm, i + 1, ys ++ [v], its ++ [z], k + 1, os7, H9, ho7, I12, ?_, fr9, rv4.append (.cons r9 .nil), ?_, w'⟩
          · refine T.keep _ _ _ st9 fun b hb o e => (hs.2 b fun z => ?_).trans e
            obtain ⟨o', ho'⟩ := hfo b hb
            rw [z, ← hDe] at ho'
            exact absurd (Heap.lt_size ho') (Nat.lt_irrefl _)
          · rw [List.length_append]
            exact hlt
        · obtain ⟨v', o', ho', hd'⟩ := I9.cell x c e
          rw [z, pD] at ho'
          cases ho'
          exact nomatch hd'
  exact codeAny_compStart_list (loop _ rfl) (T.self _ 0 _ _ _ (T.keep _ _ _ st fun b hb o e => old b o e) (loop _ rfl))
end
end L2

namespace L2
open PySem PySem.Spec PyProof.Rows

section
variable {X : Cx} {own : List Str} {scope : Scope} {elt tg iter : Expr} {ifs : List Expr} {pos : Pos} {wi : TI} {g : TG} {tt : TT} {te : TE}

theorem closure_ok {pins : List (Addr × Obj)} {σ : St} {H : Hp} {s : Shared} (I : Inv X pins σ H s) (B : BlkScope X own scope) : closureFor scope X.env = pure (clOf X.env.cells scope.names []) :=
  closure_of fun y hy e => I.ok.has y.1 (B.free y hy e)

/-- [elt for tg in iter if c] -/
theorem pe_comp (hc : X.calm = true) (B : BlkScope X own scope) (hi : PI X tg iter wi) (hg : ∀ C s₀ H₀ ex, PG (blk X own scope C s₀ H₀ ex) tg g) (hif : ∀ C s₀ H₀ ex, PIfs (blk X own scope C s₀ H₀ ex) ifs tt)
    (he : ∀ C s₀ H₀ ex, PE (blk X own scope C s₀ H₀ ex) elt te) (hs : ∀ x, foldedSetIterable iter X.env x = pure x := by intro _; rfl) :
    PE X (.ListComp elt [⟨tg, iter, ifs, 0⟩] scope pos) (tComp own.length wi g tt te) := by
  intro pins s σ H Q I h
  rw [eval_ListComp]
  refine wpAny_comprehension_free (use := none) rfl hs (closure_ok I B) B.kind B.names (thn (hi pins s σ H _ I h) fun v s1 h1 => thn h1 fun itv s2 h2 => ?_)
  obtain ⟨it, fp, tn, J, H2, e, I2, T, st2, f2, W, w0, turn⟩ := h2
  subst e
  refine blk_run (RR := fun acc C => compPost (model X.prog X.w) X.A X.xe none (EP X pins σ Q) acc C) hc I2 B T st2 f2 hg hif he W w0 turn ?_
  intro C D s' m H' hn _ inv q
  exact ⟨m, hn, fun h' hs => ⟨.ref D, H', inv h' hs, rfl, q⟩⟩

/-- name = [..]: the name is stored ahead of the block's names' going -/
theorem ps_setComp {j : Nat} {y : Str} {py spos : Pos} (hc : X.calm = true) (hN : X.N.Nodup) (hj : X.N[j]? = some y) (hy : Loc X.env.scope y) (B : BlkScope X own scope) (hi : PI X tg iter wi) (hg : ∀ C s₀ H₀ ex, PG (blk X own scope C s₀ H₀ ex) tg g)
    (hif : ∀ C s₀ H₀ ex, PIfs (blk X own scope C s₀ H₀ ex) ifs tt) (he : ∀ C s₀ H₀ ex, PE (blk X own scope C s₀ H₀ ex) elt te)
    (hsw : swapsWith (.ListComp elt [⟨tg, iter, ifs, 0⟩] scope pos) (some (.Name y py)) spos.line X.env = pure true := by rfl) (hs : ∀ x, foldedSetIterable iter X.env x = pure x := by intro _; rfl)
    (hf : X.fn y = true ∨ X.env.scope.names.lookup y = some .local := by first | exact .inl rfl | exact .inr rfl | assumption) :
    PS X (.Assign [.Name y py] (.ListComp elt [⟨tg, iter, ifs, 0⟩] scope pos) spos) (tAsg (tComp own.length wi g tt te) (gName j)) := by
  intro pins s σ H D I h
  rw [exec_Assign_Name_used _ _ _ _ hsw]
  refine wpAny_bind (wpAny_standAt (wpAny_bind ?_))
  show wpAny _ _ (do let _ ← comprehension (.ListComp elt [⟨tg, iter, ifs, 0⟩] scope pos) scope X.env _ (newList []) false (eval iter X.env) (some (assign (.Name y py) X.env))) _ _ s
  refine wpAny_bind (wpAny_mono (wpAny_comprehension_free (use := some (assign (.Name y py) X.env)) (Q := fun _ s' => SP X pins D .next s') rfl hs (closure_ok I B) B.kind B.names
    (thn (hi pins s σ H _ I h) fun v s1 h1 => thn h1 fun itv s2 h2 => ?_)) (fun _ s' hq => wpAny_pure (wpAny_pure hq)) fun _ _ e => e)
  obtain ⟨it, fp, tn, J, H2, e, I2, T, st2, f2, W, w0, turn⟩ := h2
  subst e
  refine blk_run (RR := fun acc C => compPost (model X.prog X.w) X.A X.xe (some (assign (.Name y py) X.env)) (fun _ s' => SP X pins D .next s') acc C) (Q := fun x H1 => D.nx (σ.set j (some x)) H1) hc I2 B T st2 f2 hg hif he W w0 turn ?_
  intro C L s' m H' hn fc inv q
  show wpAny _ _ (assign (.Name y py) X.env (.ref L)) _ _ s'
  obtain ⟨oC, es, ep, hoC, hdC, hk⟩ := id hn
  have I3 : Inv X pins σ H' s' := inv s'.heap (Heap.SameBut.refl ..)
  have I4 : Inv X (pins ++ [(C, oC)]) σ H' s' := I3.pins_of fun p hp => by
    rcases List.mem_append.mp hp with z | z
    · exact I3.pin p (List.mem_append_right _ z)
    · have e : p = (C, oC) := by simpa using z
      subst e
      exact ⟨hoC, fc.1, fc.2.1, fc.2.2.1, fun v z => by rw [hdC] at z; cases z⟩
  refine wpAny_assign_Name (store_ok I4 hN hj hy (v := .ref L) rfl (fun s'' I5 => ?_) hf)
  have pC := (I5.pin (C, oC) (List.mem_append_right _ (List.mem_append_right _ List.mem_cons_self))).1
  refine ⟨m, ⟨oC, es, ep, pC, hdC, hk⟩, fun h' hs => ⟨_, H', ?_, q⟩⟩
  exact I5.unpinned.turned (t' := s''.toks) (it := C) (fun b o hb e => (hs.2 b hb).trans e) fc.1 fc.2.1 fc.2.2.2.1 fc.2.2.2.2.1 fc.2.2.2.2.2
end
end L2

namespace L2
open PySem PySem.Spec PyProof.Rows

/-! ### for i, x in enumerate(list) -/
def Ite (K : PySem.W.Frag) (a : Addr) : It :=
  ⟨fun i H => ∃ xs x, SqL K H a xs ∧ xs[i]? = some x, fun i H x H' => ∃ p v, H p = none ∧ x = .ref p ∧ H' = upd H p (.tup [.int (i : Int), v]) ∧ ∀ xs, SqL K H a xs → xs[i]? = some v, fun i H => ∃ xs, SqL K H a xs ∧ xs.length ≤ i⟩
theorem turn_enum {P : Program} {w : World} {K : PySem.W.Frag} {elts : List Expr} {k : Nat} {pos : Pos} (a e it : Addr) (hne : e ≠ it) :
    Turn P w K (.Tuple elts k pos) (Ite K a) [e, it] e (fun i h => (∃ old, IsEnum h e it ((i : Nat) : Int) old) ∧ h.IsListIter it a i) where
  mem := by simp
  obj := fun i h st b hb => by
    obtain ⟨⟨old, he⟩, o, e1, c, d⟩ := st
    have hb' : b = e ∨ b = it := by simpa using hb
    rcases hb' with rfl | rfl
    · exact ⟨_, he, fun v z => by
        have z' : Data.fields _ = Data.cell v := z
        cases z'⟩
    · exact ⟨o, e1, fun v z => by rw [d] at z; cases z⟩
  keep := fun i h h' st k => by
    obtain ⟨⟨old, he⟩, hi⟩ := st
    exact ⟨⟨old, k e (by simp) _ he⟩, hi.at fun o z => k it (by simp) o z⟩
  item := by
    intro X hP hw hK hc i pins s σ H E I hf st hg
    subst hP hw hK
    obtain ⟨xs, x, hq, hx⟩ := hg
    obtain ⟨its, rv, p, hz⟩ := I.list hq
    obtain ⟨u, hu, ru⟩ := rv.get hx
    obtain ⟨⟨old, he⟩, hi⟩ := st
    obtain ⟨f0, f1, f2, f3, f4, f5⟩ := hf e (by simp)
    obtain ⟨g0, g1, g2, g3, g4, g5⟩ := hf it (by simp)
    have HP : H s.heap.objs.size = none := I.hok.fresh (Nat.le_refl _)
    have hel : e < s.heap.objs.size := Heap.lt_size he
    refine wpAny_pyNext_enum_item he hi p.isList (x := u) (by simpa using hu) hne fun h' ho hi' ht hsz kk => ?_
    refine ⟨_, rfl, wpAny_letOwnedTupleGo_enum ho fun h'' he' hs' => ?_⟩
    have up : ∀ b o, b ≠ e → b ≠ it → s.heap.get? b = some o → h''.get? b = some o := fun b o h1 h2 q => (hs'.2 b h1).trans (kk b o h1 h2 q)
    have nch : ∀ b, b ∉ [e, it] → b ≠ e ∧ b ≠ it := fun b z => ⟨fun q => z (by simp [q]), fun q => z (by simp [q])⟩
    have Pt : h''.get? s.heap.objs.size = some { cls := .type "tuple", data := .seq #[.int i s.toks, u] } := (hs'.2 _ (Nat.ne_of_gt hel)).trans ht
    have I1 : Inv X pins σ (upd H s.heap.objs.size (.tup [.int (i : Int), x])) { s with heap := h'', toks := s.toks + 1 } := by
      refine I.step (g' := s.gens) (d' := s.drawn) (ch := [e, it]) (fun b hb => ?_) (fun b o _ _ hc q _ => up b o (nch b hc).1 (nch b hc).2 q) (fun b o _ _ hc q _ => ⟨o.slots, up b o (nch b hc).1 (nch b hc).2 q⟩)
        (fun b o _ q n => ?_) (fun b o hc q => ⟨o, up b o (nch b hc).1 (nch b hc).2 q⟩) (fun b ys q => ?_) (fun b o ys q => ?_) (fun b ps q => ⟨#[], ?_⟩) (fun m hm => ?_) (fun b o q => ?_) I.bare
      · have hb' : b = e ∨ b = it := by simpa using hb
        rcases hb' with rfl | rfl
        · exact ⟨f3, f1, f4, f5⟩
        · exact ⟨g3, g1, g4, g5⟩
      · rw [upd_ne (Nat.ne_of_lt (Heap.lt_size q))]; exact n
      · rw [upd_ne (ne_of_none q HP)]; exact q
      · rw [upd_ne (ne_of_none q HP)]; exact q
      · rw [upd_ne (ne_of_none q HP), q]; simp
      · obtain ⟨o, es, ep, ho2, r⟩ := hm
        exact ⟨o, es, ep, up _ o (Ne.symm f1) (Ne.symm g1) ho2, r⟩
      · by_cases hb : b = s.heap.objs.size
        · subst hb
          rw [upd_same] at q
          cases q
          exact ⟨by show 2 ≤ sizeLine; decide, [.int i s.toks, u], .cons ⟨_, rfl⟩ (.cons ru .nil), ⟨_, Pt, rfl, _, rfl⟩⟩
        · rw [upd_ne hb] at q
          refine (I.hok b o q).stay (fun c v hc z => up c v ?_ ?_ z) (fun c z => ?_) fun c ys z => ?_
          · rintro rfl
            rcases hc with r | r
            · rw [← r, f0] at q; cases q
            · rw [f0] at r; cases r
          · rintro rfl
            rcases hc with r | r
            · rw [← r, g0] at q; cases q
            · rw [g0] at r; cases r
          · rw [upd_ne (ne_of_none z HP)]; exact z
          · rw [upd_ne (ne_of_none z HP)]; exact z
    refine ⟨.ref s.heap.objs.size, _, I1, rfl, ⟨_, x, HP, rfl, rfl, fun ys hy => by rw [I.list_inj hy hq]; exact hx⟩, ⟨⟨u, he'⟩, hi'.at fun o z => (hs'.2 it (Ne.symm hne)).trans z⟩, fun b hb => ?_⟩
    have hb' : b = e ∨ b = it := by simpa using hb
    rcases hb' with rfl | rfl
    · rw [upd_ne (Nat.ne_of_lt hel)]; exact f0
    · obtain ⟨o, e1, _⟩ := hi
      rw [upd_ne (Nat.ne_of_lt (Heap.lt_size e1))]; exact g0
  done := by
    intro X hP hw hK hc i pins s σ H E I hf st hg
    subst hP hw hK
    obtain ⟨xs, hq, hx⟩ := hg
    obtain ⟨its, rv, p, hz⟩ := I.list hq
    obtain ⟨⟨old, he⟩, hi⟩ := st
    obtain ⟨g0, g1, g2, g3, g4, g5⟩ := hf it (by simp)
    have hl := rv.length
    exact wpAny_pyNext_enum_end (I.ok.hd hc) he hi p.isList (by simp; omega) fun h' eb => ⟨rfl, I.turned (t' := s.toks) (fun b o hb q => eb b o hb q) g0 g1 g3 g4 g5⟩
  self := fun _ _ _ _ _ st h => by
    obtain ⟨⟨old, he⟩, _⟩ := st
    exact wpAny_pyIter_enum he h

section
variable {X : Cx}
def iEnum (K : PySem.W.Frag) (ta : TA) : TI := fun σ H R => ta σ H fun vs H1 => ∃ a, vs = [.ref a] ∧ (∃ xs, SqL K H1 a xs) ∧ R (Ite K a) H1
theorem pi_enum {a : Expr} {ta : TA} {elts : List Expr} {k : Nat} {p pos tpos : Pos} (hg : Gl X "enumerate") (hm : X.mg "enumerate" = none) (ha : PA X [a] ta) (hs : starEach [a] X.env = [(false, eval a X.env)] := by rfl) :
    PI X (.Tuple elts k tpos) (.Call (.Name "enumerate" p) [a] [] pos) (iEnum X.K ta) := by
  intro pins s σ H R I h
  refine Call_ (ld_blt I hg hm boot_enumerate (PyProof.Rows.callWith_type1 (thn (ha pos pins s σ H _ I h) fun us s1 ⟨vs, H1, I1, r1, q1⟩ => ?_) hs rfl))
  obtain ⟨l, e, ⟨xs, hq⟩, q⟩ := q1
  subst e
  obtain ⟨u, rfl, ru⟩ := vals1 r1
  cases ru
  obtain ⟨its, rv, pl, hz⟩ := I1.list hq
  refine call_enumerate_list pl.isList fun h' he hi hsz kk => ?_
  have I2 : Inv X pins σ H1 { s1 with heap := h' } := I1.kept (t' := s1.toks) kk
  refine wpAny_pyIter_enum he ⟨s1.heap.objs.size + 1, [s1.heap.objs.size + 1, s1.heap.objs.size], _, _, H1, rfl, I2, turn_enum l _ _ (Nat.succ_ne_self _), ⟨⟨_, he⟩, hi⟩, fun b hb => ?_, q⟩
  have hb' : b = s1.heap.objs.size + 1 ∨ b = s1.heap.objs.size := by simpa using hb
  rcases hb' with rfl | rfl
  · exact I1.fpOk (Nat.le_succ _) (I1.hok.fresh (Nat.le_succ _))
  · exact I1.fpOk (Nat.le_refl _) (I1.hok.fresh (Nat.le_refl _))

/-! ### isinstance -/
theorem call_isinst : CallR X (.builtin "isinstance") (fun xs H Q => ∃ x t c b, xs = [x, .ty c] ∧ TyOf X.K H x t ∧ PySem.W.kitOne X.K t (.type c) = some b ∧ Q (.bl b) H) := by
  intro pins s σ H xs us Q I r h
  obtain ⟨x, t, c, b, e, ty, hk, q⟩ := h
  subst e
  obtain ⟨u, w', rfl, ru, rw'⟩ := vals2 r
  cases rw'
  exact isinst_ok I ru ty hk fun tk => ⟨.bl b, H, I.tok tk, rfl, q⟩

/-! ### == and != of made data -/
mutual
inductive Dp (K : PySem.W.Frag) (H : Hp) : V → PyData → Prop where
  | non : Dp K H .non .none
  | bl (b : Bool) : Dp K H (.bl b) (.bool b)
  | int (i : Int) : Dp K H (.int i) (.int i)
  | str (x : Str) : Dp K H (.str x) (.str x)
  | lst {a : Addr} {xs : List V} {ds : List PyData} : SqL K H a xs → Dps K H xs ds → Dp K H (.ref a) (.list ds)
  | tup {a : Addr} {xs : List V} {ds : List PyData} : SqT K H a xs → Dps K H xs ds → Dp K H (.ref a) (.tuple ds)
inductive Dps (K : PySem.W.Frag) (H : Hp) : List V → List PyData → Prop where
  | nil : Dps K H [] []
  | cons {x : V} {xs : List V} {d : PyData} {ds : List PyData} : Dp K H x d → Dps K H xs ds → Dps K H (x :: xs) (d :: ds)
end
mutual
theorem Dp.reads {pins : List (Addr × Obj)} {σ : St} {H : Hp} {s : Shared} (I : Inv X pins σ H s) : ∀ {x : V} {d : PyData} {u : Value}, Dp X.K H x d → RelV x u → ∃ as, Reads s.heap u d as
  | _, _, _, .non, r => by cases r; exact ⟨_, .none⟩
  | _, _, _, .bl b, r => by cases r; exact ⟨_, .bool b⟩
  | _, _, _, .int i, r => by obtain ⟨t, rfl⟩ := r; exact ⟨_, .int i t⟩
  | _, _, _, .str x, r => by obtain ⟨t, rfl⟩ := r; exact ⟨_, .str x t⟩
  | _, _, _, .lst hq hd, r => by
    cases r
    obtain ⟨its, rv, ⟨o, n, e, c, _, d⟩, _⟩ := I.list hq
    obtain ⟨as, h⟩ := Dps.reads I hd rv
    exact ⟨_, .list e c d (by simpa using h)⟩
  | _, _, _, .tup hq hd, r => by
    cases r
    obtain ⟨its, rv, ⟨o, e, c, n, d⟩, _⟩ := I.tuple hq
    obtain ⟨as, h⟩ := Dps.reads I hd rv
    exact ⟨_, .tuple e c d (by simpa using h)⟩
theorem Dps.reads {pins : List (Addr × Obj)} {σ : St} {H : Hp} {s : Shared} (I : Inv X pins σ H s) : ∀ {xs : List V} {ds : List PyData} {us : List Value}, Dps X.K H xs ds → Vals xs us → ∃ as, ReadsAll s.heap us ds as
  | _, _, _, .nil, .nil => ⟨_, .nil⟩
  | _, _, _, .cons hd ht, .cons r rr => by
    obtain ⟨as, h1⟩ := Dp.reads I hd r
    obtain ⟨bs, h2⟩ := Dps.reads I ht rr
    exact ⟨_, .cons h1 h2⟩
end
/-- data that == can compare -/
abbrev shp (d : PyData) : Bool := SeqAt.shaped d
def rEqD (K : PySem.W.Frag) (neg : Bool) : R2 := fun x y H Q => ∃ d e, Dp K H x d ∧ Dp K H y e ∧ shp d = true ∧ shp e = true ∧ Q (.bl (if neg then !PyData.eqv d e else PyData.eqv d e)) H
theorem op_eqD (hu : X.A.units + 64 < cLine) : OpR X (compareOp .Eq) (rEqD X.K false) := by
  intro pins s σ H x y v u Q I rx ry h
  obtain ⟨d, e, hd, he, sd, se, q⟩ := h
  obtain ⟨as, ra⟩ := hd.reads I rx
  obtain ⟨bs, rb⟩ := he.reads I ry
  exact eq_dataH ra rb sd se hu ⟨.bl _, H, I, rfl, q⟩
theorem op_neD (hu : X.A.units + 64 < cLine) : OpR X (compareOp .NotEq) (rEqD X.K true) := by
  intro pins s σ H x y v u Q I rx ry h
  obtain ⟨d, e, hd, he, sd, se, q⟩ := h
  obtain ⟨as, ra⟩ := hd.reads I rx
  obtain ⟨bs, rb⟩ := he.reads I ry
  exact ne_dataH ra rb sd se hu ⟨.bl _, H, I, rfl, q⟩
/-- the same data on both sides -/
theorem eqD_same {K : PySem.W.Frag} {H : Hp} {x y : V} {d : PyData} {Q : VK} (hx : Dp K H x d) (hy : Dp K H y d) (sd : shp d = true) (q : Q (.bl true) H) : rEqD K false x y H Q :=
  ⟨d, d, hx, hy, sd, sd, by rw [if_neg Bool.false_ne_true, SeqAt.eqv_refl d (SeqAt.canLay_of_shaped sd)]; exact q⟩
theorem neD_same {K : PySem.W.Frag} {H : Hp} {x y : V} {d : PyData} {Q : VK} (hx : Dp K H x d) (hy : Dp K H y d) (sd : shp d = true) (q : Q (.bl false) H) : rEqD K true x y H Q :=
  ⟨d, d, hx, hy, sd, sd, by rw [if_pos rfl, SeqAt.eqv_refl d (SeqAt.canLay_of_shaped sd)]; exact q⟩
theorem dps_ints {K : PySem.W.Frag} {H : Hp} : ∀ ns : List Int, Dps K H (ns.map V.int) (ns.map PyData.int)
  | [] => .nil
  | n :: r => .cons (.int n) (dps_ints r)
theorem dp_ints {K : PySem.W.Frag} {H : Hp} {a : Addr} {ns : List Int} (h : SqL K H a (ns.map V.int)) : Dp K H (.ref a) (.list (ns.map PyData.int)) := .lst h (dps_ints ns)
end
end L2

namespace L2
open PySem PySem.Spec PyProof.Rows
variable [TabPar]

/-! ### defs by name -/
/-- the text has the def x with these parameters -/
def Tx (K : PySem.W.Frag) (mg : Str → Option Value) (x : Str) (ps : List Str) (st : Stmt) : Prop := ∃ f fd, Fun K x x st f fd ∧ Binds K fd ps [] ∧ mg x = some (.ref f)
/-- the def x keeps its promise with k calls -/
def Df (P : Program) (w : World) (K : PySem.W.Frag) (mg : Str → Option Value) (base : Heap) (k : Nat) (x : Str) (ps : List Str) (sp : Sp) : Prop :=
  ∃ f fd, FnOk P w K mg base CX0 k f fd ps sp ∧ Binds K fd ps [] ∧ PySem.W.keepIn K (.ref f) = true ∧ mg x = some (.ref f) ∧ ∃ (oc : Value) (od : Option Addr) (osl : Array (Option Value)), K.lookup f = some ⟨oc, od, .func fd, osl⟩
section
variable {P : Program} {w : World} {K : PySem.W.Frag} {mg : Str → Option Value} {base : Heap} {x : Str} {ps N : List Str} {st : Stmt} {k : Nat} {sp : Sp}
theorem Df.mono {j : Nat} (D : Df P w K mg base j x ps sp) (h : j ≤ k) : Df P w K mg base k x ps sp := by
  obtain ⟨f, fd, F, b, kp, m, z⟩ := D
  exact ⟨f, fd, F.mono h, b, kp, m, z⟩
theorem Tx.ok (T : Tx K mg x ps st) (S : FnScope N ps (defScope st)) (len : ∀ vs H Q E, sp vs H Q E → vs.length = ps.length)
    (hbody : ∀ (f : Addr) (cdv : Value) (A : Around) (outer : List Env) (s : Shared) (H : Hp) (vs : List V) (Q : VK) (E : XK), Room k (A.deeper (envOfC x (defScope st) s.heap.objs.size f cdv)) → sp vs H Q E →
      ∃ t, PSs (cxOf CX0 P w K mg base N x (defScope st) f cdv A outer s H E).nox (defBody st) t ∧ t { nx := fun _ H' => Q .non H', rt := Q } (start N vs) H) : Df P w K mg base (k + 1) x ps sp := by
  obtain ⟨f, fd, F, b, m⟩ := T
  obtain ⟨oc, od, kV, doc, pm, an, cdv, ct, osl, _, lk, _⟩ := F.ex
  exact ⟨f, fd, F.ok S len (hbody f), b, F.kp, m, oc, od, osl, lk⟩
end
section
variable {X : Cx} {k : Nat} {x : Str} {ps : List Str} {sp : Sp} {p pos : Pos} {e : Expr} {es : List Expr} {t : TA}
theorem pe_callD (D : Df X.prog X.w X.K X.mg X.base k x ps sp) (hr : Room k X.A) (hg : Gl X x) (ha : PA X (e :: es) t) (hdb : (x == ("__debug__" : Str)) = false := by decide)
    (he : starEach (e :: es) X.env = (false, eval e X.env) :: starEach es X.env := by rfl) (hpl : (backTo pos (starEach es X.env)).any (·.1) = false := by rfl) :
    PE X (.Call (.Name x p) (e :: es) [] pos) (tCall sp [] E0 t) := by
  obtain ⟨f, fd, F, b, kp, m, _⟩ := D
  exact pe_call F hr hg m kp b .nil pass0 ha hdb he hpl
theorem pe_callD0 (D : Df X.prog X.w X.K X.mg X.base k x ps sp) (hr : Room k X.A) (hg : Gl X x) (hdb : (x == ("__debug__" : Str)) = false := by decide) : PE X (.Call (.Name x p) [] [] pos) (tCall sp [] E0 tNil) := by
  obtain ⟨f, fd, F, b, kp, m, _⟩ := D
  exact pe_call0 F hr hg m kp b .nil pass0 hdb
/-- a number at the module's top -/
def Cst (mg : Str → Option Value) (x : Str) (i : Int) : Prop := ∃ u, mg x = some u ∧ RelV (.int i) u
theorem pe_cst {i : Int} (c : Cst X.mg x i) (hg : Gl X x) (hd : (x == ("__debug__" : Str)) = false := by decide) : PE X (.Name x pos) (tC (.int i)) := by
  obtain ⟨u, hm, r⟩ := c
  exact pe_glob hg hm r hd
end
/-- a new list comes back, all else as it was -/
def retL (H : Hp) (xs : List V) (Q : VK) : Prop := ∀ r H', H r = none → Same H H' → H' r = some (.lst xs) → Q (.ref r) H'

theorem len_filt {α : Type} (P : Nat → Bool) (F : Nat → α) (i : Nat) : (((List.range i).filter P).map F).length ≤ i := by
  rw [List.length_map]
  exact Nat.le_trans (List.length_filter_le _ _) (by rw [List.length_range]; exact Nat.le_refl _)
theorem filt_yes {α : Type} (P : Nat → Bool) (F : Nat → α) (i : Nat) (h : P i = true) : ((List.range (i + 1)).filter P).map F = ((List.range i).filter P).map F ++ [F i] := by
  rw [List.range_succ, List.filter_append, List.map_append]
  simp [h]
theorem filt_no {α : Type} (P : Nat → Bool) (F : Nat → α) (i : Nat) (h : P i = false) : ((List.range (i + 1)).filter P).map F = ((List.range i).filter P).map F := by
  rw [List.range_succ, List.filter_append, List.map_append]
  simp [h]

/-! ### the forms of comprehensions that one uses: place i is kept where P i, and gives F i -/
section
variable {K : PySem.W.Frag} {σ : St} {H : Hp} {Q : VK} {a : Addr} {xs : List V} {tt : TT} {te : TE}
abbrev g2 (K : PySem.W.Frag) : TG := gTup K 2 (gCons (gName 0) (gCons (gName 1) gNil))
theorem comp_enum (P : Nat → Bool) (F : Nat → V) (hq : SqL K H a xs) (hl : xs.length ≤ 1000)
    (step : ∀ (i : Nat) (x : V) (H1 : Hp) (R : List V → Hp → Prop) ys, xs[i]? = some x → Same H H1 → (∀ H4, Same H1 H4 → P i = true → R (ys ++ [F i]) H4) → (∀ H4, Same H1 H4 → P i = false → R ys H4) →
      tt (some (.int (i : Int)) :: some x :: σ) H1 fun b H3 => if b = true then te (some (.int (i : Int)) :: some x :: σ) H3 fun v H4 => R (ys ++ [v]) H4 else R ys H3)
    (fin : retL H (((List.range xs.length).filter P).map F) Q) : CompEnd (Ite K a) 2 (g2 K) tt te σ H Q := by
  refine ⟨fun i m ys H1 => m = xs.length - i ∧ i ≤ xs.length ∧ Same H H1 ∧ ys = ((List.range i).filter P).map F, ⟨xs.length, by simp, Nat.zero_le _, Same.refl H, rfl⟩, ?_⟩
  rintro i m ys H1 os hos ⟨rfl, hi, hs, rfl⟩
  have q := hs.seq hq
  by_cases hlt : i < xs.length
  · refine .inr ⟨⟨xs, xs[i], q, by simp [hlt]⟩, small1000 (Nat.le_trans (len_filt P F i) (by omega)), fun ys' H' => Same H H' ∧ ys' = ((List.range (i + 1)).filter P).map F, fun ys' H' ⟨h1, h2⟩ => ⟨xs.length - (i + 1), by omega, rfl, hlt, h1, h2⟩, ?_⟩
    rintro x H' ⟨p, v, hp, rfl, rfl, hv⟩
    have hx := hv xs q
    obtain ⟨o1, o2, rfl⟩ : ∃ o1 o2, os = [o1, o2] := by
      match os, hos with
      | [o1, o2], _ => exact ⟨o1, o2, rfl⟩
    have hs' : Same H (upd H1 p (.tup [.int (i : Int), v])) := hs.trans (same_new hp _)
    refine ⟨p, _, rfl, SqT.of upd_same, rfl, _, _, rfl, _, _, rfl, rfl, ⟨[some (.int (i : Int)), some v], rfl, rfl⟩, ?_⟩
    refine step i v _ (fun ys' H' => Same H H' ∧ ys' = ((List.range (i + 1)).filter P).map F) (((List.range i).filter P).map F) hx hs' (fun H4 h4 hP => ⟨hs'.trans h4, (filt_yes P F i hP).symm⟩) fun H4 h4 hP => ⟨hs'.trans h4, (filt_no P F i hP).symm⟩
  · have e : i = xs.length := by omega
    subst e
    exact .inl ⟨⟨xs, q, Nat.le_refl _⟩, fun D hD => fin D _ (hs.free hD) (hs.trans (same_new hD _)) upd_same⟩
theorem comp_list (P : Nat → Bool) (F : Nat → V) (hq : SqL K H a xs) (hl : xs.length ≤ 1000)
    (step : ∀ (i : Nat) (x : V) (H1 : Hp) (R : List V → Hp → Prop) ys, xs[i]? = some x → Same H H1 → (∀ H4, Same H1 H4 → P i = true → R (ys ++ [F i]) H4) → (∀ H4, Same H1 H4 → P i = false → R ys H4) →
      tt (some x :: σ) H1 fun b H3 => if b = true then te (some x :: σ) H3 fun v H4 => R (ys ++ [v]) H4 else R ys H3)
    (fin : retL H (((List.range xs.length).filter P).map F) Q) : CompEnd (Itl K a) 1 (gName 0) tt te σ H Q := by
  refine ⟨fun i m ys H1 => m = xs.length - i ∧ i ≤ xs.length ∧ Same H H1 ∧ ys = ((List.range i).filter P).map F, ⟨xs.length, by simp, Nat.zero_le _, Same.refl H, rfl⟩, ?_⟩
  rintro i m ys H1 os hos ⟨rfl, hi, hs, rfl⟩
  have q := hs.seq hq
  by_cases hlt : i < xs.length
  · refine .inr ⟨⟨xs, xs[i], q, by simp [hlt]⟩, small1000 (Nat.le_trans (len_filt P F i) (by omega)), fun ys' H' => Same H H' ∧ ys' = ((List.range (i + 1)).filter P).map F, fun ys' H' ⟨h1, h2⟩ => ⟨xs.length - (i + 1), by omega, rfl, hlt, h1, h2⟩, ?_⟩
    rintro x H' ⟨rfl, hv⟩
    have hx := hv xs q
    obtain ⟨o1, rfl⟩ : ∃ o1, os = [o1] := by
      match os, hos with
      | [o1], _ => exact ⟨o1, rfl⟩
    refine ⟨⟨[some x], rfl, rfl⟩, ?_⟩
    refine step i x _ (fun ys' H' => Same H H' ∧ ys' = ((List.range (i + 1)).filter P).map F) (((List.range i).filter P).map F) hx hs (fun H4 h4 hP => ⟨hs.trans h4, (filt_yes P F i hP).symm⟩) fun H4 h4 hP => ⟨hs.trans h4, (filt_no P F i hP).symm⟩
  · have e : i = xs.length := by omega
    subst e
    exact .inl ⟨⟨xs, q, Nat.le_refl _⟩, fun D hD => fin D _ (hs.free hD) (hs.trans (same_new hD _)) upd_same⟩
/-- for a, b in a list of pairs -/
theorem comp_list2 (P : Nat → Bool) (F : Nat → V) (hq : SqL K H a xs) (hl : xs.length ≤ 1000)
    (step : ∀ (i : Nat) (x : V) (H1 : Hp) (R : List V → Hp → Prop) ys, xs[i]? = some x → Same H H1 → (∀ H4, Same H1 H4 → P i = true → R (ys ++ [F i]) H4) → (∀ H4, Same H1 H4 → P i = false → R ys H4) →
      ∃ p u v, x = .ref p ∧ SqT K H1 p [u, v] ∧ tt (some u :: some v :: σ) H1 fun b H3 => if b = true then te (some u :: some v :: σ) H3 fun v H4 => R (ys ++ [v]) H4 else R ys H3)
    (fin : retL H (((List.range xs.length).filter P).map F) Q) : CompEnd (Itl K a) 2 (g2 K) tt te σ H Q := by
  refine ⟨fun i m ys H1 => m = xs.length - i ∧ i ≤ xs.length ∧ Same H H1 ∧ ys = ((List.range i).filter P).map F, ⟨xs.length, by simp, Nat.zero_le _, Same.refl H, rfl⟩, ?_⟩
  rintro i m ys H1 os hos ⟨rfl, hi, hs, rfl⟩
  have q := hs.seq hq
  by_cases hlt : i < xs.length
  · refine .inr ⟨⟨xs, xs[i], q, by simp [hlt]⟩, small1000 (Nat.le_trans (len_filt P F i) (by omega)), fun ys' H' => Same H H' ∧ ys' = ((List.range (i + 1)).filter P).map F, fun ys' H' ⟨h1, h2⟩ => ⟨xs.length - (i + 1), by omega, rfl, hlt, h1, h2⟩, ?_⟩
    rintro x H' ⟨rfl, hv⟩
    have hx := hv xs q
    obtain ⟨o1, o2, rfl⟩ : ∃ o1 o2, os = [o1, o2] := by
      match os, hos with
      | [o1, o2], _ => exact ⟨o1, o2, rfl⟩
    obtain ⟨p, u, v, rfl, ht, z⟩ := step i x _ (fun ys' H' => Same H H' ∧ ys' = ((List.range (i + 1)).filter P).map F) (((List.range i).filter P).map F) hx hs (fun H4 h4 hP => ⟨hs.trans h4, (filt_yes P F i hP).symm⟩) fun H4 h4 hP => ⟨hs.trans h4, (filt_no P F i hP).symm⟩
    exact ⟨p, _, rfl, ht, rfl, _, _, rfl, _, _, rfl, rfl, ⟨[some u, some v], rfl, rfl⟩, z⟩
  · have e : i = xs.length := by omega
    subst e
    exact .inl ⟨⟨xs, q, Nat.le_refl _⟩, fun D hD => fin D _ (hs.free hD) (hs.trans (same_new hD _)) upd_same⟩
theorem comp_range {lo : Int} {n : Nat} (P : Nat → Bool) (F : Nat → V) (hl : n ≤ 1000)
    (step : ∀ (i : Nat) (H1 : Hp) (R : List V → Hp → Prop) ys, i < n → Same H H1 → (∀ H4, Same H1 H4 → P i = true → R (ys ++ [F i]) H4) → (∀ H4, Same H1 H4 → P i = false → R ys H4) →
      tt (some (.int (lo + (i : Int))) :: σ) H1 fun b H3 => if b = true then te (some (.int (lo + (i : Int))) :: σ) H3 fun v H4 => R (ys ++ [v]) H4 else R ys H3)
    (fin : retL H (((List.range n).filter P).map F) Q) : CompEnd (Itr lo n) 1 (gName 0) tt te σ H Q := by
  refine ⟨fun i m ys H1 => m = n - i ∧ i ≤ n ∧ Same H H1 ∧ ys = ((List.range i).filter P).map F, ⟨n, by simp, Nat.zero_le _, Same.refl H, rfl⟩, ?_⟩
  rintro i m ys H1 os hos ⟨rfl, hi, hs, rfl⟩
  by_cases hlt : i < n
  · refine .inr ⟨hlt, small1000 (Nat.le_trans (len_filt P F i) (by omega)), fun ys' H' => Same H H' ∧ ys' = ((List.range (i + 1)).filter P).map F, fun ys' H' ⟨h1, h2⟩ => ⟨n - (i + 1), by omega, rfl, hlt, h1, h2⟩, ?_⟩
    rintro x H' ⟨rfl, rfl⟩
    obtain ⟨o1, rfl⟩ : ∃ o1, os = [o1] := by
      match os, hos with
      | [o1], _ => exact ⟨o1, rfl⟩
    refine ⟨⟨[some (.int (lo + (i : Int)))], rfl, rfl⟩, ?_⟩
    refine step i _ (fun ys' H' => Same H H' ∧ ys' = ((List.range (i + 1)).filter P).map F) (((List.range i).filter P).map F) hlt hs (fun H4 h4 hP => ⟨hs.trans h4, (filt_yes P F i hP).symm⟩) fun H4 h4 hP => ⟨hs.trans h4, (filt_no P F i hP).symm⟩
  · have e : i = n := by omega
    subst e
    exact .inl ⟨Nat.le_refl _, fun D hD => fin D _ (hs.free hD) (hs.trans (same_new hD _)) upd_same⟩
end
theorem filt_all {α : Type} (F : Nat → α) (n : Nat) : ((List.range n).filter fun _ => true).map F = (List.range n).map F := by
  rw [List.filter_eq_self.mpr fun _ _ => rfl]
end L2

namespace L2
open PySem PySem.Spec PyProof.Rows
variable [TabPar]
/-! ### the rules whose reading names the fragment, within a block -/
section
variable {X : Cx} {own : List Str} {scope : Scope} {C : Addr} {s₀ : Shared} {H₀ : Hp} {ex : List Addr}
theorem op_inB : OpR (blk X own scope C s₀ H₀ ex) (compareOp .In) (rIn X.K false) := op_in_seq
theorem op_notInB : OpR (blk X own scope C s₀ H₀ ex) (compareOp .NotIn) (rIn X.K true) := op_notIn_seq
theorem pg_tupB {pos : Pos} {es : List Expr} {k : Nat} {t : TGs} {n : Nat} (hc : X.calm = true) (h : PGs (blk X own scope C s₀ H₀ ex) es t)
    (hn : (assignEach es (blk X own scope C s₀ H₀ ex).env).length = n := by rfl) (hst : (assignEach es (blk X own scope C s₀ H₀ ex).env).findIdx? (·.1) = none := by rfl) : PG (blk X own scope C s₀ H₀ ex) (.Tuple es k pos) (gTup X.K n t) := pg_tup hc h hn hst
/-- for x, y in: the block's own two names -/
theorem pg2B {x y : Str} {px py pos : Pos} {k : Nat} {zs : List Str} (hc : X.calm = true) (nd : List.Nodup (x :: y :: zs)) (ho : (blk X own scope C s₀ H₀ ex).N = x :: y :: zs := by rfl) (hx : Loc (blk X own scope C s₀ H₀ ex).env.scope x := by exact Or.inl rfl) (hy : Loc (blk X own scope C s₀ H₀ ex).env.scope y := by exact Or.inl rfl)
    (hx' : (blk X own scope C s₀ H₀ ex).env.scope.names.lookup x = some .local := by rfl) (hy' : (blk X own scope C s₀ H₀ ex).env.scope.names.lookup y = some .local := by rfl) : PG (blk X own scope C s₀ H₀ ex) (.Tuple [.Name x px, .Name y py] k pos) (g2 X.K) :=
  pg_tupB (n := 2) hc (pgs_cons (pg_name (i := 0) (by rw [ho]; exact nd) (by rw [ho]; rfl) hx (.inr hx')) (pgs_cons (pg_name (i := 1) (by rw [ho]; exact nd) (by rw [ho]; rfl) hy (.inr hy')) pgs_nil))
/-- for x in: the block's own name -/
theorem pg1B {x : Str} {px : Pos} {zs : List Str} (nd : List.Nodup (x :: zs)) (ho : (blk X own scope C s₀ H₀ ex).N = x :: zs := by rfl) (hx : Loc (blk X own scope C s₀ H₀ ex).env.scope x := by exact Or.inl rfl)
    (hx' : (blk X own scope C s₀ H₀ ex).env.scope.names.lookup x = some .local := by rfl) : PG (blk X own scope C s₀ H₀ ex) (.Name x px) (gName 0) :=
  pg_name (i := 0) (by rw [ho]; exact nd) (by rw [ho]; rfl) hx (.inr hx')
theorem ix_listB : IxR (blk X own scope C s₀ H₀ ex) (rIxL X.K) := ix_list
theorem ix_tupB : IxR (blk X own scope C s₀ H₀ ex) (rIxT X.K) := ix_tup
theorem call_lenB : CallR (blk X own scope C s₀ H₀ ex) (.builtin "len") (fun xs H Q => ∃ p ys, xs = [.ref p] ∧ (SqL X.K H p ys ∨ SqT X.K H p ys) ∧ Q (.int ys.length) H) := call_len_seq
theorem call_listB : CallR (blk X own scope C s₀ H₀ ex) (.type "list") (fun xs H Q => ∃ p ys, xs = [.ref p] ∧ (SqL X.K H p ys ∨ SqT X.K H p ys) ∧ ∀ l, H l = none → Q (.ref l) (upd H l (.lst ys))) := call_list_of
theorem pt_truthB {a : Expr} {ta : TE} (ha : PE (blk X own scope C s₀ H₀ ex) a ta) (he : ∀ whole, isTrue a (blk X own scope C s₀ H₀ ex).env whole = (do let v ← whole; standAt a.pos; holding [v] (truthy v))) :
    PT (blk X own scope C s₀ H₀ ex) a (fun σ H Q => ta σ H fun x H' => ∃ k, TruV X.K x H' k ∧ Q k H') := pt_truth ha he
theorem pe_callDB {k : Nat} {x : Str} {ps : List Str} {sp : Sp} {p pos : Pos} {e : Expr} {es : List Expr} {t : TA} (D : Df X.prog X.w X.K X.mg X.base k x ps sp) (hr : Room k X.A) (hg : Gl (blk X own scope C s₀ H₀ ex) x) (ha : PA (blk X own scope C s₀ H₀ ex) (e :: es) t) (hdb : (x == ("__debug__" : Str)) = false := by decide)
    (he : starEach (e :: es) (blk X own scope C s₀ H₀ ex).env = (false, eval e (blk X own scope C s₀ H₀ ex).env) :: starEach es (blk X own scope C s₀ H₀ ex).env := by rfl) (hpl : (backTo pos (starEach es (blk X own scope C s₀ H₀ ex).env)).any (·.1) = false := by rfl) :
    PE (blk X own scope C s₀ H₀ ex) (.Call (.Name x p) (e :: es) [] pos) (tCall sp [] E0 t) := pe_callD (X := blk X own scope C s₀ H₀ ex) D hr hg ha hdb he hpl
end
section
variable {K : PySem.W.Frag} {σ : St} {H : Hp} {Q : VK} {a : Addr} {xs : List V} {te : TE}
theorem comp_enum0 (F : Nat → V) (hq : SqL K H a xs) (hl : xs.length ≤ 1000)
    (step : ∀ (i : Nat) (x : V) (H1 : Hp) (R : V → Hp → Prop), xs[i]? = some x → Same H H1 → (∀ H4, Same H1 H4 → R (F i) H4) → te (some (.int (i : Int)) :: some x :: σ) H1 R)
    (fin : retL H ((List.range xs.length).map F) Q) : CompEnd (Ite K a) 2 (g2 K) tNoIf te σ H Q :=
  comp_enum (fun _ => true) F hq hl (fun i x H1 R ys hx hs r1 _ => iteT (B := R ys H1) (step i x H1 _ hx hs fun H4 h4 => r1 H4 h4 rfl)) (by rw [filt_all]; exact fin)
theorem comp_list0 (F : Nat → V) (hq : SqL K H a xs) (hl : xs.length ≤ 1000)
    (step : ∀ (i : Nat) (x : V) (H1 : Hp) (R : V → Hp → Prop), xs[i]? = some x → Same H H1 → (∀ H4, Same H1 H4 → R (F i) H4) → te (some x :: σ) H1 R)
    (fin : retL H ((List.range xs.length).map F) Q) : CompEnd (Itl K a) 1 (gName 0) tNoIf te σ H Q :=
  comp_list (fun _ => true) F hq hl (fun i x H1 R ys hx hs r1 _ => iteT (B := R ys H1) (step i x H1 _ hx hs fun H4 h4 => r1 H4 h4 rfl)) (by rw [filt_all]; exact fin)
theorem comp_list20 (F : Nat → V) (hq : SqL K H a xs) (hl : xs.length ≤ 1000)
    (step : ∀ (i : Nat) (x : V) (H1 : Hp) (R : V → Hp → Prop), xs[i]? = some x → Same H H1 → (∀ H4, Same H1 H4 → R (F i) H4) → ∃ p u v, x = .ref p ∧ SqT K H1 p [u, v] ∧ te (some u :: some v :: σ) H1 R)
    (fin : retL H ((List.range xs.length).map F) Q) : CompEnd (Itl K a) 2 (g2 K) tNoIf te σ H Q :=
  comp_list2 (fun _ => true) F hq hl (fun i x H1 R ys hx hs r1 _ => by
    obtain ⟨p, u, v, e, ht, z⟩ := step i x H1 (fun v H4 => R (ys ++ [v]) H4) hx hs fun H4 h4 => r1 H4 h4 rfl
    exact ⟨p, u, v, e, ht, iteT (B := R ys H1) z⟩) (by rw [filt_all]; exact fin)
theorem comp_range0 {lo : Int} {n : Nat} (F : Nat → V) (hl : n ≤ 1000)
    (step : ∀ (i : Nat) (H1 : Hp) (R : V → Hp → Prop), i < n → Same H H1 → (∀ H4, Same H1 H4 → R (F i) H4) → te (some (.int (lo + (i : Int))) :: σ) H1 R)
    (fin : retL H ((List.range n).map F) Q) : CompEnd (Itr lo n) 1 (gName 0) tNoIf te σ H Q :=
  comp_range (fun _ => true) F hl (fun i H1 R ys hx hs r1 _ => iteT (B := R ys H1) (step i H1 _ hx hs fun H4 h4 => r1 H4 h4 rfl)) (by rw [filt_all]; exact fin)
end
end L2

namespace L2
open PySem PySem.Spec PyProof.Rows
/-! ### comprehensions by a word of one's own: Pv i ys H -/
section
variable {K : PySem.W.Frag} {σ : St} {H : Hp} {Q : VK} {a : Addr} {xs : List V} {tt : TT} {te : TE}
theorem comp_list2R (Pv : Nat → List V → Hp → Prop) (h0 : Pv 0 [] H) (hq : ∀ i ys H1, Pv i ys H1 → SqL K H1 a xs ∧ ys.length ≤ 1000)
    (step : ∀ (i : Nat) (x : V) (ys : List V) (H1 : Hp), xs[i]? = some x → Pv i ys H1 →
      ∃ p u v, x = .ref p ∧ SqT K H1 p [u, v] ∧ tt (some u :: some v :: σ) H1 fun b H3 => if b = true then te (some u :: some v :: σ) H3 fun v H4 => Pv (i + 1) (ys ++ [v]) H4 else Pv (i + 1) ys H3)
    (fin : ∀ ys H1 D, Pv xs.length ys H1 → H1 D = none → Q (.ref D) (upd H1 D (.lst ys))) : CompEnd (Itl K a) 2 (g2 K) tt te σ H Q := by
  refine ⟨fun i m ys H1 => m = xs.length - i ∧ i ≤ xs.length ∧ Pv i ys H1, ⟨xs.length, by simp, Nat.zero_le _, h0⟩, ?_⟩
  rintro i m ys H1 os hos ⟨rfl, hi, hP⟩
  have q := (hq i ys H1 hP).1
  by_cases hlt : i < xs.length
  · refine .inr ⟨⟨xs, xs[i], q, by simp [hlt]⟩, small1000 (hq i ys H1 hP).2, fun ys' H' => Pv (i + 1) ys' H', fun ys' H' h1 => ⟨xs.length - (i + 1), by omega, rfl, hlt, h1⟩, ?_⟩
    rintro x H' ⟨rfl, hv⟩
    have hx := hv xs q
    obtain ⟨o1, o2, rfl⟩ : ∃ o1 o2, os = [o1, o2] := by
      match os, hos with
      | [o1, o2], _ => exact ⟨o1, o2, rfl⟩
    obtain ⟨p, u, v, rfl, ht, z⟩ := step i x ys _ hx hP
    exact ⟨p, _, rfl, ht, rfl, _, _, rfl, _, _, rfl, rfl, ⟨[some u, some v], rfl, rfl⟩, z⟩
  · have e : i = xs.length := by omega
    subst e
    exact .inl ⟨⟨xs, q, Nat.le_refl _⟩, fun D hD => fin ys _ D hP hD⟩
theorem comp_listR (Pv : Nat → List V → Hp → Prop) (h0 : Pv 0 [] H) (hq : ∀ i ys H1, Pv i ys H1 → SqL K H1 a xs ∧ ys.length ≤ 1000)
    (step : ∀ (i : Nat) (x : V) (ys : List V) (H1 : Hp), xs[i]? = some x → Pv i ys H1 →
      tt (some x :: σ) H1 fun b H3 => if b = true then te (some x :: σ) H3 fun v H4 => Pv (i + 1) (ys ++ [v]) H4 else Pv (i + 1) ys H3)
    (fin : ∀ ys H1 D, Pv xs.length ys H1 → H1 D = none → Q (.ref D) (upd H1 D (.lst ys))) : CompEnd (Itl K a) 1 (gName 0) tt te σ H Q := by
  refine ⟨fun i m ys H1 => m = xs.length - i ∧ i ≤ xs.length ∧ Pv i ys H1, ⟨xs.length, by simp, Nat.zero_le _, h0⟩, ?_⟩
  rintro i m ys H1 os hos ⟨rfl, hi, hP⟩
  have q := (hq i ys H1 hP).1
  by_cases hlt : i < xs.length
  · refine .inr ⟨⟨xs, xs[i], q, by simp [hlt]⟩, small1000 (hq i ys H1 hP).2, fun ys' H' => Pv (i + 1) ys' H', fun ys' H' h1 => ⟨xs.length - (i + 1), by omega, rfl, hlt, h1⟩, ?_⟩
    rintro x H' ⟨rfl, hv⟩
    have hx := hv xs q
    obtain ⟨o1, rfl⟩ : ∃ o1, os = [o1] := by
      match os, hos with
      | [o1], _ => exact ⟨o1, rfl⟩
    refine ⟨⟨[some x], rfl, rfl⟩, ?_⟩
    exact step i x ys _ hx hP
  · have e : i = xs.length := by omega
    subst e
    exact .inl ⟨⟨xs, q, Nat.le_refl _⟩, fun D hD => fin ys _ D hP hD⟩
theorem comp_rangeR {lo : Int} {n : Nat} (Pv : Nat → List V → Hp → Prop) (h0 : Pv 0 [] H) (hq : ∀ i ys H1, Pv i ys H1 → ys.length ≤ 1000)
    (step : ∀ (i : Nat) (ys : List V) (H1 : Hp), i < n → Pv i ys H1 →
      tt (some (.int (lo + (i : Int))) :: σ) H1 fun b H3 => if b = true then te (some (.int (lo + (i : Int))) :: σ) H3 fun v H4 => Pv (i + 1) (ys ++ [v]) H4 else Pv (i + 1) ys H3)
    (fin : ∀ ys H1 D, Pv n ys H1 → H1 D = none → Q (.ref D) (upd H1 D (.lst ys))) : CompEnd (Itr lo n) 1 (gName 0) tt te σ H Q := by
  refine ⟨fun i m ys H1 => m = n - i ∧ i ≤ n ∧ Pv i ys H1, ⟨n, by simp, Nat.zero_le _, h0⟩, ?_⟩
  rintro i m ys H1 os hos ⟨rfl, hi, hP⟩
  by_cases hlt : i < n
  · refine .inr ⟨hlt, small1000 (hq i ys H1 hP), fun ys' H' => Pv (i + 1) ys' H', fun ys' H' h1 => ⟨n - (i + 1), by omega, rfl, hlt, h1⟩, ?_⟩
    rintro x H' ⟨rfl, rfl⟩
    obtain ⟨o1, rfl⟩ : ∃ o1, os = [o1] := by
      match os, hos with
      | [o1], _ => exact ⟨o1, rfl⟩
    refine ⟨⟨[some (.int (lo + (i : Int)))], rfl, rfl⟩, ?_⟩
    exact step i ys _ hlt hP
  · have e : i = n := by omega
    subst e
    exact .inl ⟨Nat.le_refl _, fun D hD => fin ys _ D hP hD⟩
end
theorem Paired.at {α β : Type} {F : α → β → Prop} : ∀ {xs : List α} {ys : List β} {i : Nat} {x : α}, Paired F xs ys → xs[i]? = some x → ∃ y, ys[i]? = some y ∧ F x y
  | _, _, _, _, .nil, e => by simp at e
  | _, _, 0, _, .cons r _, e => by simp at e; subst e; exact ⟨_, rfl, r⟩
  | _, _, i + 1, x, .cons _ t, e => by
    obtain ⟨u, h1, h2⟩ := Paired.at (i := i) (x := x) t (by simpa using e)
    exact ⟨u, by simpa using h1, h2⟩
theorem Paired.append {α β : Type} {F : α → β → Prop} : ∀ {xs xs' : List α} {ys ys' : List β}, Paired F xs ys → Paired F xs' ys' → Paired F (xs ++ xs') (ys ++ ys')
  | _, _, _, _, .nil, h => h
  | _, _, _, _, .cons r t, h => .cons r (Paired.append t h)
theorem Paired.take {α β : Type} {F : α → β → Prop} : ∀ {xs : List α} {ys : List β} (n : Nat), Paired F xs ys → Paired F (xs.take n) (ys.take n)
  | _, _, 0, _ => .nil
  | _, _, _ + 1, .nil => .nil
  | _, _, n + 1, .cons r t => .cons r (Paired.take n t)
/-- xs[:-1] -/
theorem cut_last (xs : List V) (v : V) : cutV (xs ++ [v]) none (some (-1)) = xs := by
  unfold cutV HT.sIx
  simp
  have e : (-1 + ((xs.length : Int) + 1)) = (xs.length : Int) := by omega
  first
    | (rw [e]; simp)
    | (simp [e])
end L2

namespace L2
open PySem PySem.Spec PyProof.Rows

/-! ### exceptions that leave a def -/
/-- an exception of the class at C flies; B: what stays while it flies (all but the frames) -/
def CX1 (P : Program) (w : World) : CXT := fun outer H s E e s' => ∃ (ea t C : Addr) (H' : Hp) (B : Heap), e = .ref ea ∧ s'.os = s.os ∧ AllBare s'.gens ∧ Un (frs outer) [] H H' s.heap s'.heap ∧ HOk P w H' B ∧
  Heap.FlyingW B outer ea (.ref C) (.ref t) s'.heap ∧ (∀ b o, s.heap.get? b = some o → H b = none → b ∉ frs outer → B.get? b = some o) ∧ (∀ b o, s.heap.get? b = some o → b ∉ frs outer → ∃ o', B.get? b = some o') ∧ E (.ref C) none H'

theorem mem_frs {l : List Env} : ∀ env ∈ l, ∀ a, env.frame = some a → a ∈ frs l := fun env he a ha => List.mem_filterMap.mpr ⟨env, he, ha⟩

section
variable {P : Program} {w : World} {K : PySem.W.Frag} {mg : Str → Option Value} {base : Heap} {N : List Str} {qual : Str} {scope : Scope} {f : Addr} {cd : Value} {A : Around} {outer : List Env} {s : Shared} {H : Hp} {E : XK}
abbrev cx1 (P : Program) (w : World) (K : PySem.W.Frag) (mg : Str → Option Value) (base : Heap) (N : List Str) (qual : Str) (scope : Scope) (f : Addr) (cd : Value) (A : Around) (outer : List Env) (s : Shared) (H : Hp) (E : XK) : Cx :=
  cxOf (CX1 P w) P w K mg base N qual scope f cd A outer s H E

/-- an exception made here leaves -/
theorem xe_made {pins : List (Addr × Obj)} {σ : St} {H1 : Hp} {s1 : Shared} {h' : Heap} {ea C : Addr} {vs : List Value} (I : Inv (cx1 P w K mg base N qual scope f cd A outer s H E) pins σ H1 s1)
    (hx : Heap.MadeExcOf s1.heap h' ea (.ref C) vs) (hE : E (.ref C) none H1) : (cx1 P w K mg base N qual scope f cd A outer s H E).xe (.ref ea) { s1 with heap := h' } := by
  have stk := I.stack
  have neL : ∀ b o, s.heap.get? b = some o → b ≠ s.heap.objs.size := fun b o e => Nat.ne_of_lt (Heap.lt_size e)
  have inB : ∀ b o, s1.heap.get? b = some o → b ∉ frs (cx1 P w K mg base N qual scope f cd A outer s H E).stack → (PySem.W.hideAll s1.heap (frs (cx1 P w K mg base N qual scope f cd A outer s H E).stack)).get? b = some o := fun b o e n => PySem.W.hideAll_get _ e n
  have nst : ∀ b o, s.heap.get? b = some o → b ∉ frs outer → b ∉ frs (cx1 P w K mg base N qual scope f cd A outer s H E).stack := fun b o e n hb => by
    rcases List.mem_cons.mp (I.stkSub b hb) with z | z
    · exact neL b o e z
    · exact n z
  refine wpAny_leaves_madeW (base := PySem.W.hideAll s1.heap (frs (cx1 P w K mg base N qual scope f cd A outer s H E).stack)) (h := s1.heap) (env := envOfC qual scope s.heap.objs.size f cd) (outer := outer) (L := s.heap.objs.size) (I.ok.frames) rfl
    (fun b o q => PySem.W.of_hideAll _ q) (PySem.W.funFrames_hide stk mem_frs) hx fun h2 t fl tup tn up => ?_
  refine ⟨ea, t, C, H1, _, rfl, I.os, I.bare, ⟨fun b o e n hb _ => ?_, fun b o e n hb _ => ?_, fun b o e n hx => I.base.free b o e n hx, fun b o e _ => ?_, I.base.tups, I.base.frzs, I.base.tbls⟩, fun b o e => ?_, fl, fun b o e n hb => ?_, fun b o e hb => ?_, hE⟩
  · exact fl.1 _ _ (inB b o (I.base.keep b o e n hb (fun z => nomatch z)) (nst b o e hb))
  · obtain ⟨sl, e1⟩ := I.base.slot b o e n hb (fun z => nomatch z)
    obtain ⟨_, o', ho', hd'⟩ := I.ok.funs.mem hb
    have ho2 : s.heap.get? b = some o' := ho'
    rw [e] at ho2
    cases ho2
    obtain ⟨sl', e2⟩ := up b _ (hx.keeps _ _ e1) hd'
    exact ⟨sl', e2⟩
  · by_cases hb : b ∈ frs outer
    · obtain ⟨_, o', ho', hd'⟩ := I.ok.funs.mem hb
      have ho2 : s.heap.get? b = some o' := ho'
      rw [e] at ho2
      cases ho2
      obtain ⟨sl, e1⟩ := I.base.slot b o e (I.ok.frf b hb) hb (fun z => nomatch z)
      obtain ⟨sl', e2⟩ := up b _ (hx.keeps _ _ e1) hd'
      exact ⟨_, e2⟩
    · obtain ⟨o', e1⟩ := I.base.there b o e (fun z => nomatch z)
      exact ⟨o', fl.1 _ _ (inB b o' e1 (nst b o e hb))⟩
  · refine (I.hok b o e).stay (fun c u hc q => inB c u q fun z => ?_) (fun _ q => q) fun _ _ q => q
    have hn := I.stkFree c z
    rcases hc with r | r
    · rw [← r, hn] at e; cases e
    · rw [hn] at r; cases r
  · exact inB b o (I.base.keep b o e n hb (fun z => nomatch z)) (nst b o e hb)
  · obtain ⟨o', e1⟩ := I.base.there b o e (fun z => nomatch z)
    exact ⟨o', inB b o' e1 (nst b o e hb)⟩

/-- an exception of a callee passes through -/
theorem xe_pass {pins : List (Addr × Obj)} {σ : St} {H1 : Hp} {s1 s2 : Shared} {e : Value} (I : Inv (cx1 P w K mg base N qual scope f cd A outer s H E) pins σ H1 s1)
    (h : CX1 P w (cx1 P w K mg base N qual scope f cd A outer s H E).stack H1 s1 E e s2) : (cx1 P w K mg base N qual scope f cd A outer s H E).xe e s2 := by
  obtain ⟨ea, t, C, H', B, rfl, os, bare, un, hok, fl, keepB, thereB, hE⟩ := h
  have neL : ∀ b o, s.heap.get? b = some o → b ≠ s.heap.objs.size := fun b o e => Nat.ne_of_lt (Heap.lt_size e)
  have nst : ∀ b o, s.heap.get? b = some o → b ∉ frs outer → b ∉ frs (cx1 P w K mg base N qual scope f cd A outer s H E).stack := fun b o e n hb => by
    rcases List.mem_cons.mp (I.stkSub b hb) with z | z
    · exact neL b o e z
    · exact n z
  have ist : ∀ b ∈ frs outer, b ∈ frs (cx1 P w K mg base N qual scope f cd A outer s H E).stack := fun b hb => by
    show b ∈ frs (envOfC qual scope s.heap.objs.size f cd :: outer)
    obtain ⟨env, he, hf⟩ := List.mem_filterMap.mp hb
    exact List.mem_filterMap.mpr ⟨env, List.mem_cons_of_mem _ he, hf⟩
  have slotB : ∀ {h2 : Heap}, s2.heap.UpToSlots h2 → ∀ b o, s.heap.get? b = some o → H b = none → b ∈ frs outer → ∃ sl, h2.get? b = some { o with slots := sl } := fun {h2} up b o e n hb => by
    obtain ⟨sl, e1⟩ := I.base.slot b o e n hb (fun z => nomatch z)
    obtain ⟨sl2, e2⟩ := un.slot b _ e1 (I.base.free b o e n (fun z => nomatch z)) (ist b hb) (fun z => nomatch z)
    obtain ⟨_, o', ho', hd'⟩ := I.ok.funs.mem hb
    have ho2 : s.heap.get? b = some o' := ho'
    rw [e] at ho2
    cases ho2
    obtain ⟨sl3, e3⟩ := up b _ e2 hd'
    exact ⟨sl3, e3⟩
  refine wpAny_leaves_onW (env := envOfC qual scope s.heap.objs.size f cd) (outer := outer) (L := s.heap.objs.size) I.ok.frames rfl fl fun h2 fl2 up => ?_
  refine ⟨ea, t, C, H', B, rfl, os.trans I.os, bare, ⟨fun b o e n hb _ => ?_, fun b o e n hb _ => slotB up b o e n hb, fun b o e n hx => ?_, fun b o e _ => ?_, fun b xs e => un.tups b xs (I.base.tups b xs e), fun b o u e => un.frzs b o u (I.base.frzs b o u e), fun b ps e => ?_⟩, hok, fl2, fun b o e n hb => ?_, fun b o e hb => ?_, hE⟩
  · exact fl2.1 _ _ (keepB b o (I.base.keep b o e n hb (fun z => nomatch z)) (I.base.free b o e n (fun z => nomatch z)) (nst b o e hb))
  · obtain ⟨o', e1⟩ := I.base.there b o e hx
    exact un.free b o' e1 (I.base.free b o e n hx) hx
  · by_cases hb : b ∈ frs outer
    · obtain ⟨sl, e2⟩ := slotB up b o e (I.ok.frf b hb) hb
      exact ⟨_, e2⟩
    · obtain ⟨o', e1⟩ := I.base.there b o e (fun z => nomatch z)
      obtain ⟨o2, e2⟩ := thereB b o' e1 (nst b o e hb)
      exact ⟨o2, fl2.1 _ _ e2⟩
  · obtain ⟨m1, e1⟩ := I.base.tbls b ps e
    obtain ⟨m2, e2⟩ := un.tbls b _ e1
    exact ⟨m1 ++ m2, by rw [e2, Array.append_assoc]⟩
  · exact keepB b o (I.base.keep b o e n hb (fun z => nomatch z)) (I.base.free b o e n (fun z => nomatch z)) (nst b o e hb)
  · obtain ⟨o', e1⟩ := I.base.there b o e (fun z => nomatch z)
    exact thereB b o' e1 (nst b o e hb)
theorem pass1 : Passes (CX1 P w) (cx1 P w K mg base N qual scope f cd A outer s H E) E := fun pins σ H s e s' I h => xe_pass I h
end

/-! ### an own class of errors, as the fragment tells it -/
theorem exc_at {K : PySem.W.Frag} {h : Heap} {C : Addr} {bmB : List Value} {newId : String} (X : K.In h) (q : PySem.W.excIn K C bmB newId = true) :
    ∃ bm N nm qn bs hd sn sub ab col dd k0 k1 k2 k3 k5 mN, h.get? C = some (excClassObj nm qn C N bs bm hd sn sub ab col dd k0 k1 k2 k3 k5 newId) ∧ h.Ns N mN ∧ mN "__init__" = none ∧ OwnTail h bmB bm := by
  unfold PySem.W.excIn at q
  split at q
  · rename_i d1 c1 sl1 look1
    split at q
    · rename_i C2 tl2 a0 a1 a2 a3 nw a5 e1 e2
      simp only [beq_iff_eq, Bool.and_eq_true, Bool.not_eq_true'] at q
      obtain ⟨⟨⟨⟨⟨rfl, rfl⟩, nodel⟩, tailok⟩, nsok⟩, noinit⟩ := q
      obtain ⟨cnm, cbs, cmro, cns, cqn, chd, csn, csub, cab, ccol, cdel⟩ := c1
      dsimp only at e1 nodel nsok noinit
      subst e1 nodel
      have arr : sl1 = #[a0, a1, a2, a3, some (.builtin nw), a5] := by
        obtain ⟨lst⟩ := sl1
        simp only at e2
        rw [e2]
      subst arr
      exact ⟨tl2, cns, cnm, cqn, cbs, chd, csn, csub, cab, ccol, d1, a0, a1, a2, a3, a5, _, X _ _ look1, .of_isNs (PySem.W.isNs_of_in X nsok), PySem.W.nsMap_none_of_in X nsok noinit, PySem.W.tail_of_in X tailok⟩
    · cases q
  · cases q
/-- an error class of the program's own, at C, under ValueError -/
abbrev vBase : List Value := [.type "ValueError", .type "Exception", .type "BaseException", .type "object"]
def ExcC (K : PySem.W.Frag) (mg : Str → Option Value) (x : Str) (C : Addr) : Prop := mg x = some (.ref C) ∧ PySem.W.excIn K C vBase "ValueError.__new__" = true

section
variable {X : Cx} {x : Str} {C : Addr} {e : Expr} {es : List Expr} {t : TA} {np cpos pos : Pos}
def tRaise (ER : Hp → Prop) (t : TA) : TS := fun _ σ H => t σ H fun vs H1 => vs.length ≤ sizeLine ∧ ER H1
theorem ps_raise {ER : Hp → Prop} (hc : X.calm = true) (hC : ExcC X.K X.mg x C) (hg : Gl X x) (ha : PA X (e :: es) t)
    (hx : ∀ pins σ H s ea h' vs, Inv X pins σ H s → Heap.MadeExcOf s.heap h' ea (.ref C) vs → ER H → X.xe (.ref ea) { s with heap := h' })
    (hs : starEach (e :: es) X.env = (false, eval e X.env) :: starEach es X.env := by rfl) (hpl : (backTo cpos (starEach es X.env)).any (·.1) = false := by rfl) (hd : (x == ("__debug__" : Str)) = false := by decide) :
    PS X (.Raise (some (.Call (.Name x np) (e :: es) [] cpos)) none pos) (tRaise ER t) := by
  intro pins s σ H D I h
  obtain ⟨bm, Nn, nm, qn, bs, hdct, sn, sub, ab, col, dd, k0, k1, k2, k3, k5, mN, hC0, hN, hni, T⟩ := exc_at I.ok.mod.kin hC.2
  refine wpAny_Raise_call_subT (C := C) (nm := nm) (q := qn) (N := Nn) (bs := bs) (bm := bm) (hdct := hdct) (sn := sn) (sub := sub) (ab := ab) (col := col) (dd := dd) (k0 := k0) (k1 := k1) (k2 := k2) (k3 := k3) (k5 := k5)
    PySem.F.excBase_ValueError (mN := mN) (T.hasType PySem.F.excBase_ValueError.hasBase) (I.ok.hd hc) (by rw [hs]; show (false || (backTo cpos (starEach es X.env)).any (·.1)) = false; rw [hpl]; rfl) hni (ld_glob I hg hC.1 ⟨rfl, ?_⟩ hd)
  have hA := ha cpos pins s σ H _ I h
  rw [hs] at hA ⊢
  refine Calls.evalArgs_plain (thn hA fun us s2 ⟨vs, H2, I2, r2, hz, q2⟩ => ?_)
  refine ⟨rfl, by rw [← r2.length]; exact hz, I2.bk _ _ hC0, hN.keeps I2.bk, T.keeps I2.bk, fun h' ea hm => hx pins σ H2 s2 ea h' us I2 hm q2⟩
end
end L2

namespace L2
open PySem PySem.Spec PyProof.Rows

/-! ### a caught exception, as a tracked thing -/
def ExcAt (C a : Addr) (h : Heap) : Prop := ∃ o vs, h.get? a = some o ∧ o.cls = .ref C ∧ o.data = .fields vs

/-- the same context with other lasting pins and another wish -/
abbrev Cx.pnx (X : Cx) (pn : List (Addr × Obj)) (E : Value → Shared → Prop) : Cx := { X with pn := pn, xe := E }
/-- within an except suite -/
abbrev Cx.suite (X : Cx) (ea : Addr) : Cx := { X with A := X.A.mark (some (.ref ea)), calm := false, xe := fun _ _ => False }
section
variable {X : Cx} {pins : List (Addr × Obj)} {σ : St} {H : Hp} {s : Shared}
theorem Inv.pnx (I : Inv X pins σ H s) (E : Value → Shared → Prop) : Inv (X.pnx (X.pn ++ pins) E) [] σ H s :=
  ⟨⟨I.ok.mod, I.ok.kind, I.ok.glob, I.ok.blt, I.ok.above, I.ok.inj, I.ok.has, I.ok.cab, I.ok.hd, I.ok.frames, I.ok.stk, I.ok.exf, I.ok.bs, I.ok.bsz, I.ok.noex, I.ok.exfs, I.ok.funs, I.ok.frf⟩, I.os, I.bare, I.base, I.loc, I.cell, I.free, I.freeC,
    fun p hp => I.pin p (by have hp' : p ∈ (X.pn ++ pins) ++ [] := hp; rw [List.append_nil] at hp'; exact hp'), I.hok, I.len⟩
theorem Inv.unpnx {pl : List (Addr × Obj)} {E : Value → Shared → Prop} (I : Inv (X.pnx (X.pn ++ pins) E) pl σ H s) : Inv X pins σ H s :=
  ⟨⟨I.ok.mod, I.ok.kind, I.ok.glob, I.ok.blt, I.ok.above, I.ok.inj, I.ok.has, I.ok.cab, I.ok.hd, I.ok.frames, I.ok.stk, I.ok.exf, I.ok.bs, I.ok.bsz, I.ok.noex, I.ok.exfs, I.ok.funs, I.ok.frf⟩, I.os, I.bare, I.base, I.loc, I.cell, I.free, I.freeC,
    fun p hp => I.pin p (List.mem_append_left _ hp), I.hok, I.len⟩
theorem Inv.suite (I : Inv X pins σ H s) (ea : Addr) : Inv (X.suite ea) pins σ H s :=
  ⟨⟨I.ok.mod, I.ok.kind, I.ok.glob, I.ok.blt, I.ok.above, I.ok.inj, I.ok.has, I.ok.cab, fun h => absurd h Bool.false_ne_true, I.ok.frames, I.ok.stk, I.ok.exf, I.ok.bs, I.ok.bsz, I.ok.noex, I.ok.exfs, I.ok.funs, I.ok.frf⟩, I.os, I.bare, I.base, I.loc, I.cell, I.free, I.freeC, I.pin, I.hok, I.len⟩
theorem Inv.unsuite {ea : Addr} (hd : X.calm = true → X.A.handled = none) (I : Inv (X.suite ea) pins σ H s) : Inv X pins σ H s :=
  ⟨⟨I.ok.mod, I.ok.kind, I.ok.glob, I.ok.blt, I.ok.above, I.ok.inj, I.ok.has, I.ok.cab, hd, I.ok.frames, I.ok.stk, I.ok.exf, I.ok.bs, I.ok.bsz, I.ok.noex, I.ok.exfs, I.ok.funs, I.ok.frf⟩, I.os, I.bare, I.base, I.loc, I.cell, I.free, I.freeC, I.pin, I.hok, I.len⟩
/-- the frame's names are forgotten -/
theorem Inv.lost {h' : Heap} {m' : Str → Option Value} {t' : Nat} (I : Inv X pins σ H s) (hn : h'.Ns X.env.locals m') (hs : Heap.SameBut X.env.locals s.heap h') : Inv X pins (σ.map fun _ => none) H { s with heap := h', toks := t' } := by
  obtain ⟨m, ⟨oL, es, ep, hoL, hdL, _⟩, _⟩ := id I.loc
  have up : ∀ b o, b ≠ X.env.locals → s.heap.get? b = some o → h'.get? b = some o := fun b o z e => (hs.2 b z).trans e
  have neL : ∀ b o, X.s₀.heap.get? b = some o → b ≠ X.env.locals := fun b o e => Nat.ne_of_lt (Nat.lt_of_lt_of_le (Heap.lt_size e) I.ok.above)
  refine ⟨I.ok, I.os, I.bare, ⟨fun b o e n hb hx => up b o (neL b o e) (I.base.keep b o e n hb hx), fun b o e n hb hx => ?_, I.base.free, fun b o e hx => ?_, I.base.tups, I.base.frzs, I.base.tbls⟩, ⟨m', hn, fun i x v e1 e2 e3 => ?_⟩, fun x c e => ?_, I.free, I.freeC, fun p hp => ?_, fun b u e => ?_, by rw [List.length_map]; exact I.len⟩
  · obtain ⟨sl, q⟩ := I.base.slot b o e n hb hx
    exact ⟨sl, up b _ (neL b o e) q⟩
  · obtain ⟨o', q⟩ := I.base.there b o e hx
    exact ⟨o', up b o' (neL b o e) q⟩
  · rw [List.getElem?_map] at e2
    cases q : σ[i]? with
    | none => rw [q] at e2; cases e2
    | some z => rw [q] at e2; cases e2
  · obtain ⟨v, o, ho, hd⟩ := I.cell x c e
    exact ⟨v, o, up c o (I.cne x c e) ho, hd⟩
  · obtain ⟨e, n, ne, nf, d⟩ := I.pin p hp
    exact ⟨up p.1 p.2 ne e, n, ne, nf, d⟩
  · refine (I.hok b u e).stay (fun c v hc q => up c v ?_ q) (fun _ q => q) fun _ _ q => q
    rintro rfl
    rcases hc with r | r
    · rw [← r, I.free] at e; cases e
    · rw [I.free] at r; cases r

/-- behind an exception that came from a call: the frame's own invariant -/
theorem Inv.landed {H' : Hp} {s2 : Shared} {h B : Heap} {ea C t : Addr} (I : Inv X pins σ H s) (os : s2.os = s.os) (bare : AllBare s2.gens) (un : Un (frs X.stack) [] H H' s.heap s2.heap) (hok : HOk X.prog X.w H' B)
    (fl : Heap.FlyingW B X.stack ea (.ref C) (.ref t) h) (up : s2.heap.UpToSlots h) (keepB : ∀ b o, s.heap.get? b = some o → H b = none → b ∉ frs X.stack → B.get? b = some o) (thereB : ∀ b o, s.heap.get? b = some o → b ∉ frs X.stack → ∃ o', B.get? b = some o') :
    Inv X pins σ H' { s2 with heap := h } := by
  have sl : ∀ b o, s.heap.get? b = some o → H b = none → b ∈ frs X.stack → ∃ sl, h.get? b = some { o with slots := sl } := fun b o e n hb => by
    obtain ⟨s1, e1⟩ := un.slot b o e n hb (fun z => nomatch z)
    obtain ⟨_, o', ho', hd'⟩ := I.stack.mem hb
    rw [e] at ho'
    cases ho'
    obtain ⟨s3, e3⟩ := up b _ e1 hd'
    exact ⟨s3, e3⟩
  refine Inv.call' (s' := { s2 with heap := h }) (ch := []) I os ⟨fun b o e n hb _ => fl.1 _ _ (keepB b o e n hb), fun b o e n hb _ => sl b o e n hb, un.free, fun b o e _ => ?_, un.tups, un.frzs, un.tbls⟩ (hok.kept fl.1) bare fun b z => nomatch z
  by_cases hb : b ∈ frs X.stack
  · obtain ⟨s3, e3⟩ := sl b o e (I.stkFree b hb) hb
    exact ⟨_, e3⟩
  · obtain ⟨o', e1⟩ := thereB b o e hb
    exact ⟨o', fl.1 _ _ e1⟩
/-- .. and the exception tracked -/
theorem Inv.tracks {H' : Hp} {s2 : Shared} {B : Heap} {ea C t : Addr} {H0 : Hp} {s0 : Shared} (I : Inv X pins σ H' s2) (I0 : Inv X pins σ H0 s0) (hok : HOk X.prog X.w H' B) (fl : Heap.FlyingW B X.stack ea (.ref C) (.ref t) s2.heap)
    (keepB : ∀ b o, s0.heap.get? b = some o → H0 b = none → b ∉ frs X.stack → B.get? b = some o) (thereB : ∀ b o, s0.heap.get? b = some o → b ∉ frs X.stack → ∃ o', B.get? b = some o') :
    H' ea = none ∧ Inv X pins σ (upd H' ea (.ext (ExcAt C ea))) s2 := by
  obtain ⟨f1, f2, f3, oe, vs, T, oT, ts, he, ⟨hcls, _⟩, hd, _⟩ := fl
  have hn : H' ea = none := by
    cases q : H' ea with
    | none => rfl
    | some u =>
      have z := (hok ea u q).lt
      have w := hok ea u q
      exfalso
      have : ∃ o, B.get? ea = some o := by
        cases u with
        | lst xs => obtain ⟨_, _, _, _, e⟩ := w; exact ⟨_, e⟩
        | tup xs => obtain ⟨_, _, _, o, e, _⟩ := w; exact ⟨_, e⟩
        | dK kvs => obtain ⟨_, _, _, _, o, _, _, e, _⟩ := w; exact ⟨_, e⟩
        | dT kvs => obtain ⟨_, _, _, _, o, _, _, e, _⟩ := w; exact ⟨_, e⟩
        | set S n => obtain ⟨o, _, _, _, e, _⟩ := w; exact ⟨_, e⟩
        | ins C dx fs => obtain ⟨_, _, _, e, _⟩ := w; exact ⟨_, e⟩
        | own y => exact w
        | xd fs => obtain ⟨_, ⟨o, _, _, e, _⟩, _⟩ := w; exact ⟨_, e⟩
        | rng lo hi => obtain ⟨_, _, _, e⟩ := w; exact ⟨_, e⟩
        | frz ob u => obtain ⟨e, _⟩ := w; exact ⟨_, e⟩
        | tbl ps => exact ⟨_, (show B.get? ea = some _ from w)⟩
        | met f y => exact ⟨_, (show B.get? ea = some _ from w)⟩
        | ext φ => obtain ⟨_, e, _⟩ := w; exact e
      obtain ⟨o, e⟩ := this
      rw [f2] at e
      cases e
  have nofr : ea ∉ frs X.stack := fun z => by
    obtain ⟨_, o', ho', hd'⟩ := f3.mem z
    rw [he] at ho'
    cases ho'
    exact hd' _ hd
  have neL : ea ≠ X.env.locals := fun z => by
    obtain ⟨m, ⟨oL, es, ep, hoL, hdL, _⟩, _⟩ := I.loc
    rw [← z, he] at hoL
    cases hoL
    rw [hd] at hdL
    cases hdL
  have nes : ∀ b o, s0.heap.get? b = some o → b ≠ ea := fun b o e z => by
    subst z
    obtain ⟨o', e1⟩ := thereB _ o e nofr
    rw [f2] at e1
    cases e1
  have nes0 : ∀ b o, X.s₀.heap.get? b = some o → b ∉ X.ex → b ≠ ea := fun b o e hx => by
    obtain ⟨o', e1⟩ := I0.base.there b o e hx
    exact nes b o' e1
  refine ⟨hn, I.ok, I.os, I.bare, ⟨I.base.keep, I.base.slot, fun b o e n hx => ?_, I.base.there, fun b xs e => ?_, fun b o u e => ?_, fun b ps e => ?_⟩, I.loc, I.cell, ?_, fun x c e => ?_, fun p hp => ?_, fun b u e => ?_, I.len⟩
  · rw [upd_ne (nes0 b o e hx)]
    exact I.base.free b o e n hx
  · have q := I.base.tups b xs e
    rw [upd_ne (ne_of_none q hn)]
    exact q
  · have q := I.base.frzs b o u e
    rw [upd_ne (ne_of_none q hn)]
    exact q
  · obtain ⟨more, q⟩ := I.base.tbls b ps e
    exact ⟨more, by rw [upd_ne (ne_of_none q hn)]; exact q⟩
  · rw [upd_ne (Ne.symm neL)]
    exact I.free
  · obtain ⟨v, o, ho, hdc⟩ := I.cell x c e
    rw [upd_ne]
    · exact I.freeC x c e
    · rintro rfl
      rw [he] at ho
      cases ho
      rw [hd] at hdc
      cases hdc
  · obtain ⟨e, n, ne, nf, d⟩ := I0.pin p hp
    obtain ⟨e', n', ne', nf', d'⟩ := I.pin p hp
    refine ⟨e', ?_, ne', nf', d'⟩
    rw [upd_ne (nes p.1 _ e)]
    exact n'
  · by_cases hb : b = ea
    · subst hb
      rw [upd_same] at e
      cases e
      exact ⟨⟨oe, vs, he, hcls, hd⟩, ⟨oe, he⟩, fun h1 h2 ⟨o, ws, q1, q2, q3⟩ k => ⟨o, ws, k o q1, q2, q3⟩⟩
    · rw [upd_ne hb] at e
      refine (I.hok b u e).stay (fun c v hc q => q) (fun c q => ?_) fun c xs q => ?_
      · rw [upd_ne (ne_of_none q hn)]; exact q
      · rw [upd_ne (ne_of_none q hn)]; exact q
end
end L2

namespace L2
open PySem PySem.Spec PyProof.Rows

/-! ### try: body; except CLASS as name: suite, where the suite gives back -/
section
variable {X : Cx} {x n : Str} {C0 : Addr} {np hpos pos : Pos} {body suite : List Stmt} {b0 : Stmt} {j : Nat} {ts : TS} {tb : XK → TS}
/-- what is wanted of an exception of the body: the class is caught, and the suite is read at the new name -/
def eTry (K : PySem.W.Frag) (C0 : Addr) (len j : Nat) (ts : TS) (rt : VK) : XK := fun cls _ H' => ∃ C, cls = .ref C ∧ PySem.W.exmOne K (.ref C) (.ref C0) = some true ∧
  ∀ ea (σ' : St), H' ea = none → σ'.length = len → ts { nx := fun _ _ => False, rt := rt } (σ'.set j (some (.ref ea))) (upd H' ea (.ext (ExcAt C ea)))
def tTry (K : PySem.W.Frag) (C0 : Addr) (len j : Nat) (tb : XK → TS) (ts : TS) : TS := fun D σ H => tb (eTry K C0 len j ts D.rt) D σ H
theorem ps_try (hc : X.calm = true) (hst : X.stack = X.env :: X.outer ∧ X.env.frame = some X.env.locals) (hN : X.N.Nodup) (hj : X.N[j]? = some n) (hl : X.env.scope.names.lookup n = some .local) (hg : Gl X x) (hm : X.mg x = some (.ref C0))
    (hb : ∀ pn Ec Et, Passes (CX1 X.prog X.w) (X.pnx pn Ec) Et → PassesOwn (model X.prog X.w) X.A X.env Ec → PSs (X.pnx pn Ec) body (tb Et)) (hs : ∀ ea, PSs (X.suite ea) (b0 :: suite) ts)
    (hd : (x == ("__debug__" : Str)) = false := by decide) :
    PS X (.Try body [.ExceptHandler (some (.Name x np)) (some n) (b0 :: suite) hpos] [] [] pos) (tTry X.K C0 X.N.length j tb ts) := by
  intro pins s σ H D I h
  refine wpAny_Try_except ?_
  let Ec : Value → Shared → Prop := fun e s₁ => wpAny (model X.prog X.w) X.A (noteFrame e X.env) (fun _ s₂ => wpAny (model X.prog X.w) X.A (setFlight e none) (fun _ s₃ => wpAny (model X.prog X.w) X.A (handleBy e X.env [.ExceptHandler (some (.Name x np)) (some n) (b0 :: suite) hpos]) (SP X pins D) X.xe s₃) X.xe s₂) X.xe s₁
  have key : Passes (CX1 X.prog X.w) (X.pnx (X.pn ++ pins) Ec) (eTry X.K C0 X.N.length j ts D.rt) := by
    intro pins' σ' H1 s1 e s2 I1 hx
    obtain ⟨ea, t, C, H', B, rfl, os, bare, un, hok, fl, keepB, thereB, C', eC, hexm, hsuite⟩ := hx
    cases eC
    have I0 : Inv X pins σ' H1 s1 := I1.unpnx
    have un' : Un (frs X.stack) [] H1 H' s1.heap s2.heap := un
    have fl' : Heap.FlyingW B (X.env :: X.outer) ea (.ref C) (.ref t) s2.heap := by rw [← hst.1]; exact fl
    refine wpAny_looks_onW (env := X.env) (outer := X.outer) (L := X.env.locals) (by rw [← hst.1]; exact I0.ok.frames) hst.2 fl' fun h4 held4 up4 => ?_
    refine wpAny_landsW held4 fun h5 fl5 up5 => ?_
    have fl5' : Heap.FlyingW B X.stack ea (.ref C) (.ref t) h5 := by rw [hst.1]; exact fl5
    have I5 : Inv X pins σ' H' { s2 with heap := h5 } := I0.landed os bare un' hok fl5' (up4.trans up5) keepB thereB
    have J5 := I5.suite ea
    refine wpAny_handleBy_cons (codeAny_handlers_test ?_) (by intro q; cases q)
    refine ld_glob J5 hg hm ?_ hd
    obtain ⟨ob, hob, hobc⟩ := fl5'.there
    have LT : PySem.W.Looks (model X.prog X.w) h5 (typeOf (.ref ea)) (.ref C) := hobc ▸ (PySem.W.Looks.ld hob).andThen .now
    refine (PySem.W.exm_one (M := model X.prog X.w) I5.kIn LT hexm) _ _ _ _ (fun _ _ q => q) ?_
    show codeAny _ _ _ _ _
    refine codeAny_handlers_suite_as ?_
    refine lands_againW fl5' fun h6 fl6 up6 => ?_
    have I6 : Inv X pins σ' H' { s2 with heap := h6 } := I0.landed os bare un' hok fl6 ((up4.trans up5).trans up6) keepB thereB
    obtain ⟨hna, I7⟩ := I6.tracks I0 hok fl6 keepB thereB
    have J7 := I7.suite ea
    refine store_ok (X := X.suite ea) J7 hN hj (.inl hl) (v := .ref ea) rfl (fun s8 J8 => ?_) (.inr hl)
    refine wpAny_mono (hs ea pins s8 _ _ _ J8 (hsuite ea σ' hna I6.len)) (fun f s9 h9 => ?_) fun _ _ z => z.elim
    cases f with
    | next => obtain ⟨_, _, _, z⟩ := h9; exact z.elim
    | brk => obtain ⟨_, _, _, z⟩ := h9; exact z.elim
    | cont => obtain ⟨_, _, _, z⟩ := h9; exact z.elim
    | ret u =>
      obtain ⟨v, σ9, H9, J9, r9, q9⟩ := h9
      have I9 : Inv X pins σ9 H9 s9 := J9.unsuite I.ok.hd
      obtain ⟨m9, hn9, _⟩ := id I9.loc
      refine wpAny_nameGoes (env := X.env) hl hn9 (by rw [I9.ok.kind]; rfl) fun h' m' hn' hs' => ?_
      exact ⟨v, _, H9, I9.lost hn' hs', r9, q9⟩
  have own : PassesOwn (model X.prog X.w) X.A X.env Ec := PassesOwn.looking
  refine wpAny_mono (hb (X.pn ++ pins) Ec _ key own [] s σ H D (I.pnx Ec) h) (fun f s1 q => ?_) fun e s1 q => q
  have un : ∀ {σ' : St} {H' : Hp}, Inv (X.pnx (X.pn ++ pins) Ec) [] σ' H' s1 → Inv X pins σ' H' s1 := fun J => J.unpnx
  cases f with
  | next => obtain ⟨σ', H', J, z⟩ := q; exact wpAny_execs_nil ⟨σ', H', un J, z⟩
  | brk => obtain ⟨σ', H', J, z⟩ := q; exact ⟨σ', H', un J, z⟩
  | cont => obtain ⟨σ', H', J, z⟩ := q; exact ⟨σ', H', un J, z⟩
  | ret u => obtain ⟨v, σ', H', J, r, z⟩ := q; exact ⟨v, σ', H', un J, r, z⟩
end
end L2

namespace L2
open PySem PySem.Spec PyProof.Rows

/-! ### isinstance of an exception of an own class -/
structure ExcK (K : PySem.W.Frag) (C : Addr) : Prop where
  ga : PySem.W.findIn K (.ref C) "__getattribute__" = some (some (.builtin "BaseException.__getattribute__"))
  gt : PySem.W.findIn K (.ref C) "__getattr__" = some none
  cl : PySem.W.findIn K (.ref C) "__class__" = some (some (.builtin "object.__class__"))
  ob : PySem.W.mroIn K C (.type "object") = some true
  be : PySem.W.mroIn K C (.type "BaseException") = some true
section
variable {prog : Program} {w : World} {A : Around} {E : Value → Shared → Prop} {K : PySem.W.Frag} {h : Heap} {g : Array GenState} {d : Drawn} {t : Nat} {os : OsState} {a C : Addr} {o : Obj}
theorem exc_cls_get {R : Result → Shared → Prop} (X : K.In h) (Z : ExcK K C) (L0 : PySem.W.Looks (model prog w) h (typeOf (.ref a)) (.ref C)) (hq : R (.ok (.ret (.ref C))) ⟨h, g, d, t, os⟩) :
    codeAny (model prog w) A (.call (.builtin "getset_descriptor.__get__") ⟨[.builtin "object.__class__", .ref a, .ref C], []⟩) R ⟨h, g, d, t, os⟩ := by
  have L1 := PySem.W.looks_mroIn (M := model prog w) X Z.ob
  refine codeAny_call_builtin PySem.W.KF.slot_gs.plain PySem.W.KF.entry_gs (PySem.W.KF.slot_gs.check _ _ _ _ _ _ _ _ PySem.W.KF.type_class (PySem.W.KF.args_gs _ _ _) ?_)
  unfold Builtin.«getset_descriptor.__get__» Builtin.Getset_descriptor.descrGet
  rw [PySem.W.dga_obj]
  refine wpAny_bind (wpAny_pure ?_)
  unfold Builtin.Getset_descriptor.descrGetter Builtin.Getset_descriptor.descrCheckInstance Builtin.Getset_descriptor.descrNameAndClass isInstance
  simp only [PySem.W.KF.owner_class]
  repeat lk
  refine ⟨Code.quiet_builtin _ (by decide +kernel), codeAny_builtin PySem.W.KF.entry_class ?_⟩
  unfold Builtin.«object.__class__» shownTypeOf
  repeat lk
  exact hq
theorem exc_cls_entry {tk : Tok} {Q : Fin → Shared → Prop} (X : K.In h) (Z : ExcK K C) (L0 : PySem.W.Looks (model prog w) h (typeOf (.ref a)) (.ref C)) (hq : Q (.done (.ret (.ref C))) ⟨h, g, d, t, os⟩) :
    wpAny (model prog w) A (Builtin.«object.__getattribute__» ⟨[.ref a, .str "__class__" tk], []⟩) Q E ⟨h, g, d, t, os⟩ := by
  have T5 : (⟨h, g, d, t, os⟩ : Shared).TypeIs (.builtin "object.__class__") "getset_descriptor" := F.typeOf_object_class
  have g5 := F.typeOf_object_class
  have g6 := F.slot_gs_get.lookup
  have g7 := F.slot_gs_set.lookup
  have L3 := PySem.W.looks_findIn (M := model prog w) X Z.cl
  repeat (any_goals (first | assumption | with_reducible refine L0.at ?_ | with_reducible refine L3.at ?_ | wp_step))
  refine exc_cls_get X Z L0 ?_
  repeat (any_goals (first | assumption | wp_step))
theorem exc_ga_check {M : Model} {nameV : Value} {Q : Unit → Shared → Prop} (X : K.In h) (Z : ExcK K C) (L0 : PySem.W.Looks M h (typeOf (.ref a)) (.ref C)) (hq : Q () ⟨h, g, d, t, os⟩) :
    wpAny M A (checkBuiltinCall "BaseException.__getattribute__" ⟨[.ref a, nameV], []⟩) Q E ⟨h, g, d, t, os⟩ := by
  have kd : builtinKind "BaseException.__getattribute__" = some .slot := by decide +kernel
  have sp : splitId "BaseException.__getattribute__" = some ("BaseException", "__getattribute__") := by decide +kernel
  have ha := F.args_bexc_ga (.ref a) nameV
  have L2 := PySem.W.looks_mroIn (M := M) X Z.be
  simp only [checkBuiltinCall, kd, sp]
  refine wpAny_bind ?_
  unfold isInstance
  repeat (first | with_reducible refine L0.at ?_ | with_reducible refine L2.at ?_ | wp_step)
  exact hq
theorem exc_cls_by {tk : Tok} {Q : Value → Shared → Prop} (X : K.In h) (Z : ExcK K C) (L0 : PySem.W.Looks (model prog w) h (typeOf (.ref a)) (.ref C)) (hq : Q (.ref C) ⟨h, g, d, t, os⟩) :
    wpAny (model prog w) A (getAttrBy (.ref a) (.str "__class__" tk) false) Q E ⟨h, g, d, t, os⟩ := by
  have g3 := F.excAttr_ValueError.ga.bind (.ref a)
  have z2 : (Value.builtin "BaseException.__getattribute__" == Value.builtin "object.__getattribute__") = false := by decide +kernel
  have z1 : (onTheHeap (Value.ref C) && Value.builtin "BaseException.__getattribute__" == Value.builtin "object.__getattribute__") = false := by rw [z2]; rfl
  have L1 := PySem.W.looks_findIn (M := model prog w) X Z.ga
  have L2 := PySem.W.looks_findIn (M := model prog w) X Z.gt
  repeat (any_goals (first | assumption | with_reducible refine L0.at ?_ | with_reducible refine L1.at ?_ | with_reducible refine L2.at ?_ | wp_step))
  refine codeAny_call_builtin F.excAttr_ValueError.ga.plain F.entry_bexc_ga (exc_ga_check X Z L0 (exc_cls_entry X Z L0 ?_))
  repeat (any_goals (first | assumption | wp_step))
theorem exc_cls_attr {Q : Option Value → Shared → Prop} (X : K.In h) (Z : ExcK K C) (L0 : PySem.W.Looks (model prog w) h (typeOf (.ref a)) (.ref C)) (hq : Q (some (.ref C)) ⟨h, g, d, t + 1, os⟩) :
    wpAny (model prog w) A (getAttr? (.ref a) "__class__") Q E ⟨h, g, d, t, os⟩ := by
  unfold getAttr? getAttrBy?
  repeat (any_goals (first | assumption | with_reducible apply exc_cls_by X Z L0 | wp_step))
end
end L2

namespace L2
open PySem PySem.Spec PyProof.Rows

/-! ### isinstance(e, C) of a caught exception -/
theorem kit_exc {K : PySem.W.Frag} {a C : Addr} {cd : ClassData} (Z : ExcK K C) (hc : PySem.W.clsIn K C = some cd) : PySem.W.KitX K (.ref a) (.ref C) (ExcAt C a) where
  ty := fun M h X p => by
    obtain ⟨o, vs, e, c, _⟩ := p
    exact c ▸ (PySem.W.Looks.ld e).andThen .now
  it := fun M h X p => by
    unfold PySem.W.clsIn at hc
    split at hc
    · rename_i c' d' cd' sl' ho
      intro A' Q' E' s' k q
      unfold isType loadHead
      exact wpAny_bind (wpAny_loadPart (k _ _ (X _ _ ho)) (wpAny_pure q))
    · cases hc
  ne := fun h tp dd its n sl X htp => by
    refine Bool.eq_false_iff.mpr fun q => ?_
    have e : C = tp := Value.ref.inj (beq_iff_eq.mp q)
    subst e
    unfold PySem.W.clsIn at hc
    split at hc
    · rename_i c' d' cd' sl' ho
      have z := (X _ _ ho).symm.trans htp
      cases z
    · cases hc
  ca := fun {prog w A E Q s} X p k => by
    obtain ⟨o, vs, e, c, _⟩ := p
    obtain ⟨h, g, d, t, os⟩ := s
    have L0 : PySem.W.Looks (model prog w) h (typeOf (.ref a)) (.ref C) := c ▸ (PySem.W.Looks.ld e).andThen .now
    exact exc_cls_attr X Z L0 k
/-- the class, or the type, that stands behind isinstance's comma -/
def clsV : V → Option Value
  | .ref a => some (.ref a)
  | .ty n => some (.type n)
  | _ => none
section
variable {X : Cx}
theorem call_isinstE : CallR X (.builtin "isinstance") (fun xs H Q => ∃ a C cd c cv b, xs = [.ref a, c] ∧ H a = some (.ext (ExcAt C a)) ∧ ExcK X.K C ∧ PySem.W.clsIn X.K C = some cd ∧ clsV c = some cv ∧ PySem.W.kitOne X.K (.ref C) cv = some b ∧ Q (.bl b) H) := by
  intro pins s σ H xs us Q I r h
  obtain ⟨a, C, cd, c, cv, b, e, ha, Z, hcd, hcv, hk, q⟩ := h
  subst e
  obtain ⟨u, w', rfl, ru, rw'⟩ := vals2 r
  cases ru
  have hw : w' = cv := by
    cases c with
    | ref z => cases hcv; cases rw'; rfl
    | ty z => cases hcv; cases rw'; rfl
    | _ => cases hcv
  subst hw
  obtain ⟨p, _, _⟩ := (show ObjOk X.prog X.w H s.heap a (.ext (ExcAt C a)) from I.hok a _ ha)
  exact PySem.W.kia_one (kit_exc Z hcd) I.kIn p hk (fun z => nomatch z) fun tk => ⟨.bl b, H, I.tok tk, rfl, q⟩

/-! ### xs.count(y), xs.index(y) of flat items -/
theorem count_eqU {x : V} : ∀ {xs : List V} {us : List Value}, Vals xs us → xs.all flatV = true → us.countP (eqU x) = xs.countP fun y => eqV y x
  | _, _, .nil, _ => rfl
  | _, _, .cons r t, f => by
    rw [List.all_cons, Bool.and_eq_true] at f
    rw [List.countP_cons, List.countP_cons, count_eqU t f.2, eqU_of r f.1]
def rCount (K : PySem.W.Frag) : V → List V → Hp → VK → Prop := fun x vs H Q => ∃ l xs y, x = .ref l ∧ vs = [y] ∧ SqL K H l xs ∧ flatV y = true ∧ xs.all flatV = true ∧ Q (.int (xs.countP fun z => eqV z y : Nat)) H
theorem mt_count : MtR X "list.count" (rCount X.K) := by
  intro pins s σ H x vs v us Q I rx rv h
  obtain ⟨l, xs, y, e1, e2, hq, fy, fx, q⟩ := h
  subst e1 e2
  cases rx
  obtain ⟨u, rfl, ru⟩ := vals1 rv
  obtain ⟨its, rt, ⟨⟨c, dd, dt, sl⟩, n, ho, hc, hdd, hd⟩, _⟩ := I.list hq
  replace hc : c = .type "list" := hc
  replace hd : dt = .seq its.toArray n := hd
  subst hc hd
  refine call_meets PySem.F.slot_list_count ⟨_, ho, rfl⟩ PySem.F.entry_list_count (PySem.F.args_list_count_2 _ _) (SeqAt.list_countAt l its.toArray n dd sl u (eqU y)) ⟨ho, fun z hz => mem_eqAt ru fy rt fx z (by simpa using hz), ?_⟩
  rw [show its.toArray.toList = its from rfl, count_eqU rt fx]
  exact ⟨.int _, H, I.tok _, ⟨_, rfl⟩, q⟩
def rIndex (K : PySem.W.Frag) : V → List V → Hp → VK → Prop := fun x vs H Q => ∃ l xs y j z, x = .ref l ∧ vs = [y] ∧ SqL K H l xs ∧ flatV y = true ∧ xs.all flatV = true ∧ xs.length ≤ 1000 ∧ xs[j]? = some z ∧ eqV z y = true ∧ (∀ (i : Nat) z', i < j → xs[i]? = some z' → eqV z' y = false) ∧ Q (.int (j : Nat)) H
theorem mt_index : MtR X "list.index" (rIndex X.K) := by
  intro pins s σ H x vs v us Q I rx rv h
  obtain ⟨l, xs, y, j, z, e1, e2, hq, fy, fx, hl, hj, hz, hno, q⟩ := h
  subst e1 e2
  cases rx
  obtain ⟨u, rfl, ru⟩ := vals1 rv
  obtain ⟨its, rt, ⟨⟨c, dd, dt, sl⟩, n, ho, hc, hdd, hd⟩, _⟩ := I.list hq
  replace hc : c = .type "list" := hc
  replace hd : dt = .seq its.toArray n := hd
  subst hc hd
  have hlen := rt.length
  have fl : ∀ (i : Nat) z', xs[i]? = some z' → flatV z' = true := fun i z' e => List.all_eq_true.mp fx z' (List.mem_of_getElem? e)
  have at' : ∀ (i : Nat) z', xs[i]? = some z' → ∃ h : i < its.length, eqU y its[i] = eqV z' y := fun i z' e => by
    obtain ⟨w, hw, rw'⟩ := rt.get e
    obtain ⟨hi, ew⟩ := List.getElem?_eq_some_iff.mp hw
    exact ⟨hi, by rw [ew]; exact eqU_of rw' (fl i z' e)⟩
  obtain ⟨hjl, hje⟩ := at' j z hj
  refine call_meets PySem.F.slot_list_index ⟨_, ho, rfl⟩ PySem.F.entry_list_index (PySem.F.args_list_index_2 _ _) (SeqAt.list_indexAt l its.toArray n dd sl u (eqU y) j (by simpa using hjl) (by omega) (by simpa using hje.trans hz) (fun m hm hmj => ?_)) ⟨ho, fun z hz => mem_eqAt ru fy rt fx z (by simpa using hz), ?_⟩
  · have hm' : m < xs.length := by
      have : m < its.length := by simpa using hm
      omega
    obtain ⟨hi, e⟩ := at' m xs[m] (List.getElem?_eq_getElem hm')
    have := hno m xs[m] hmj (List.getElem?_eq_getElem hm')
    simpa using e.trans this
  · exact ⟨.int _, H, I.tok _, ⟨_, rfl⟩, q⟩
end

/-! ### defs that may raise -/
def Df1 (P : Program) (w : World) (K : PySem.W.Frag) (mg : Str → Option Value) (base : Heap) (k : Nat) (x : Str) (ps : List Str) (sp : Sp) : Prop :=
  ∃ f fd, FnOk P w K mg base (CX1 P w) k f fd ps sp ∧ Binds K fd ps [] ∧ PySem.W.keepIn K (.ref f) = true ∧ mg x = some (.ref f)
section
variable {P : Program} {w : World} {K : PySem.W.Frag} {mg : Str → Option Value} {base : Heap} {x : Str} {ps N : List Str} {st : Stmt} {k : Nat} {sp : Sp}
theorem Df1.mono {j : Nat} (D : Df1 P w K mg base j x ps sp) (h : j ≤ k) : Df1 P w K mg base k x ps sp := by
  obtain ⟨f, fd, F, b, z⟩ := D
  exact ⟨f, fd, F.mono h, b, z⟩
theorem Tx.ok1 (T : Tx K mg x ps st) (S : FnScope N ps (defScope st)) (len : ∀ vs H Q E, sp vs H Q E → vs.length = ps.length)
    (hbody : ∀ (f : Addr) (cdv : Value) (A : Around) (outer : List Env) (s : Shared) (H : Hp) (vs : List V) (Q : VK) (E : XK), Room k (A.deeper (envOfC x (defScope st) s.heap.objs.size f cdv)) → sp vs H Q E →
      ∃ t, PSs (cx1 P w K mg base N x (defScope st) f cdv A outer s H E) (defBody st) t ∧ t { nx := fun _ H' => Q .non H', rt := Q } (start N vs) H) : Df1 P w K mg base (k + 1) x ps sp := by
  obtain ⟨f, fd, F, b, m⟩ := T
  obtain ⟨oc, od, kV, doc, pm, an, cdv, ct, osl, rfl, lk, hcd⟩ := F.ex
  exact ⟨f, _, fn_of lk hcd S len fun A outer s H vs Q E hr hsp => hbody f cdv A outer s H vs Q E hr hsp, b, F.kp, m⟩
end
section
variable {X : Cx} {k : Nat} {x : Str} {ps : List Str} {sp : Sp} {p pos : Pos} {e : Expr} {es : List Expr} {t : TA} {E : XK}
theorem pe_callD1 (D : Df1 X.prog X.w X.K X.mg X.base k x ps sp) (hr : Room k X.A) (hg : Gl X x) (hp : Passes (CX1 X.prog X.w) X E) (ha : PA X (e :: es) t) (hdb : (x == ("__debug__" : Str)) = false := by decide)
    (he : starEach (e :: es) X.env = (false, eval e X.env) :: starEach es X.env := by rfl) (hpl : (backTo pos (starEach es X.env)).any (·.1) = false := by rfl) :
    PE X (.Call (.Name x p) (e :: es) [] pos) (tCall sp [] E t) := by
  obtain ⟨f, fd, F, b, kp, m⟩ := D
  exact pe_call F hr hg m kp b .nil hp ha hdb he hpl
end

/-! ### defs that are called in an except suite -/
structure RoomH (k : Nat) (A : Around) : Prop where
  dp : A.depth + 3 * k + 5 < recursionLimit
  un : A.units + 16 * k + 200 < cLine
theorem Room.h {k : Nat} {A : Around} (r : Room k A) (v : Value) : RoomH k (A.mark (some v)) := ⟨r.dp, r.un⟩
theorem RoomH.deeper {k : Nat} {A : Around} (r : RoomH (k + 1) A) (env : Env) : RoomH k (A.deeper env) :=
  ⟨by have := r.dp; show A.depth + 1 + 3 * k + 5 < _; omega, by have := r.un; show A.units + 3 + 16 * k + 200 < _; omega⟩
theorem RoomH.units {k : Nat} {A : Around} (r : RoomH k A) : A.units + 64 < cLine := by have := r.un; omega
structure FnOkH (P : Program) (w : World) (K : PySem.W.Frag) (mg : Str → Option Value) (base : Heap) (k : Nat) (f : Addr) (fd : FuncData) (ps : List Str) (sp : Sp) : Prop where
  len : ∀ vs H Q E, sp vs H Q E → vs.length = ps.length
  run : ∀ (A : Around) (outer : List Env) (s : Shared) (H : Hp) (args : Args) (us : List Value) (vs : List V) (Q : VK) (E : XK), RoomH k A → Env0 P w K mg base A outer s H → BindsTo s fd args (ps.zip us) → Vals vs us → sp vs H Q E →
    codeAny (model P w) A (.call (.ref f) args) (CR CX0 outer P w H s Q E) s
def DfH (P : Program) (w : World) (K : PySem.W.Frag) (mg : Str → Option Value) (base : Heap) (k : Nat) (x : Str) (ps : List Str) (sp : Sp) : Prop :=
  ∃ f fd, FnOkH P w K mg base k f fd ps sp ∧ Binds K fd ps [] ∧ PySem.W.keepIn K (.ref f) = true ∧ mg x = some (.ref f)
/-- the context of such a def's body -/
abbrev cxH (P : Program) (w : World) (K : PySem.W.Frag) (mg : Str → Option Value) (base : Heap) (N : List Str) (qual : Str) (scope : Scope) (f : Addr) (cd : Value) (A : Around) (outer : List Env) (s : Shared) (H : Hp) : Cx :=
  { (cxOf CX0 P w K mg base N qual scope f cd A outer s H E0).nox with calm := false }
section
variable {P : Program} {w : World} {K : PySem.W.Frag} {mg : Str → Option Value} {base : Heap} {x : Str} {ps N : List Str} {st : Stmt} {k : Nat} {sp : Sp}
theorem Tx.okH (T : Tx K mg x ps st) (S : FnScope N ps (defScope st)) (len : ∀ vs H Q E, sp vs H Q E → vs.length = ps.length)
    (hbody : ∀ (f : Addr) (cdv : Value) (A : Around) (outer : List Env) (s : Shared) (H : Hp) (vs : List V) (Q : VK) (E : XK), RoomH k (A.deeper (envOfC x (defScope st) s.heap.objs.size f cdv)) → sp vs H Q E →
      ∃ t, PSs (cxH P w K mg base N x (defScope st) f cdv A outer s H) (defBody st) t ∧ t { nx := fun _ H' => Q .non H', rt := Q } (start N vs) H) : DfH P w K mg base (k + 1) x ps sp := by
  obtain ⟨f, fd, F, b, m⟩ := T
  obtain ⟨oc, od, kV, doc, pm, an, cdv, ct, osl, rfl, lk, hcd⟩ := F.ex
  refine ⟨f, _, ⟨len, fun A outer s H args us vs Q E hr e0 hb r hsp => ?_⟩, b, F.kp, m⟩
  have hl := len _ _ _ _ hsp
  have KX : K.In s.heap := e0.mod.kin.keeps fun b o e => (e0.bs b o e).1
  have lim : s.heap.NoLimit := e0.mod.nolimit.keeps fun b o e => (e0.bs b o e).1
  have hkind : ∀ y ∈ ps.zip us, (defScope st).names.lookup y.1 = some .local ∨ ((defScope st).names.lookup y.1 = some .cell ∧ ((cellsFrom (s.heap.objs.size + 1) (defScope st).names []).lookup y.1).isSome = true) := fun ⟨n, v⟩ hy => by
    rcases S.par n (List.of_mem_zip hy).1 with q | q
    · exact .inl q
    · exact .inr ⟨q, PySem.W.cellsFrom_some _ _ _ (.inl q)⟩
  refine codeAny_call_function (by have := hr.dp; omega) (KX _ _ lk) rfl S.co S.gen rfl (PySem.W.codeRec_of KX hcd) (hb _ _ _ _ ?_)
  refine wpAny_newFunctionEnv_cells S.kind hkind fun env he s1 xx => ?_
  subst he
  refine ⟨lim.keeps xx.toInCall.keep, codeAny_func ?_⟩
  obtain ⟨t, ht, hq⟩ := hbody f cdv A outer s H vs Q E (hr.deeper _) hsp
  have I0 : Inv (cxOf CX0 P w K mg base N x (defScope st) f cdv { A with handled := none } outer s H E0) [] (start N vs) H s1 := inv_start S rfl ⟨e0.frames, e0.mod, e0.bs, e0.bsz, e0.funs, e0.frf, e0.hok, e0.bare⟩ hl r xx
  have I : Inv (cxH P w K mg base N x (defScope st) f cdv A outer s H) [] (start N vs) H s1 :=
    ⟨⟨I0.ok.mod, I0.ok.kind, I0.ok.glob, I0.ok.blt, I0.ok.above, I0.ok.inj, I0.ok.has, I0.ok.cab, fun z => absurd z Bool.false_ne_true, Around.frames_deeper e0.frames, I0.ok.stk, I0.ok.exf, I0.ok.bs, I0.ok.bsz, I0.ok.noex, I0.ok.exfs, I0.ok.funs, I0.ok.frf⟩, I0.os, I0.bare, I0.base, I0.loc, I0.cell, I0.free, I0.freeC, I0.pin, I0.hok, I0.len⟩
  refine wpAny_mono (ht [] s1 (start N vs) H _ I hq) (fun fl s' hs => ?_) fun e s' hs => hs.elim
  cases fl with
  | ret u =>
    obtain ⟨v, σ', H', J, rv, q⟩ := hs
    exact ⟨v, H', J.os, J.bare, J.base, J.hok, rv, q⟩
  | next =>
    obtain ⟨σ', H', J, q⟩ := hs
    exact ⟨V.non, H', J.os, J.bare, J.base, J.hok, rfl, q⟩
  | brk =>
    obtain ⟨_, _, _, q⟩ := hs
    exact q.elim
  | cont =>
    obtain ⟨_, _, _, q⟩ := hs
    exact q.elim
end
section
variable {X : Cx} {k : Nat} {x : Str} {ps : List Str} {sp : Sp} {p pos : Pos} {e : Expr} {es : List Expr} {t : TA}
theorem pe_callDH (D : DfH X.prog X.w X.K X.mg X.base k x ps sp) (hr : RoomH k X.A) (hg : Gl X x) (ha : PA X (e :: es) t) (hdb : (x == ("__debug__" : Str)) = false := by decide)
    (he : starEach (e :: es) X.env = (false, eval e X.env) :: starEach es X.env := by rfl) (hpl : (backTo pos (starEach es X.env)).any (·.1) = false := by rfl) :
    PE X (.Call (.Name x p) (e :: es) [] pos) (tCall sp [] E0 t) := by
  obtain ⟨f, fd, F, b, kp, m⟩ := D
  intro pins s σ H Q I h
  refine wpAny_Call_Name_kw (ld_glob I hg m ?_ hdb)
  refine PySem.W.callWith_K (h₀ := X.base) I.ok.mod.kin kp (thn (ha pos pins s σ H _ I h) fun us s1 ⟨vs, H1, I1, r, q⟩ => ⟨I1.kIn, ?_⟩) he hpl
  have q' : sp vs H1 Q E0 := by
    have z : sp (vs ++ []) H1 Q E0 := q
    rw [List.append_nil] at z
    exact z
  have hl : (us ++ []).length = ps.length := by rw [List.append_nil, ← r.length]; exact F.len _ _ _ _ q'
  have bb := b s1 us I1.kIn hl
  rw [List.append_nil] at bb
  refine wpAny_call (codeAny_mono (F.run X.A X.stack s1 H1 ⟨us, []⟩ us vs Q E0 hr I1.env0 bb r q') fun r s' hq => ?_)
  cases r with
  | error e => exact hq.elim
  | ok fl =>
    cases fl with
    | ret u => exact I1.after hq
    | next => exact hq.elim
    | brk => exact hq.elim
    | cont => exact hq.elim
end
end L2

namespace L2
open PySem PySem.Spec PyProof.Rows

/-! ### sum -/
theorem preSum_take (ns : List Int) : ∀ j, j ≤ ns.length → preSum (fun i => ns.getD i 0) j = (ns.take j).sum
  | 0, _ => by simp [preSum]
  | j + 1, h => by
    have ih := preSum_take ns j (by omega)
    have hj : j < ns.length := by omega
    unfold preSum
    rw [ih, List.take_add_one, List.getElem?_eq_getElem hj, List.sum_append]
    simp [List.getD_eq_getElem?_getD, List.getElem?_eq_getElem hj]
theorem sum_nn : ∀ {ns : List Int}, (∀ n ∈ ns, 0 ≤ n) → 0 ≤ ns.sum
  | [], _ => by simp
  | n :: r, h => by
    have h1 := h n List.mem_cons_self
    have h2 := sum_nn fun x hx => h x (List.mem_cons_of_mem _ hx)
    rw [List.sum_cons]
    omega
theorem sum_take_le {ns : List Int} (h : ∀ n ∈ ns, 0 ≤ n) (j : Nat) : (ns.take j).sum ≤ ns.sum := by
  have e : ns.sum = (ns.take j).sum + (ns.drop j).sum := by rw [← List.sum_append, List.take_append_drop]
  have := sum_nn fun x (hx : x ∈ ns.drop j) => h x (List.mem_of_mem_drop hx)
  omega
theorem getD_nn {ns : List Int} (h : ∀ n ∈ ns, 0 ≤ n) (j : Nat) : 0 ≤ ns.getD j 0 := by
  rw [List.getD_eq_getElem?_getD]
  cases e : ns[j]? with
  | none => simp
  | some n => exact h n (List.mem_of_getElem? e)
theorem ints_at {ns : List Int} {its : List Value} (r : Vals (ns.map V.int) its) {i : Nat} {v : Value} (h : its.toArray[i]? = some v) : ∃ t, v = .int (ns.getD i 0) t := by
  have h' : its[i]? = some v := by simpa using h
  have hl := r.length
  rw [List.length_map] at hl
  have hi : i < ns.length := by rw [hl]; exact (List.getElem?_eq_some_iff.mp h').1
  obtain ⟨u, hu, t, rfl⟩ := r.get (i := i) (x := .int ns[i]) (by rw [List.getElem?_map, List.getElem?_eq_getElem hi]; rfl)
  rw [h'] at hu
  cases hu
  exact ⟨t, by rw [List.getD_eq_getElem?_getD, List.getElem?_eq_getElem hi]; rfl⟩
section
variable {X : Cx}
def rSum (K : PySem.W.Frag) : List V → Hp → VK → Prop := fun xs H Q => ∃ (p : Addr) (ns : List Int), xs = [.ref p] ∧ (SqL K H p (ns.map V.int) ∨ SqT K H p (ns.map V.int)) ∧ (∀ n ∈ ns, 0 ≤ n) ∧ ns.sum < 2 ^ 62 ∧ Q (.int ns.sum) H
theorem call_sum (hc : X.calm = true) : CallR X (.builtin "sum") (rSum X.K) := by
  intro pins s σ H xs us Q I r h
  obtain ⟨p, ns, rfl, hq, nn, hs, q⟩ := h
  obtain ⟨u, rfl, rx⟩ := vals1 r
  cases rx
  have fit : ∀ j, j < ns.length → InLong ((fun i => ns.getD i 0) j) ∧ InLong (preSum (fun i => ns.getD i 0) (j + 1)) := fun j hj => by
    have h1 := getD_nn nn j
    have h2 := sum_take_le nn (j + 1)
    have h3 := sum_nn fun x (hx : x ∈ ns.take (j + 1)) => nn x (List.mem_of_mem_take hx)
    have h4 : ns.getD j 0 ≤ (ns.take (j + 1)).sum := by
      have h5 := sum_nn fun x (hx : x ∈ ns.take j) => nn x (List.mem_of_mem_take hx)
      rw [List.take_add_one, List.getElem?_eq_getElem hj, List.sum_append]
      simp [List.getD_eq_getElem?_getD, List.getElem?_eq_getElem hj]
      omega
    rw [preSum_take ns (j + 1) (by omega)]
    refine ⟨⟨?_, ?_⟩, ?_, ?_⟩
    · show -(2 ^ 63) ≤ ns.getD j 0; omega
    · show ns.getD j 0 < 2 ^ 63; omega
    · omega
    · omega
  rcases hq with hq | hq
  · obtain ⟨its, r', pl, hz⟩ := I.list hq
    have hlen := r'.length
    rw [List.length_map] at hlen
    have hls := pl.isList
    have hlt : p < s.heap.objs.size := by obtain ⟨_, e, _⟩ := id hls; exact Heap.lt_size e
    refine call_sum_walk (wpAny_pyIter_list hls ?_)
    refine ⟨_, [s.heap.objs.size, p], [s.heap.objs.size], its.toArray.size, _, _, fun i => ns.getD i 0, rfl, Walks.list (A := X.A.in1) (I.ok.hd hc) _ p (Nat.ne_of_lt hlt) its.toArray, ⟨⟨_, Heap.get?_push_size _ rfl, rfl, rfl⟩, hls.push _⟩, fun b hb => ?_, fun i v hv => ints_at r' hv, fun j hj => fit j (by rw [List.size_toArray] at hj; omega), fun h' tk t' hk => ?_⟩
    · show b < (s.heap.push _).objs.size
      rw [Heap.size_push]
      rcases List.mem_cons.mp hb with rfl | hb
      · exact Nat.lt_succ_self _
      · rcases List.mem_cons.mp hb with rfl | hb
        · exact Nat.lt_succ_of_lt hlt
        · cases hb
    · have old : ∀ b o, s.heap.get? b = some o → h'.get? b = some o := fun b o e => hk b o (fun z => absurd (Heap.lt_size e) (by rw [List.mem_singleton.mp z]; exact Nat.lt_irrefl _)) (Heap.get?_push_of_some _ e)
      refine ⟨.int ns.sum, H, I.kept (t' := tk) old, ⟨t', ?_⟩, q⟩
      rw [List.size_toArray, ← hlen, preSum_take ns ns.length (Nat.le_refl _), List.take_length]
  · obtain ⟨its, r', pl, hz⟩ := I.tuple hq
    have hlen := r'.length
    rw [List.length_map] at hlen
    have hlt : p < s.heap.objs.size := by obtain ⟨_, e, _⟩ := id pl; exact Heap.lt_size e
    refine call_sum_walk (wpAny_pyIter_tuple pl ?_)
    refine ⟨_, [s.heap.objs.size, p], [s.heap.objs.size], its.toArray.size, _, _, fun i => ns.getD i 0, rfl, Walks.tuple (A := X.A.in1) (I.ok.hd hc) _ p (Nat.ne_of_lt hlt) its.toArray, ⟨⟨_, Heap.get?_push_size _ rfl, rfl, rfl⟩, pl.push _⟩, fun b hb => ?_, fun i v hv => ints_at r' hv, fun j hj => fit j (by rw [List.size_toArray] at hj; omega), fun h' tk t' hk => ?_⟩
    · show b < (s.heap.push _).objs.size
      rw [Heap.size_push]
      rcases List.mem_cons.mp hb with rfl | hb
      · exact Nat.lt_succ_self _
      · rcases List.mem_cons.mp hb with rfl | hb
        · exact Nat.lt_succ_of_lt hlt
        · cases hb
    · have old : ∀ b o, s.heap.get? b = some o → h'.get? b = some o := fun b o e => hk b o (fun z => absurd (Heap.lt_size e) (by rw [List.mem_singleton.mp z]; exact Nat.lt_irrefl _)) (Heap.get?_push_of_some _ e)
      refine ⟨.int ns.sum, H, I.kept (t' := tk) old, ⟨t', ?_⟩, q⟩
      rw [List.size_toArray, ← hlen, preSum_take ns ns.length (Nat.le_refl _), List.take_length]
variable {own : List Str} {scope : Scope} {C : Addr} {s₀ : Shared} {H₀ : Hp} {ex : List Addr}
theorem call_sumB (hc : X.calm = true) : CallR (blk X own scope C s₀ H₀ ex) (.builtin "sum") (rSum X.K) := call_sum (X := blk X own scope C s₀ H₀ ex) hc
theorem call_tupleB : CallR (blk X own scope C s₀ H₀ ex) (.type "tuple") (fun xs H Q => ∃ p ys, xs = [.ref p] ∧ ((SqL X.K H p ys ∧ ∀ l, H l = none → Q (.ref l) (upd H l (.tup ys))) ∨ (SqT X.K H p ys ∧ Q (.ref p) H))) := call_tuple_of
theorem mt_countB : MtR (blk X own scope C s₀ H₀ ex) "list.count" (rCount X.K) := mt_count
end
end L2

namespace L2
open PySem PySem.Spec PyProof.Rows

/-! ### a lambda's frame -/
abbrev lamEnv (X : Cx) (qual : Str) (scope : Scope) (L f : Addr) (cd : Value) : Env := PySem.W.envX qual scope L f cd (clOf X.env.cells scope.names [])
def lamC (X : Cx) (own : List Str) (qual : Str) (scope : Scope) (f : Addr) (cd : Value) (A : Around) (s : Shared) (H : Hp) : Cx :=
  { X with A := A.deeper (lamEnv X qual scope s.heap.objs.size f cd), N := own ++ X.N, s₀ := s, H₀ := H, env := lamEnv X qual scope s.heap.objs.size f cd, outer := X.stack, stack := lamEnv X qual scope s.heap.objs.size f cd :: X.stack, ex := [], fn := fun _ => false, calm := true, pn := [], xe := fun _ _ => False }
section
variable {X : Cx} {pins : List (Addr × Obj)} {σ : St} {H : Hp} {s : Shared} {x : Str} {qual : Str} {scope : Scope} {f : Addr} {cd : Value} {A : Around}
theorem lam_inv {v : V} {u : Value} {h1 : Heap} {m : Str → Option Value} {tk : Nat} (I : Inv X pins σ H s) (B : BlkScope X [x] scope) (hxl : scope.names.lookup x = some .local) (hfr : A.frames = X.A.frames) (hh : A.handled = none)
    (hns : h1.Ns s.heap.objs.size m) (hm : m x = some u) (old : ∀ b o, s.heap.get? b = some o → h1.get? b = some o) (rv : RelV v u) :
    Inv (lamC X [x] qual scope f cd A s H) [] (some v :: σ) H { s with heap := h1, toks := tk } := by
  have look : ∀ x c, (clOf X.env.cells scope.names []).lookup x = some c → X.env.cells.lookup x = some c := fun x c h => by
    rcases clOf_look _ _ _ _ _ h with q | q
    · simp at q
    · exact q
  have noA : ∀ b : Addr, b ∉ (lamC X [x] qual scope f cd A s H).ex := fun b z => absurd (show b ∈ ([] : List Addr) from z) (by simp)
  refine ⟨⟨I.ok.mod, B.kind, rfl, rfl, Nat.le_refl _, fun y z c h1 h2 => I.ok.inj y z c (look y c h1) (look z c h2), fun y hy => ?_, fun y c h => absurd h Bool.false_ne_true, fun _ => hh, Around.frames_deeper (hfr.trans I.ok.frames), .inr ⟨rfl, rfl⟩, fun b z => absurd z (noA b),
      I.bs, Nat.le_trans I.ok.bsz I.sz, fun b _ _ => noA b, fun b z => absurd z (noA b), I.stack, I.stkFree⟩,
    rfl, I.bare, Un.kept old, ⟨m, hns, fun i y w e1 e2 e3 => ?_⟩, fun y c e => ?_, I.hok.fresh (Nat.le_refl _), fun y c e => I.freeC y c (look y c e), fun p hp => absurd (show p ∈ ([] : List (Addr × Obj)) from hp) (by simp), I.hok.kept old, ?_⟩
  · have hy' : scope.names.lookup y = some .cell ∨ scope.names.lookup y = some .free := hy
    rcases hy' with q | q
    · exact absurd rfl (B.nocell _ (PySem.mem_of_lookup q))
    · have hm := PySem.mem_of_lookup q
      obtain ⟨c, hc⟩ := I.ok.has y (B.free _ hm rfl)
      exact ⟨c, clOf_has _ _ _ _ _ hc hm⟩
  · have e3' : scope.names.lookup y = some .local ∨ scope.names.lookup y = some .cell ∨ scope.names.lookup y = some .free := e3
    cases i with
    | zero =>
      have hy : x = y := by
        have q : ([x] ++ X.N)[0]? = some y := e1
        simpa using q
      subst hy
      have hv : v = w := by simpa using e2
      subst hv
      exact ⟨u, rv, .inl ⟨hxl, hm⟩⟩
    | succ i =>
      have e1' : X.N[i]? = some y := by simpa [lamC] using e1
      have e2' : σ[i]? = some (some w) := by simpa using e2
      rcases e3' with z | z | z
      · exact absurd (List.mem_of_getElem? e1') (B.loc _ (PySem.mem_of_lookup z) rfl)
      · exact absurd rfl (B.nocell _ (PySem.mem_of_lookup z))
      · have hmem := PySem.mem_of_lookup z
        have hx := B.free _ hmem rfl
        have vis : Vis X.env.scope y := by
          rcases hx with q | q
          · exact .inr (.inl q)
          · exact .inr (.inr q)
        obtain ⟨mX, hnX, hlX⟩ := I.loc
        obtain ⟨u', r, l⟩ := hlX _ y w e1' e2' vis
        refine ⟨u', r, .inr ⟨.inr z, ?_⟩⟩
        rcases l with ⟨q, _⟩ | ⟨_, c, hc, hcell⟩
        · rw [q] at hx
          rcases hx with y | y <;> cases y
        · exact ⟨c, clOf_has _ _ _ _ _ hc hmem, hcell.keeps old⟩
  · obtain ⟨v', hv⟩ := I.cell y c (look y c e)
    exact ⟨v', hv.keeps old⟩
  · show (some v :: σ).length = ([x] ++ X.N).length
    rw [List.length_cons, I.len]
    simp

theorem lam_call {name : Str} {params : Arguments} {body : Expr} {pm ctv : Value} {c' : Addr} {v : V} {u : Value} {te : TE} {Q : VK} {E : Value → Shared → Prop} (I : Inv X pins σ H s) (B : BlkScope X [x] scope) (hxl : scope.names.lookup x = some .local)
    (hco : scope.isCoroutine = false) (hgen : scope.isGenerator = false) (hfr : A.frames = X.A.frames) (hh : A.handled = none) (hroom : A.depth < recursionLimit)
    (ho : s.heap.get? f = some (PySem.W.kla_obj name qual params body scope (clOf X.env.cells scope.names []) pm c' ctv)) (hcd : s.heap.CodeRec (.ref c') qual)
    (hb : bindArgs (PySem.W.kla_fn name qual params body scope (clOf X.env.cells scope.names []) pm (.ref c') ctv) ⟨[u], []⟩ = pure [(x, u)])
    (he : PE (lamC X [x] qual scope f (.ref c') A s H) body te) (rv : RelV v u) (hq : te (some v :: σ) H Q) :
    wpAny (model X.prog X.w) A (call (.ref f) [u]) (CE X.stack X.prog X.w H s Q) E s := by
  refine wpAny_call (PySem.W.kla_callFunE hroom ho rfl hco hgen rfl hcd ?_)
  rw [hb]
  refine wpAny_pure (wpAny_newFunctionEnv B.nocell (fun y hy => ?_) (fun h1 hns hsb => ⟨I.nolimit.fresh _ hsb, ?_⟩) B.kind)
  · have e : y = (x, u) := by simpa using hy
    subst e
    exact hxl
  show codeAny _ _ (.expr body (lamEnv X qual scope s.heap.objs.size f (.ref c'))) _ _
  have old : ∀ b o, s.heap.get? b = some o → h1.get? b = some o := fun b o e => hsb.extBut b o (Nat.ne_of_lt (Heap.lt_size e)) (Heap.get?_push_of_some _ e)
  refine PySem.W.kla_codeExpr (wpAny_mono (he [] _ (some v :: σ) H Q (lam_inv I B hxl hfr hh hns (by simp) old rv) hq) (fun u' s' h' => ?_) fun _ _ z => z.elim)
  obtain ⟨v', H', J, r, q⟩ := h'
  exact ⟨v', H', J.os, J.bare, J.base, J.hok, r, q⟩
end
end L2

namespace L2
open PySem PySem.Spec PyProof.Rows

section
variable {X : Cx} {pins : List (Addr × Obj)} {σ : St} {x : Str} {qual name : Str} {scope : Scope} {params : Arguments} {body : Expr} {pm ctv : Value} {c' f a it S : Addr} {xs : List V} {te : TE} {Q : VK} {R : Result → Shared → Prop}
/-- what is fixed through the turns of min(xs, key = f) -/
structure MinFix (X : Cx) (pins : List (Addr × Obj)) (x qual name : Str) (scope : Scope) (params : Arguments) (body : Expr) (pm ctv : Value) (c' f it S : Addr) (te : TE) : Prop where
  blk : BlkScope X [x] scope
  xl : scope.names.lookup x = some .local
  co : scope.isCoroutine = false
  gen : scope.isGenerator = false
  hh : X.A.handled = none
  room : X.A.depth < recursionLimit
  bind : ∀ u, bindArgs (PySem.W.kla_fn name qual params body scope (clOf X.env.cells scope.names []) pm (.ref c') ctv) ⟨[u], []⟩ = pure [(x, u)]
  fpin : (f, PySem.W.kla_obj name qual params body scope (clOf X.env.cells scope.names []) pm c' ctv) ∈ pins
  run : ∀ s H, PE (lamC X [x] qual scope f (.ref c') X.A.in1 s H) body te
  ne : it ≠ S
  fp : ∀ (H : Hp) b, b ∈ [it, S] → H b = none → FpOk X pins H b
/-- between two turns: the code stands, the iterator stands at j, S holds the best and its key -/
def MinAt (X : Cx) (pins : List (Addr × Obj)) (σ : St) (qual : Str) (c' a it S : Addr) (xs : List V) (j : Nat) (arr : Array Value) (H : Hp) (s : Shared) : Prop :=
  Inv X pins σ H s ∧ (∀ b ∈ [it, S], H b = none) ∧ SqL X.K H a xs ∧ H c' = some (codeX c' qual) ∧ s.heap.IsListIter it a j ∧ ∃ c, s.heap.get? S = some (seqObj "list" arr c)

/-- the key of the j-th -/
theorem min_key {j : Nat} {H : Hp} {s : Shared} {arr : Array Value} {v : V} {u : Value} {E : Value → Shared → Prop} (F : MinFix X pins x qual name scope params body pm ctv c' f it S te) (M : MinAt X pins σ qual c' a it S xs j arr H s) (rv : RelV v u)
    (hq : te (some v :: σ) H Q) (hkeep : ∀ y H', Q y H' → SqL X.K H' a xs ∧ H' c' = some (codeX c' qual)) :
    wpAny (model X.prog X.w) X.A.in1 (call (.ref f) [u]) (fun u' s' => ∃ y H', RelV y u' ∧ Q y H' ∧ MinAt X pins σ qual c' a it S xs j arr H' s') E s := by
  obtain ⟨I, fr, hl, hc, st, c, hS⟩ := M
  have cd : s.heap.CodeRec (.ref c') qual := (I.hok c' _ hc).1
  obtain ⟨oi, ei, ci, di⟩ := id st
  have I2 : Inv X (pins ++ pinsAt [it, S] s.heap) σ H s := I.pinned (fun b hb => F.fp H b hb (fr b hb)) fun b hb => by
    rcases List.mem_cons.mp hb with e | hb
    · rw [e]
      exact ⟨oi, ei, fun v z => by rw [di] at z; cases z⟩
    · rw [List.mem_singleton.mp hb]
      exact ⟨_, hS, fun v z => by cases z⟩
  have ho := (I.pin _ (List.mem_append_right _ F.fpin)).1
  refine wpAny_mono (lam_call I2 F.blk F.xl F.co F.gen rfl F.hh F.room ho cd (F.bind u) (F.run s H) rv hq) (fun u' s' h => ?_) fun _ _ z => z
  obtain ⟨y, H', I3, r, q⟩ := I2.after h
  have pin3 : ∀ b o, b ∈ [it, S] → s.heap.get? b = some o → s'.heap.get? b = some o ∧ H' b = none := fun b o hb e => by
    have z := I3.pin (b, o) (List.mem_append_right _ (List.mem_append_right _ (mem_pinsAt hb e)))
    exact ⟨z.1, z.2.1⟩
  have pi := pin3 it oi (by simp) ei
  have pS := pin3 S _ (by simp) hS
  obtain ⟨k1, k2⟩ := hkeep y H' q
  refine ⟨y, H', r, q, I3.unpinned, fun b hb => ?_, k1, k2, ⟨oi, pi.1, ci, di⟩, c, pS.1⟩
  rcases List.mem_cons.mp hb with e | hb
  · rw [e]; exact pi.2
  · rw [List.mem_singleton.mp hb]; exact pS.2
/-- S is written -/
theorem min_put {j : Nat} {H : Hp} {s : Shared} {arr : Array Value} (g : Array Value) (F : MinFix X pins x qual name scope params body pm ctv c' f it S te) (M : MinAt X pins σ qual c' a it S xs j arr H s) :
    MinAt X pins σ qual c' a it S xs j g H { s with heap := s.heap.update S (Obj.mapSeq fun _ => g) } := by
  obtain ⟨I, fr, hl, hc, st, c, hS⟩ := M
  have s1 := Heap.SameBut.update s.heap S (Obj.mapSeq fun _ => g)
  obtain ⟨f0, f1, f2, f3, f4, f5⟩ := F.fp H S (by simp) (fr S (by simp))
  obtain ⟨oi, ei, ci, di⟩ := st
  exact ⟨I.turned (t' := s.toks) (it := S) (fun b o hb e => (s1.2 b hb).trans e) f0 f1 f3 f4 f5, fr, hl, hc, ⟨oi, (s1.2 it F.ne).trans ei, ci, di⟩, _, get?_update_seq hS fun _ => g⟩
/-- the iterator turns -/
theorem min_next {j : Nat} {H : Hp} {s : Shared} {arr : Array Value} {v : V} {Q : Option Value → Shared → Prop} {E : Value → Shared → Prop} (F : MinFix X pins x qual name scope params body pm ctv c' f it S te) (M : MinAt X pins σ qual c' a it S xs j arr H s) (hv : xs[j]? = some v)
    (hQ : ∀ u s', RelV v u → MinAt X pins σ qual c' a it S xs (j + 1) arr H s' → Q (some u) s') : wpAny (model X.prog X.w) X.A.in1 (pyNext (.ref it)) Q E s := by
  obtain ⟨I, fr, hl, hc, st, c, hS⟩ := M
  obtain ⟨its, r, pl, hz⟩ := I.list hl
  obtain ⟨u, hu, ru⟩ := r.get hv
  obtain ⟨f0, f1, f2, f3, f4, f5⟩ := F.fp H it (by simp) (fr it (by simp))
  refine wpAny_pyNext_list_item st pl.isList (x := u) (by simpa using hu) fun h' st' sb => hQ u _ ru ?_
  exact ⟨I.turned (t' := s.toks) (it := it) (fun b o hb e => (sb.2 b hb).trans e) f0 f1 f3 f4 f5, fr, hl, hc, st', c, (sb.2 S (Ne.symm F.ne)).trans hS⟩
/-- .. and ends -/
theorem min_stop {j : Nat} {H : Hp} {s : Shared} {arr : Array Value} {Q : Option Value → Shared → Prop} {E : Value → Shared → Prop} (F : MinFix X pins x qual name scope params body pm ctv c' f it S te) (M : MinAt X pins σ qual c' a it S xs j arr H s) (hj : xs.length ≤ j)
    (hQ : ∀ s', Inv X pins σ H s' → (∀ b ∈ [it, S], H b = none) → (∃ c, s'.heap.get? S = some (seqObj "list" arr c)) → Q none s') : wpAny (model X.prog X.w) X.A.in1 (pyNext (.ref it)) Q E s := by
  obtain ⟨I, fr, hl, hc, st, c, hS⟩ := M
  obtain ⟨its, r, pl, hz⟩ := I.list hl
  have hlen := r.length
  obtain ⟨f0, f1, f2, f3, f4, f5⟩ := F.fp H it (by simp) (fr it (by simp))
  refine wpAny_pyNext_list_end F.hh st pl.isList (by simp; omega) fun h' eb => hQ _ ?_ fr ⟨c, eb S _ (Ne.symm F.ne) hS⟩
  exact I.turned (t' := s.toks) (it := it) (fun b o hb e => eb b o hb e) f0 f1 f3 f4 f5

theorem min_loop (F : MinFix X pins x qual name scope params body pm ctv c' f it S te) (W : Nat → V → Int → Hp → Prop)
    (hW : ∀ j vb k H, W j vb k H → SqL X.K H a xs ∧ H c' = some (codeX c' qual))
    (step : ∀ j vb k H y, W j vb k H → xs[j]? = some y → te (some y :: σ) H fun z H' => ∃ k', z = .int k' ∧ W (j + 1) (if k' < k then y else vb) (if k' < k then k' else k) H')
    (fin : ∀ vb k H, W xs.length vb k H → Q vb H) (hR : ∀ u s', EP X pins σ Q u s' → R (.ok (.ret u)) s') :
    ∀ (r j : Nat) (vb : V) (ub : Value) (k : Int) (tb : Tok) (H : Hp) (s : Shared), xs.length - j = r → j ≤ xs.length → RelV vb ub → W j vb k H → MinAt X pins σ qual c' a it S xs j #[ub, .int k tb] H s →
      codeAny (model X.prog X.w) X.A (.builtin "min.loop" ⟨[.ref it, .ref f, .ref S], []⟩) R s := by
  have hname : (toString "min" ++ toString ".loop" : String) = "min.loop" := by decide
  intro r
  induction r with
  | zero =>
    intro j vb ub k tb H s hr hj rb hw M
    have e : j = xs.length := by omega
    subst e
    obtain ⟨c, hS⟩ := M.2.2.2.2.2
    refine codeAny_builtin PySem.F.entry_min_loop ?_
    rw [Around.under_plainId PySem.F.plain_min_loop _]
    show wpAny _ X.A.in1 (seqItems? (.ref S) >>= _) _ _ _
    refine wpAny_bind (wpAny_seqItems hS rfl ?_)
    show wpAny _ X.A.in1 (tryCatch (pyNext (.ref it)) _ >>= _) _ _ _
    refine wpAny_bind (wpAny_tryCatch (min_stop F M (Nat.le_refl _) fun s' I' fr' hS' => ?_))
    obtain ⟨c2, hS'⟩ := hS'
    show wpAny _ X.A.in1 (updateSeq S (fun _ => #[]) >>= _) _ _ _
    refine wpAny_bind ?_
    refine wpAny_updateSeq hS' rfl (wpAny_bind (wpAny_letGo (wpAny_pure ?_)))
    obtain ⟨f0, f1, f2, f3, f4, f5⟩ := F.fp H S (by simp) (fr' S (by simp))
    have s1 := Heap.SameBut.update s'.heap S (Obj.mapSeq fun _ => (#[] : Array Value))
    exact hR ub _ ⟨vb, H, I'.turned (t' := s'.toks) (it := S) (fun b o hb e => (s1.2 b hb).trans e) f0 f1 f3 f4 f5, rb, fin vb k H hw⟩
  | succ r ih =>
    intro j vb ub k tb H s hr hj rb hw M
    have hlt : j < xs.length := by omega
    obtain ⟨c, hS⟩ := M.2.2.2.2.2
    refine codeAny_builtin PySem.F.entry_min_loop ?_
    rw [Around.under_plainId PySem.F.plain_min_loop _]
    show wpAny _ X.A.in1 (seqItems? (.ref S) >>= _) _ _ _
    refine wpAny_bind (wpAny_seqItems hS rfl ?_)
    show wpAny _ X.A.in1 (tryCatch (pyNext (.ref it)) _ >>= _) _ _ _
    have hy : xs[j]? = some xs[j] := List.getElem?_eq_getElem hlt
    refine wpAny_bind (wpAny_tryCatch (min_next F M hy fun u s1 ru M1 => ?_))
    show wpAny _ X.A.in1 (tryCatch (holding [u] (call (.ref f) [u])) _ >>= _) _ _ _
    refine wpAny_bind (wpAny_tryCatch (wpAny_holding (wpAny_mono (min_key F M1 ru (step j vb k H _ hw hy) (fun y H' ⟨k', _, hq⟩ => hW _ _ _ _ hq)) (fun z s2 h2 => ?_) fun _ _ hF => hF)))
    obtain ⟨y, H', ry, ⟨k', rfl, hw'⟩, M2⟩ := h2
    obtain ⟨t2, rfl⟩ := ry
    show wpAny _ X.A.in1 (tryCatch (holding [u, .int k' t2] (richCompare .Lt (.int k' t2) (.int k tb) >>= _)) _ >>= _) _ _ _
    refine wpAny_bind (wpAny_tryCatch (wpAny_holding (wpAny_bind (CmpOf.ints_lt (prog := X.prog) (w := X.w) (A := X.A.in1) (P := fun i v => ∃ t, v = .int (if i = 0 then k' else k) t) (fun i => if i = 0 then k' else k) (fun i v h => h) 0 1 _ _ _ _ _ ⟨t2, rfl⟩ ⟨tb, rfl⟩ ?_))))
    refine wpAny_bind (wpAny_holding (wpAny_truthy_bool ?_))
    refine wpAny_bind (wpAny_letGo (wpAny_pure ?_))
    obtain ⟨c2, hS2⟩ := M2.2.2.2.2.2
    by_cases hb' : k' < k
    · rw [if_pos hb', if_pos hb'] at hw'
      have hb2 : (if (0 : Nat) = 0 then k' else k) < (if (1 : Nat) = 0 then k' else k) := by simpa using hb'
      rw [if_pos (decide_eq_true hb2)]
      refine wpAny_bind ?_
      refine wpAny_updateSeq hS2 rfl (wpAny_bind (wpAny_letGo ?_))
      rw [hname]
      exact wpAny_pure ⟨plainId_quiet PySem.F.plain_min_loop _, ih (j + 1) _ u k' t2 H' _ (by omega) hlt ru hw' (min_put _ F M2)⟩
    · rw [if_neg hb', if_neg hb'] at hw'
      have hb2 : ¬ (if (0 : Nat) = 0 then k' else k) < (if (1 : Nat) = 0 then k' else k) := by simpa using hb'
      rw [if_neg (fun z => hb2 (of_decide_eq_true z))]
      refine wpAny_bind (wpAny_letGo ?_)
      rw [hname]
      exact wpAny_pure ⟨plainId_quiet PySem.F.plain_min_loop _, ih (j + 1) _ ub k tb H' _ (by omega) hlt rb hw' M2⟩
end
end L2

namespace L2
open PySem PySem.Spec PyProof.Rows
variable [TabPar]

theorem codeX_ok {P : Program} {w : World} {H : Hp} {h : Heap} {c : Addr} {qual : Str} (x : h.CodeRec (.ref c) qual) : ObjOk P w H h c (codeX c qual) := by
  refine ⟨x, ?_, fun h1 h2 x1 k => ?_⟩
  · obtain ⟨c', o, vs, t, e, g, _⟩ := x
    cases e
    exact ⟨o, g⟩
  · obtain ⟨c', o, vs, t, e, g, r⟩ := x1
    cases e
    exact ⟨c, o, vs, t, rfl, k o g, r⟩
section
variable {X : Cx} {pins : List (Addr × Obj)} {σ : St} {H : Hp} {s : Shared} {x : Str} {scope : Scope} {params : Arguments} {body : Expr} {lpos : Pos} {c P : Addr} {Q : Value → Shared → Prop} {E : Value → Shared → Prop}
/-- the text's one lambda is made -/
theorem lam_make (I : Inv X pins σ H s) (B : BlkScope X [x] scope) (hcode : X.env.code = .ref c) (C : PySem.W.CodeHd X.base c P) (hb : X.base.BuiltinsAt X.mg P) (hdef : defaultsOf params X.env = ([], []))
    (hq : X.env.qual ++ "<lambda>" = TabPar.qual) (hp : TabPar.p = rawInt lpos.line) (hq2 : TabPar.q = rawInt lpos.col) (T : TabOk P H)
    (h : ∀ f c' ctv pm H2 s2, Same H H2 → TabOk P H2 → H2 c' = some (codeX c' TabPar.qual) → H2 f = none → s.heap.objs.size ≤ f → Inv X pins σ H2 s2 →
      s2.heap.get? f = some (PySem.W.kla_obj "<lambda>" TabPar.qual params body scope (clOf X.env.cells scope.names []) pm c' ctv) → Q (.ref f) s2) :
    wpAny (model X.prog X.w) X.A (eval (.Lambda params body scope lpos) X.env) Q E s := by
  refine PySem.W.kla_eval hdef ?_
  rw [hq]
  have hbm : s.heap.BuiltinsAt X.mg P := by
    obtain ⟨bm, o, h1, h2, h3, h4, h5, r⟩ := hb
    exact ⟨bm, o, h1, h2, h3, h4, I.bk _ _ h5, r⟩
  have hPn : ∃ o, H P = some o := by
    obtain ⟨ps, e⟩ := T.at
    exact ⟨_, e⟩
  have hgP : mainGlobals ≠ P := fun e => by
    obtain ⟨o, es, ep, g, _⟩ := I.mod.glob
    obtain ⟨o', hP⟩ := hPn
    have := (I.bs _ _ g).2
    rw [e, hP] at this
    cases this
  rcases T with T | ⟨c', T1, T2⟩
  · have hP : s.heap.get? P = some (PySem.W.tabObj #[]) := I.hok P _ T
    refine PySem.W.kla_makeFunction (mg := X.mg) (closure_ok I B) I.ok.glob (I.mod.glob.keeps I.bk) hcode (C.keeps I.bk) hP (by trivial) (by rfl) hgP hbm fun c' ctv h' tk hx hge hlt hrec htb => ?_
    have hPs : P < s.heap.objs.size := Heap.lt_size hP
    have hPc : P ≠ c' := Nat.ne_of_lt (Nat.lt_of_lt_of_le hPs hge)
    have hcf := I.hok.fresh hge
    have htb' : h'.get? P = some (PySem.W.tabObj #[TabPar.p, TabPar.q, .ref c']) := by rw [htb, hp, hq2]; rfl
    have kp : ∀ b o, b ≠ P → s.heap.get? b = some o → (h'.push (PySem.W.kla_obj "<lambda>" TabPar.qual params body scope (clOf X.env.cells scope.names []) ((X.mg "__name__").getD .none) c' ctv)).get? b = some o := fun b o hb e => Heap.get?_push_of_some _ (hx b o hb e)
    have e1 : upd (upd H P (.tbl #[TabPar.p, TabPar.q, .ref c'])) c' (codeX c' TabPar.qual) P = some (.tbl #[TabPar.p, TabPar.q, .ref c']) := by rw [upd_ne hPc, upd_same]
    have e2 : upd (upd H P (.tbl #[TabPar.p, TabPar.q, .ref c'])) c' (codeX c' TabPar.qual) c' = some (codeX c' TabPar.qual) := upd_same
    have e3 : ∀ b, b ≠ P → b ≠ c' → upd (upd H P (.tbl #[TabPar.p, TabPar.q, .ref c'])) c' (codeX c' TabPar.qual) b = H b := fun b h1 h2 => by rw [upd_ne h2, upd_ne h1]
    generalize upd (upd H P (.tbl #[TabPar.p, TabPar.q, .ref c'])) c' (codeX c' TabPar.qual) = H2 at e1 e2 e3
    have neP : ∀ b, H b = none → b ≠ P := fun b hn e => by rw [e, T] at hn; cases hn
    have neC : ∀ b o, s.heap.get? b = some o → b ≠ c' := fun b o e => Nat.ne_of_lt (Nat.lt_of_lt_of_le (Heap.lt_size e) hge)
    have neH : ∀ b o, H b = some o → b ≠ c' := fun b o e => ne_of_none e hcf
    have un : Un X.fs [] H H2 s.heap (h'.push (PySem.W.kla_obj "<lambda>" TabPar.qual params body scope (clOf X.env.cells scope.names []) ((X.mg "__name__").getD .none) c' ctv)) := by
      refine ⟨fun b o e n _ _ => kp b o (neP b n) e, fun b o e n _ _ => ⟨o.slots, kp b o (neP b n) e⟩, fun b o e n _ => by rw [e3 b (neP b n) (neC b o e)]; exact n, fun b o e _ => ?_, fun b xs e => ?_, fun b o u e => ?_, fun b ps e => ?_⟩
      · by_cases hbP : b = P
        · subst hbP
          exact ⟨_, Heap.get?_push_of_some _ htb'⟩
        · exact ⟨o, kp b o hbP e⟩
      · rw [e3 b (fun z => by rw [z, T] at e; cases e) (neH b _ e)]; exact e
      · rw [e3 b (fun z => by rw [z, T] at e; cases e) (neH b _ e)]; exact e
      · by_cases hbP : b = P
        · subst hbP
          rw [T] at e
          cases e
          exact ⟨#[TabPar.p, TabPar.q, .ref c'], by rw [e1]; simp⟩
        · exact ⟨#[], by rw [e3 b hbP (neH b _ e), e]; simp⟩
    have hok : HOk X.prog X.w H2 (h'.push (PySem.W.kla_obj "<lambda>" TabPar.qual params body scope (clOf X.env.cells scope.names []) ((X.mg "__name__").getD .none) c' ctv)) := fun b o e => by
      by_cases hbP : b = P
      · subst hbP
        rw [e1] at e
        cases e
        exact Heap.get?_push_of_some _ htb'
      · by_cases hbc : b = c'
        · subst hbc
          rw [e2] at e
          cases e
          exact codeX_ok (hrec.push _)
        · rw [e3 b hbP hbc] at e
          refine (I.hok b o e).stay (fun d u hd q => kp d u ?_ q) (fun d hd => ?_) fun d xs hd => ?_
          · rcases hd with z | z
            · rw [z]; exact hbP
            · exact fun y => by rw [y, T] at z; cases z
          · rw [e3 d (fun z => by rw [z, T] at hd; cases hd) (neH d _ hd)]; exact hd
          · rw [e3 d (fun z => by rw [z, T] at hd; cases hd) (neH d _ hd)]; exact hd
    have hff : H2 h'.objs.size = none := by
      have hsz : s.heap.objs.size ≤ h'.objs.size := Nat.le_trans hge (Nat.le_of_lt hlt)
      rw [e3 _ (Nat.ne_of_gt (Nat.lt_of_lt_of_le hPs hsz)) (Nat.ne_of_gt hlt)]
      exact I.hok.fresh hsz
    refine h h'.objs.size c' ctv _ H2 _ ⟨fun b o e n => ?_, fun b ps e => ?_, fun P' t => ?_⟩ (.inr ⟨c', e1, e2⟩) e2 hff (Nat.le_trans hge (Nat.le_of_lt hlt)) (I.un (t' := tk) un hok) (Heap.get?_push_size _ rfl)
    · rw [e3 b (fun z => by rw [z, T] at e; cases e; cases n) (neH b _ e)]; exact e
    · obtain ⟨more, e'⟩ := un.tbls b ps e
      exact ⟨_, e'⟩
    · by_cases hPP : P' = P
      · subst hPP
        exact .inr ⟨c', e1, e2⟩
      · rcases t with t | ⟨d, t1, t2⟩
        · exact .inl (by rw [e3 P' hPP (neH _ _ t)]; exact t)
        · refine .inr ⟨d, by rw [e3 P' hPP (neH _ _ t1)]; exact t1, ?_⟩
          rw [e3 d (fun z => by rw [z, T] at t2; cases t2) (neH _ _ t2)]
          exact t2
  · have hP : s.heap.get? P = some (PySem.W.tabObj #[TabPar.p, TabPar.q, .ref c']) := I.hok P _ T1
    refine PySem.W.kla_makeFunctionHit (cv := .ref c') (mg := X.mg) (closure_ok I B) I.ok.glob (I.mod.glob.keeps I.bk) hcode (C.keeps I.bk) hP ?_ ?_ hbm fun ctv h' tk hk hsz => ?_
    · rw [hp, hq2]; exact TriplesOk_snoc lpos.line lpos.col (.ref c') [] trivial
    · rw [hp, hq2]
      show codeAmong lpos [rawInt lpos.line, rawInt lpos.col, .ref c'] = some (.ref c')
      simp [codeAmong, rawInt]
    · exact h h'.objs.size c' ctv _ H _ (Same.refl H) (.inr ⟨c', T1, T2⟩) T2 (I.hok.fresh hsz) hsz (I.kept (t' := tk) fun b o e => Heap.get?_push_of_some _ (hk b o e)) (Heap.get?_push_size _ rfl)
end

/-- reading of min(xs, key = lambda x: e): W the invariant: turn, best, its key, heap -/
def tMinKey (K : PySem.W.Frag) (P : Addr) (ta : TA) (te : TE) : TE := fun σ H Q => ta σ H fun vs H1 => ∃ a xs x0, vs = [.ref a] ∧ SqL K H1 a xs ∧ xs[0]? = some x0 ∧ TabOk P H1 ∧
  ∀ H2 c', Same H1 H2 → TabOk P H2 → H2 c' = some (codeX c' TabPar.qual) → ∃ W : Nat → V → Int → Hp → Prop,
    (te (some x0 :: σ) H2 fun z H' => ∃ k, z = .int k ∧ W 1 x0 k H') ∧
    (∀ j vb k H, W j vb k H → SqL K H a xs ∧ H c' = some (codeX c' TabPar.qual)) ∧
    (∀ j vb k H y, W j vb k H → xs[j]? = some y → te (some y :: σ) H fun z H' => ∃ k', z = .int k' ∧ W (j + 1) (if k' < k then y else vb) (if k' < k then k' else k) H') ∧
    ∀ vb k H, W xs.length vb k H → Q vb H
section
variable {X : Cx} {x : Str} {scope : Scope} {params : Arguments} {body e : Expr} {lpos p pos kpos : Pos} {c P : Addr} {ta : TA} {te : TE}
theorem pe_minKey (hc : X.calm = true) (hr : X.A.depth < recursionLimit) (hg : Gl X "min") (hm : X.mg "min" = none) (hl : PA X [e] ta) (B : BlkScope X [x] scope) (hxl : scope.names.lookup x = some .local) (hco : scope.isCoroutine = false) (hgen : scope.isGenerator = false)
    (hcode : X.env.code = .ref c) (C : PySem.W.CodeHd X.base c P) (hb : X.base.BuiltinsAt X.mg P) (hdef : defaultsOf params X.env = ([], [])) (hq : X.env.qual ++ "<lambda>" = TabPar.qual) (hp : TabPar.p = rawInt lpos.line) (hq2 : TabPar.q = rawInt lpos.col)
    (hbind : ∀ cl pm cd ctv u, bindArgs (PySem.W.kla_fn "<lambda>" TabPar.qual params body scope cl pm cd ctv) ⟨[u], []⟩ = pure [(x, u)])
    (run : ∀ f c' s H, PE (lamC X [x] TabPar.qual scope f (.ref c') X.A.in1 s H) body te)
    (he : backTo pos (starEach [e] X.env) = (false, eval e X.env) :: backTo pos (starEach [] X.env) := by rfl) (hpl : (backTo pos (starEach [e] X.env)).any (·.1) = false := by rfl) :
    PE X (.Call (.Name "min" p) [e] [⟨some "key", .Lambda params body scope lpos, kpos⟩] pos) (tMinKey X.K P ta te) := by
  intro pins s σ H Q I h
  have hname : (toString "min" ++ toString ".loop" : String) = "min.loop" := by decide
  refine wpAny_Call_Name_kw (ld_blt I hg hm PyProof.Rows.boot_min ?_)
  refine PyProof.Rows.callWith_kw (thn (hl pos pins s σ H _ I h) fun us s1 ⟨vs, H1, I1, r1, a, xs, x0, e1, hS, hx0, T, rest⟩ => ?_) he hpl (by rfl) (by rfl)
  subst e1
  obtain ⟨u, rfl, ru⟩ := vals1 r1
  cases ru
  refine PyProof.Rows.kws_cons (lam_make I1 B hcode C hb hdef hq hp hq2 T fun f c' ctv pm H2 s2 sm T2 hc' hf hsz I2 ho => PyProof.Rows.kws_nil ?_)
  show wpAny _ _ (call (.builtin "min") [.ref a] [(Str.ofString "key", .ref f)]) _ _ _
  obtain ⟨W, first, hW, step, fin⟩ := rest H2 c' sm T2 hc'
  have fok := I1.fpOk hsz hf
  have I2' : Inv X (pins ++ [(f, PySem.W.kla_obj "<lambda>" TabPar.qual params body scope (clOf X.env.cells scope.names []) pm c' ctv)]) σ H2 s2 := I2.pins_of fun p hp => by
    rcases List.mem_append.mp hp with z | z
    · exact I2.pin p (List.mem_append_right _ z)
    · rw [List.mem_singleton.mp z]
      exact ⟨ho, hf, fok.2.1, fok.2.2.1, fun v z => by cases z⟩
  have hS2 : SqL X.K H2 a xs := sm.seq hS
  obtain ⟨its, r2, pl, hz⟩ := I2.list hS2
  refine kmk_tree PySem.F.kind_min PySem.F.plain_min PySem.F.entry_min (kmk_min_key _ _) ?_
  show wpAny _ X.A.in1 (Builtin.Builtins.bindParams "min" ["key", "default"] 0 ⟨[], [(Str.ofString "key", .ref f)]⟩ >>= _) _ _ s2
  refine wpAny_bind (wpAny_of_eq (show Builtin.Builtins.bindParams "min" ["key", "default"] 0 ⟨[], [(Str.ofString "key", .ref f)]⟩ = pure [some (.ref f), none] from rfl) ?_)
  refine wpAny_bind (wpAny_pure ?_)
  refine wpAny_bind (wpAny_pyIter_list pl.isList ?_)
  refine wpAny_bind (wpAny_newList ?_ (Nat.zero_le _))
  rw [hname]
  refine wpAny_pure ⟨plainId_quiet PySem.F.plain_min_loop _, ?_⟩
  have hsz1 : (s2.heap.push { cls := .type "list_iterator", data := .fields #[.ref a, .int 0 0] }).objs.size = s2.heap.objs.size + 1 := size_push' ..
  have kp : ∀ b o, s2.heap.get? b = some o → ((s2.heap.push { cls := .type "list_iterator", data := .fields #[.ref a, .int 0 0] }).push (seqObj "list" #[] 0)).get? b = some o := fun b o e => Heap.get?_push_of_some _ (Heap.get?_push_of_some _ e)
  have gI : ((s2.heap.push { cls := .type "list_iterator", data := .fields #[.ref a, .int 0 0] }).push (seqObj "list" #[] 0)).get? s2.heap.objs.size = some { cls := .type "list_iterator", data := .fields #[.ref a, .int 0 0] } :=
    Heap.get?_push_of_some _ (Heap.get?_push_size _ rfl)
  have gS : ((s2.heap.push { cls := .type "list_iterator", data := .fields #[.ref a, .int 0 0] }).push (seqObj "list" #[] 0)).get? (s2.heap.push { cls := .type "list_iterator", data := .fields #[.ref a, .int 0 0] }).objs.size = some (seqObj "list" #[] 0) := Heap.get?_push_size _ rfl
  rw [hsz1] at gS ⊢
  have low : ∀ b, b ∈ [s2.heap.objs.size, s2.heap.objs.size + 1] → s2.heap.objs.size ≤ b := fun b hb => by
    rcases List.mem_cons.mp hb with e | hb
    · rw [e]; exact Nat.le_refl _
    · rw [List.mem_singleton.mp hb]; exact Nat.le_succ _
  have F : MinFix X (pins ++ [(f, PySem.W.kla_obj "<lambda>" TabPar.qual params body scope (clOf X.env.cells scope.names []) pm c' ctv)]) x TabPar.qual "<lambda>" scope params body pm ctv c' f s2.heap.objs.size (s2.heap.objs.size + 1) te :=
    ⟨B, hxl, hco, hgen, I.ok.hd hc, hr, fun u => hbind _ _ _ _ u, List.mem_append_right _ (by simp), fun s H => run f c' s H, Nat.ne_of_lt (Nat.lt_succ_self _), fun H b hb hn => I2'.fpOk (low b hb) hn⟩
  have M0 : MinAt X (pins ++ [(f, PySem.W.kla_obj "<lambda>" TabPar.qual params body scope (clOf X.env.cells scope.names []) pm c' ctv)]) σ TabPar.qual c' a s2.heap.objs.size (s2.heap.objs.size + 1) xs 0 #[] H2
      { s2 with heap := (s2.heap.push { cls := .type "list_iterator", data := .fields #[.ref a, .int 0 0] }).push (seqObj "list" #[] 0) } :=
    ⟨I2'.kept (t' := s2.toks) kp, fun b hb => I2.hok.fresh (low b hb), hS2, hc', ⟨_, gI, rfl, rfl⟩, 0, gS⟩
  generalize { s2 with heap := (s2.heap.push { cls := .type "list_iterator", data := .fields #[.ref a, .int 0 0] }).push (seqObj "list" #[] 0) } = s3 at M0
  obtain ⟨c0, hS0⟩ := M0.2.2.2.2.2
  refine codeAny_builtin PySem.F.entry_min_loop ?_
  rw [Around.under_plainId PySem.F.plain_min_loop _]
  show wpAny _ X.A.in1 (seqItems? (.ref (s2.heap.objs.size + 1)) >>= _) _ _ _
  refine wpAny_bind (wpAny_seqItems hS0 rfl ?_)
  show wpAny _ X.A.in1 (tryCatch (pyNext (.ref s2.heap.objs.size)) _ >>= _) _ _ _
  refine wpAny_bind (wpAny_tryCatch (min_next F M0 hx0 fun u s4 ru M1 => ?_))
  show wpAny _ X.A.in1 (tryCatch (holding [u] (call (.ref f) [u])) _ >>= _) _ _ _
  refine wpAny_bind (wpAny_tryCatch (wpAny_holding (wpAny_mono (min_key F M1 ru first (fun y H' ⟨k', _, hq⟩ => hW _ _ _ _ hq)) (fun z s5 h2 => ?_) fun _ _ hF => hF)))
  obtain ⟨y, H', ry, ⟨k', rfl, hw'⟩, M2⟩ := h2
  obtain ⟨t2, rfl⟩ := ry
  obtain ⟨c2, hS2'⟩ := M2.2.2.2.2.2
  show wpAny _ X.A.in1 (updateSeq (s2.heap.objs.size + 1) (fun _ => #[u, .int k' t2]) >>= _) _ _ _
  refine wpAny_bind ?_
  refine wpAny_updateSeq hS2' rfl ?_
  rw [hname]
  have hlen : 0 < xs.length := (List.getElem?_eq_some_iff.mp hx0).1
  refine wpAny_pure ⟨plainId_quiet PySem.F.plain_min_loop _, min_loop F W hW step fin (fun u s' he => ?_) _ 1 x0 u k' t2 H' _ rfl hlen ru hw' (min_put _ F M2)⟩
  obtain ⟨v, H9, I9, r9, q9⟩ := he
  exact ⟨v, H9, I9.unpinned, r9, q9⟩
end
end L2

namespace L2
open PySem PySem.Spec PyProof.Rows

/-! ### zip of two tuples -/
section
variable {prog : Program} {w : World} {A : Around} {E : Value → Shared → Prop} {s : Shared}
theorem nxT_item {p t : Addr} {k : Nat} {xs : Array Value} {v : Value} {Q : Value → Shared → Prop} (hp : s.heap.IsTupleIter p t k) (ht : s.heap.IsTuple t xs) (hv : xs[k]? = some v)
    (go : ∀ g, g.IsTupleIter p t (k + 1) → Heap.SameBut p s.heap g → Q v { s with heap := g }) : wpAny (model prog w) A (Builtin.SmallTypes.nextOf (.ref p)) Q E s := by
  obtain ⟨op, e1, c1, d1⟩ := id hp
  obtain ⟨ot, e2, _, n2, d2⟩ := ht
  unfold Builtin.SmallTypes.nextOf
  refine wpAny_bind (wpAny_callSpecial?_slot (name := Str.ofString "__next__") hp.typeIs PySem.F.slot_tuple_iterator_next (wpAny_call_entry PySem.F.slot_tuple_iterator_next hp.typeIs PySem.F.entry_tuple_iterator_next ?_ (PySem.F.args_tuple_iterator_next_1 _)))
  show wpAny _ _ (field (.ref p) 0 >>= _) _ _ s
  refine wpAny_bind (wpAny_field e1 d1 (x := .ref t) rfl ?_)
  show wpAny _ _ (if (Value.ref t == Value.none) = true then _ else _) _ _ s; rw [if_neg (show ¬ ((Value.ref t == Value.none) = true) from Bool.false_ne_true)]
  show wpAny _ _ (field (.ref p) 1 >>= _) _ _ s
  refine wpAny_bind (wpAny_field e1 d1 (x := .int k 0) rfl ?_)
  show wpAny _ _ (seqItems? (.ref t) >>= _) _ _ s; refine wpAny_bind (wpAny_seqItems e2 d2 ?_)
  simp only [Int.toNat_natCast, hv]
  refine wpAny_bind (wpAny_setField e1 d1 (by simp) (wpAny_pure ⟨v, rfl, wpAny_pure (go _ ?_ (Heap.SameBut.update ..))⟩))
  refine ⟨_, Heap.get?_update_self _ e1 (Obj.isFreed_of_fields (Obj.data_mapFields d1 _)), (Obj.cls_mapFields ..).trans c1, ?_⟩
  rw [Obj.data_mapFields d1]
  simp [rawInt]
theorem nxT_end {p t : Addr} {k : Nat} {xs : Array Value} {Q : Value → Shared → Prop} (hh : A.handled = none) (hp : s.heap.IsTupleIter p t k) (ht : s.heap.IsTuple t xs) (hv : xs[k]? = none)
    (out : ∀ g e, Heap.ExtBut p s.heap g → (∃ o, g.get? e = some o ∧ o.cls = .type "StopIteration") → E (.ref e) { s with heap := g }) : wpAny (model prog w) A (Builtin.SmallTypes.nextOf (.ref p)) Q E s := by
  obtain ⟨op, e1, c1, d1⟩ := id hp
  obtain ⟨ot, e2, _, n2, d2⟩ := ht
  unfold Builtin.SmallTypes.nextOf
  refine wpAny_bind (wpAny_callSpecial?_slot (name := Str.ofString "__next__") hp.typeIs PySem.F.slot_tuple_iterator_next (wpAny_call_entry PySem.F.slot_tuple_iterator_next hp.typeIs PySem.F.entry_tuple_iterator_next ?_ (PySem.F.args_tuple_iterator_next_1 _)))
  show wpAny _ _ (field (.ref p) 0 >>= _) _ _ s
  refine wpAny_bind (wpAny_field e1 d1 (x := .ref t) rfl ?_)
  show wpAny _ _ (if (Value.ref t == Value.none) = true then _ else _) _ _ s; rw [if_neg (show ¬ ((Value.ref t == Value.none) = true) from Bool.false_ne_true)]
  show wpAny _ _ (field (.ref p) 1 >>= _) _ _ s
  refine wpAny_bind (wpAny_field e1 d1 (x := .int k 0) rfl ?_)
  show wpAny _ _ (seqItems? (.ref t) >>= _) _ _ s; refine wpAny_bind (wpAny_seqItems e2 d2 ?_)
  simp only [Int.toNat_natCast, hv]
  refine wpAny_bind (wpAny_rule (wpAny_bind (wpAny_setField e1 d1 (by simp) ?_)))
  show wpAny _ _ (newExc (.type "StopIteration") [] >>= _) _ _ _; refine wpAny_bind ?_
  simp only [newExc, newTuple]
  refine wpAny_bind (wpAny_newObj_type ?_ (by size_fits)); refine wpAny_bind (m := firstArgMember _ _) (wpAny_of_eq (a := Value.none) (by first | rfl | (simp only [firstArgMember]; rfl)) ?_)
  refine wpAny_newObj_type ?_ (by size_fits); simp only [raiseNew]; refine wpAny_bind (wpAny_handled ?_)
  first | rw [show A.in1.handled = none from hh] | rw [hh]
  exact wpAny_bind (wpAny_pure (wpAny_throw (out _ _ (((Heap.SameBut.update ..).extBut.push _).push _) ⟨_, Heap.get?_push_size _ rfl, rfl⟩)))

/-- y the zip, ti its iterators' pair, d its handed pair, p and q the iterators -/
structure ZAp (y ti d p q t u : Addr) : Prop where
  nd : List.Nodup [y, ti, d, p, q]
  tn : t ∉ [y, ti, d, p, q]
  un : u ∉ [y, ti, d, p, q]
theorem ZAp.ne {y ti d p q t u : Addr} (D : ZAp y ti d p q t u) : ti ≠ y ∧ d ≠ y ∧ p ≠ y ∧ q ≠ y ∧ ti ≠ d ∧ ti ≠ p ∧ ti ≠ q ∧ d ≠ p ∧ d ≠ q ∧ p ≠ q ∧ t ≠ y ∧ t ≠ d ∧ t ≠ p ∧ t ≠ q ∧ u ≠ y ∧ u ≠ d ∧ u ≠ p ∧ u ≠ q := by
  obtain ⟨nd, tn, un⟩ := D
  simp only [List.nodup_cons, List.mem_cons, List.not_mem_nil, or_false, not_or, not_false_eq_true, List.nodup_nil, and_true] at nd tn un
  obtain ⟨⟨a1, a2, a3, a4⟩, ⟨b1, b2, b3⟩, ⟨c1, c2⟩, d1⟩ := nd
  exact ⟨Ne.symm a1, Ne.symm a2, Ne.symm a3, Ne.symm a4, b1, b2, b3, c1, c2, d1, tn.1, tn.2.2.1, tn.2.2.2.1, tn.2.2.2.2, un.1, un.2.2.1, un.2.2.2.1, un.2.2.2.2⟩

theorem zT_item {y ti d p q t u : Addr} {k : Nat} {xs ys : Array Value} {v1 v2 a b : Value} {Q : Option Value → Shared → Prop} (D : ZAp y ti d p q t u) (hy : IsZip s.heap y ti d .none) (hti : IsPair s.heap ti (.ref p) (.ref q)) (hd : IsPair s.heap d a b)
    (h1 : s.heap.IsTupleIter p t k) (h2 : s.heap.IsTupleIter q u k) (ht : s.heap.IsTuple t xs) (hu : s.heap.IsTuple u ys) (e1 : xs[k]? = some v1) (e2 : ys[k]? = some v2)
    (go : ∀ g, IsZip g y ti d (rawInt s.heap.objs.size) → IsPair g d v1 v2 → g.IsTupleIter p t (k + 1) → g.IsTupleIter q u (k + 1) → IsPair g s.heap.objs.size v1 v2 →
      (∀ c o, c ≠ y → c ≠ d → c ≠ p → c ≠ q → s.heap.get? c = some o → g.get? c = some o) → Q (some (.ref s.heap.objs.size)) { s with heap := g }) : wpAny (model prog w) A (pyNext (.ref y)) Q E s := by
  obtain ⟨n1, n2, n3, n4, n5, n6, n7, n8, n9, n10, n11, n12, n13, n14, n15, n16, n17, n18⟩ := D.ne
  have ty : s.TypeIs (.ref y) "zip" := ⟨_, hy, rfl⟩
  unfold pyNext
  refine wpAny_bind (wpAny_attempt (wpAny_callSpecial?_slot (name := Str.ofString "__next__") ty PySem.F.slot_zip_next (wpAny_call_entry PySem.F.slot_zip_next ty PySem.F.entry_zip_next ?_ (PySem.F.args_zip_next_1 _))))
  show wpAny _ _ (field (.ref y) 2 >>= _) _ _ _
  refine wpAny_bind (wpAny_field hy rfl (x := .bool false) rfl ?_)
  show wpAny _ _ (field (.ref y) 3 >>= _) _ _ _
  refine wpAny_bind (wpAny_field hy rfl (x := .ref ti) rfl (wpAny_bind (wpAny_seqItems hti rfl ?_)))
  show wpAny _ _ (Builtin.SmallTypes.ownedTupleIsFree (.ref y) >>= _) _ _ _
  refine wpAny_bind ?_
  unfold Builtin.SmallTypes.ownedTupleIsFree
  refine wpAny_bind (wpAny_field hy rfl (x := .none) rfl (wpAny_pure ?_)); simp only [if_true]
  refine wpAny_bind (wpAny_rule (wpAny_bind (wpAny_field hy rfl (x := .ref d) rfl (wpAny_bind (wpAny_setField_rec hy (by simp) fun g1 k1 s1 => ?_)))))
  replace k1 : IsZip g1 y ti d .ellipsis := k1
  refine wpAny_bind ?_
  simp only [List.zipIdx_cons, List.zipIdx_nil, List.forIn_cons, List.forIn_nil]
  refine wpAny_bind (wpAny_bind (wpAny_onRaise ?_))
  show wpAny _ _ (Builtin.SmallTypes.nextOf (.ref p) >>= _) _ _ _
  refine wpAny_bind (nxT_item (h1.extBut s1.extBut n3) (ht.extBut s1.extBut n11) e1 fun g2 i2 s2 => wpAny_pure ?_)
  have d2 : IsPair g2 d a b := s2.extBut _ _ n8 (s1.extBut _ _ n2 hd)
  refine wpAny_bind (wpAny_seqItems d2 rfl (wpAny_bind (wpAny_updateSeq_pair d2 fun g3 d3 s3 => ?_)))
  replace d3 : IsPair g3 d v1 b := d3
  refine wpAny_bind (wpAny_letGo (wpAny_pure (wpAny_bind (wpAny_bind (wpAny_onRaise ?_)))))
  show wpAny _ _ (Builtin.SmallTypes.nextOf (.ref q) >>= _) _ _ _
  refine wpAny_bind (nxT_item (((h2.extBut s1.extBut n4).extBut s2.extBut (Ne.symm n10)).extBut s3.extBut (Ne.symm n9)) (((hu.extBut s1.extBut n15).extBut s2.extBut n17).extBut s3.extBut n16) e2 fun g4 i4 s4 => wpAny_pure ?_)
  have d4 : IsPair g4 d v1 b := s4.extBut _ _ n9 d3
  refine wpAny_bind (wpAny_seqItems d4 rfl (wpAny_bind (wpAny_updateSeq_pair d4 fun g5 d5 s5 => ?_)))
  replace d5 : IsPair g5 d v1 v2 := d5
  refine wpAny_bind (wpAny_letGo (wpAny_pure (wpAny_pure (wpAny_bind (wpAny_seqItems d5 rfl (wpAny_bind (wpAny_newTuple ?_)))))))
  have sz : g5.objs.size = s.heap.objs.size := by rw [s5.1, s4.1, s3.1, s2.1, s1.1]
  have k5 : IsZip g5 y ti d .ellipsis := s5.extBut _ _ (Ne.symm n2) (s4.extBut _ _ (Ne.symm n4) (s3.extBut _ _ (Ne.symm n2) (s2.extBut _ _ (Ne.symm n3) k1)))
  have up5 : ∀ c o, c ≠ y → c ≠ d → c ≠ p → c ≠ q → s.heap.get? c = some o → g5.get? c = some o := fun c o c1 c2 c3 c4 e => s5.extBut _ _ c2 (s4.extBut _ _ c4 (s3.extBut _ _ c2 (s2.extBut _ _ c3 (s1.extBut _ _ c1 e))))
  have p5 : g5.IsTupleIter p t (k + 1) := ((i2.extBut s3.extBut (Ne.symm n8)).extBut s4.extBut n10).extBut s5.extBut (Ne.symm n8)
  have q5 : g5.IsTupleIter q u (k + 1) := i4.extBut s5.extBut (Ne.symm n9)
  have ylt : y < g5.objs.size := Heap.lt_size k5
  show wpAny _ _ (Builtin.SmallTypes.ownedTupleHandOut (.ref y) (.ref g5.objs.size) >>= _) _ _ _
  refine wpAny_bind ?_
  unfold Builtin.SmallTypes.ownedTupleHandOut
  have k6 : IsZip (g5.push { cls := .type "tuple", data := .seq #[v1, v2] }) y ti d .ellipsis := Heap.get?_push_of_some _ k5
  refine wpAny_bind (wpAny_setField_rec k6 (by simp) fun g7 k7 s7 => ?_)
  replace k7 : IsZip g7 y ti d (rawInt g5.objs.size) := k7
  refine wpAny_setField_rec k7 (by simp) fun g8 k8 s8 => ?_
  replace k8 : IsZip g8 y ti d (rawInt g5.objs.size) := k8
  have up : ∀ c o, c ≠ y → g5.get? c = some o → g8.get? c = some o := fun c o c1 e => s8.extBut _ _ c1 (s7.extBut _ _ c1 (Heap.get?_push_of_some _ e))
  have t8 : IsPair g8 g5.objs.size v1 v2 := s8.extBut _ _ (Nat.ne_of_gt ylt) (s7.extBut _ _ (Nat.ne_of_gt ylt) (Heap.get?_push_size _ rfl))
  rw [sz] at k8 t8
  refine wpAny_pure ⟨_, rfl, wpAny_pure ?_⟩
  show Q (some (.ref g5.objs.size)) _
  rw [sz]
  exact go g8 k8 (up _ _ n2 d5) (p5.at fun o e => up _ o n3 e) (q5.at fun o e => up _ o n4 e) t8 fun c o c1 c2 c3 c4 e => up c o c1 (up5 c o c1 c2 c3 c4 e)

theorem zT_end {y ti d p q t u : Addr} {k : Nat} {xs : Array Value} {Q : Option Value → Shared → Prop} (hh : A.handled = none) (D : ZAp y ti d p q t u) (hy : IsZip s.heap y ti d .none) (hti : IsPair s.heap ti (.ref p) (.ref q))
    (h1 : s.heap.IsTupleIter p t k) (ht : s.heap.IsTuple t xs) (e1 : xs[k]? = none)
    (go : ∀ g, (∀ c o, c ≠ y → c ≠ d → c ≠ p → c ≠ q → s.heap.get? c = some o → g.get? c = some o) → Q none { s with heap := g }) : wpAny (model prog w) A (pyNext (.ref y)) Q E s := by
  obtain ⟨n1, n2, n3, n4, n5, n6, n7, n8, n9, n10, n11, n12, n13, n14, n15, n16, n17, n18⟩ := D.ne
  have ty : s.TypeIs (.ref y) "zip" := ⟨_, hy, rfl⟩
  unfold pyNext
  refine wpAny_bind (wpAny_attempt (wpAny_callSpecial?_slot (name := Str.ofString "__next__") ty PySem.F.slot_zip_next (wpAny_call_entry PySem.F.slot_zip_next ty PySem.F.entry_zip_next ?_ (PySem.F.args_zip_next_1 _))))
  show wpAny _ _ (field (.ref y) 2 >>= _) _ _ _
  refine wpAny_bind (wpAny_field hy rfl (x := .bool false) rfl ?_)
  show wpAny _ _ (field (.ref y) 3 >>= _) _ _ _
  refine wpAny_bind (wpAny_field hy rfl (x := .ref ti) rfl (wpAny_bind (wpAny_seqItems hti rfl ?_)))
  show wpAny _ _ (Builtin.SmallTypes.ownedTupleIsFree (.ref y) >>= _) _ _ _
  refine wpAny_bind ?_
  unfold Builtin.SmallTypes.ownedTupleIsFree
  refine wpAny_bind (wpAny_field hy rfl (x := .none) rfl (wpAny_pure ?_)); simp only [if_true]
  refine wpAny_bind (wpAny_rule (wpAny_bind (wpAny_field hy rfl (x := .ref d) rfl (wpAny_bind (wpAny_setField_rec hy (by simp) fun g1 k1 s1 => ?_)))))
  replace k1 : IsZip g1 y ti d .ellipsis := k1
  refine wpAny_bind ?_
  simp only [List.zipIdx_cons, List.zipIdx_nil, List.forIn_cons, List.forIn_nil]
  refine wpAny_bind (wpAny_bind (wpAny_onRaise ?_))
  show wpAny _ _ (Builtin.SmallTypes.nextOf (.ref p) >>= _) _ _ _
  refine wpAny_bind (nxT_end hh (h1.extBut s1.extBut n3) (ht.extBut s1.extBut n11) e1 fun g2 e s2 he => ?_)
  obtain ⟨oe, hoe, hce⟩ := he
  have k2 : IsZip g2 y ti d .ellipsis := s2 _ _ (Ne.symm n3) k1
  have ney : e ≠ y := fun z => by rw [z, k2] at hoe; cases hoe; simp at hce
  refine wpAny_setField_rec k2 (by simp) fun g3 _ s3 => ?_
  refine wpAny_bind (wpAny_isInstance (T := "StopIteration") (b := true) ⟨oe, s3.extBut _ _ ney hoe, hce⟩ isSubtype_stop ?_)
  exact wpAny_pure (go _ fun c o c1 _ c3 _ z => s3.extBut _ _ c1 (s2 _ _ c3 (s1.extBut _ _ c1 z)))
end
end L2

namespace L2
open PySem PySem.Spec PyProof.Rows

abbrev zA (h : Heap) (t : Addr) : Heap := h.push { cls := .type "tuple_iterator", data := .fields #[.ref t, .int 0 0] }
abbrev zB (h : Heap) (t u : Addr) : Heap := (zA h t).push { cls := .type "tuple_iterator", data := .fields #[.ref u, .int 0 0] }
abbrev zC (h : Heap) (t u : Addr) : Heap := (zB h t u).push { cls := .type "tuple", data := .seq #[.ref h.objs.size, .ref (zA h t).objs.size] }
abbrev zD (h : Heap) (t u : Addr) : Heap := (zC h t u).push { cls := .type "tuple", data := .seq #[.none, .none] }
abbrev zE (h : Heap) (t u : Addr) : Heap := (zD h t u).push { cls := .type "zip", data := .fields #[.none, .bool false, .bool false, .ref (zB h t u).objs.size, .ref (zC h t u).objs.size] }
theorem meetsZ (t u : Addr) (xs ys : Array Value) : Meets (Builtin.«zip.__new__» ⟨[.type "zip", .ref t, .ref u], []⟩) (fun _ R s => s.heap.IsTuple t xs ∧ s.heap.IsTuple u ys ∧ R (.ok (.ret (.ref (zD s.heap t u).objs.size))) { s with heap := zE s.heap t u }) :=
  .of_wp fun prog w A R s h => by
    obtain ⟨hp, g, dr, tk, os⟩ := s
    obtain ⟨ht, hu, h⟩ := h
    have sub := sub_zip
    have T1 : Heap.IsTuple (Shared.heap ⟨hp, g, dr, tk, os⟩) t xs := ht
    have T2 : Heap.IsTuple (Shared.heap ⟨hp.push { cls := .type "tuple_iterator", data := .fields #[.ref t, .int 0 0] }, g, dr, tk, os⟩) u ys := Heap.IsTuple.push hu _
    wp_walk using wpAny_pyIter_tuple T1, wpAny_pyIter_tuple T2
    exact ⟨_, rfl, h⟩
section
variable {prog : Program} {w : World} {A : Around} {E : Value → Shared → Prop} {s : Shared}
theorem call_zipT {t u : Addr} {xs ys : Array Value} {Q : Value → Shared → Prop} (ht : s.heap.IsTuple t xs) (hu : s.heap.IsTuple u ys)
    (h : ∀ g, IsZip g (s.heap.objs.size + 4) (s.heap.objs.size + 2) (s.heap.objs.size + 3) .none → IsPair g (s.heap.objs.size + 2) (.ref s.heap.objs.size) (.ref (s.heap.objs.size + 1)) → IsPair g (s.heap.objs.size + 3) .none .none →
      g.IsTupleIter s.heap.objs.size t 0 → g.IsTupleIter (s.heap.objs.size + 1) u 0 → (∀ c o, s.heap.get? c = some o → g.get? c = some o) → Q (.ref (s.heap.objs.size + 4)) { s with heap := g }) :
    wpAny (model prog w) A (call (.type "zip") [.ref t, .ref u]) Q E s := by
  refine callType_new PySem.F.called_zip (by decide) (PySem.F.typeCall_zip_2 _ _) (PySem.F.newCall_zip_2 _ _) (fun obj => PySem.F.args_object_init_3 obj _ _) PySem.F.entry_zip_new (meetsZ t u xs ys) ⟨ht, hu, ?_⟩
  have n1 : (zA s.heap t).objs.size = s.heap.objs.size + 1 := Heap.size_push ..
  have n2 : (zB s.heap t u).objs.size = s.heap.objs.size + 2 := by rw [Heap.size_push, n1]
  have n3 : (zC s.heap t u).objs.size = s.heap.objs.size + 3 := by rw [Heap.size_push, n2]
  have n4 : (zD s.heap t u).objs.size = s.heap.objs.size + 4 := by rw [Heap.size_push, n3]
  have f5 : (zE s.heap t u).get? (zD s.heap t u).objs.size = some _ := Heap.get?_push_size _ rfl
  have f4 : (zE s.heap t u).get? (zC s.heap t u).objs.size = some _ := Heap.get?_push_of_some _ (Heap.get?_push_size _ rfl)
  have f3 : (zE s.heap t u).get? (zB s.heap t u).objs.size = some _ := Heap.get?_push_of_some _ (Heap.get?_push_of_some _ (Heap.get?_push_size _ rfl))
  have f2 : (zE s.heap t u).get? (zA s.heap t).objs.size = some _ := Heap.get?_push_of_some _ (Heap.get?_push_of_some _ (Heap.get?_push_of_some _ (Heap.get?_push_size _ rfl)))
  have f1 : (zE s.heap t u).get? s.heap.objs.size = some _ := Heap.get?_push_of_some _ (Heap.get?_push_of_some _ (Heap.get?_push_of_some _ (Heap.get?_push_of_some _ (Heap.get?_push_size _ rfl))))
  show _ ∧ _
  rw [n2, n3, n4] at f5; rw [n1, n2] at f3; rw [n3] at f4; rw [n1] at f2; rw [n4]
  exact ⟨⟨_, f5, rfl⟩, h _ f5 f3 f4 ⟨_, f1, rfl, rfl⟩ ⟨_, f2, rfl, rfl⟩ fun c o e => Heap.get?_push_of_some _ (Heap.get?_push_of_some _ (Heap.get?_push_of_some _ (Heap.get?_push_of_some _ (Heap.get?_push_of_some _ e))))⟩
end

def Itz (K : PySem.W.Frag) (t u : Addr) : It :=
  ⟨fun i H => ∃ xs ys x y, SqT K H t xs ∧ SqT K H u ys ∧ xs[i]? = some x ∧ ys[i]? = some y, fun i H v H' => ∃ p x y, H p = none ∧ v = .ref p ∧ H' = upd H p (.tup [x, y]) ∧ ∀ xs ys, SqT K H t xs → SqT K H u ys → xs[i]? = some x ∧ ys[i]? = some y,
    fun i H => ∃ xs, SqT K H t xs ∧ xs.length ≤ i⟩
theorem turn_zip {P : Program} {w : World} {K : PySem.W.Frag} {elts : List Expr} {kk : Nat} {pos : Pos} {y ti d p q t u : Addr} (D : ZAp y ti d p q t u) :
    Turn P w K (.Tuple elts kk pos) (Itz K t u) [y, ti, d, p, q] y (fun i h => IsZip h y ti d .none ∧ IsPair h ti (.ref p) (.ref q) ∧ (∃ a b, IsPair h d a b) ∧ h.IsTupleIter p t i ∧ h.IsTupleIter q u i) where
  mem := by simp
  obj := fun i h st b hb => by
    obtain ⟨hy, hti, ⟨a0, b0, hd⟩, ⟨op, e1, c1, d1⟩, oq, e2, c2, d2⟩ := st
    have hb' : b = y ∨ b = ti ∨ b = d ∨ b = p ∨ b = q := by simpa using hb
    rcases hb' with rfl | rfl | rfl | rfl | rfl
    · exact ⟨_, hy, fun v z => by cases z⟩
    · exact ⟨_, hti, fun v z => by cases z⟩
    · exact ⟨_, hd, fun v z => by cases z⟩
    · exact ⟨op, e1, fun v z => by rw [d1] at z; cases z⟩
    · exact ⟨oq, e2, fun v z => by rw [d2] at z; cases z⟩
  keep := fun i h h' st k => by
    obtain ⟨hy, hti, ⟨a0, b0, hd⟩, h1, h2⟩ := st
    exact ⟨k y (by simp) _ hy, k ti (by simp) _ hti, ⟨a0, b0, k d (by simp) _ hd⟩, h1.at fun o z => k p (by simp) o z, h2.at fun o z => k q (by simp) o z⟩
  item := by
    intro X hP hw hK hc i pins s σ H E I hf st hg
    subst hP hw hK
    obtain ⟨xs, ys, v1, v2, hq1, hq2, hx, hy'⟩ := hg
    obtain ⟨its, rv, pl, hz⟩ := I.tuple hq1
    obtain ⟨its2, rv2, pl2, hz2⟩ := I.tuple hq2
    obtain ⟨u1, hu1, ru1⟩ := rv.get hx
    obtain ⟨u2, hu2, ru2⟩ := rv2.get hy'
    obtain ⟨hy, hti, ⟨a0, b0, hd⟩, h1, h2⟩ := st
    have HP : H s.heap.objs.size = none := I.hok.fresh (Nat.le_refl _)
    have ylt : y < s.heap.objs.size := Heap.lt_size hy
    refine zT_item D hy hti hd h1 h2 pl pl2 (v1 := u1) (v2 := u2) (by simpa using hu1) (by simpa using hu2) fun g gy gd gp gq gt kp => ?_
    refine ⟨_, rfl, wpAny_letOwnedTupleGo_zip gy fun g' gy' hs' => ?_⟩
    obtain ⟨n1, n2, n3, n4, n5, n6, n7, n8, n9, n10, _⟩ := D.ne
    have up : ∀ b o, b ≠ y → b ≠ d → b ≠ p → b ≠ q → s.heap.get? b = some o → g'.get? b = some o := fun b o c1 c2 c3 c4 e => (hs'.2 b c1).trans (kp b o c1 c2 c3 c4 e)
    have nch : ∀ b, b ∉ [y, d, p, q] → b ≠ y ∧ b ≠ d ∧ b ≠ p ∧ b ≠ q := fun b z => ⟨fun e => z (by simp [e]), fun e => z (by simp [e]), fun e => z (by simp [e]), fun e => z (by simp [e])⟩
    have Pt : g'.get? s.heap.objs.size = some { cls := .type "tuple", data := .seq #[u1, u2] } := (hs'.2 _ (Nat.ne_of_gt ylt)).trans gt
    have mem5 : ∀ b, b ∈ [y, d, p, q] → b ∈ [y, ti, d, p, q] := fun b hb => by
      simp only [List.mem_cons, List.not_mem_nil, or_false] at hb ⊢
      rcases hb with e | e | e | e
      · exact .inl e
      · exact .inr (.inr (.inl e))
      · exact .inr (.inr (.inr (.inl e)))
      · exact .inr (.inr (.inr (.inr e)))
    have unt : ∀ b o, H b = some o → b ≠ y ∧ b ≠ d ∧ b ≠ p ∧ b ≠ q := fun b o e => by
      have f : ∀ c, c ∈ [y, d, p, q] → b ≠ c := fun c hc z => by
        have := (hf c (mem5 c hc)).1
        rw [← z, e] at this
        cases this
      exact ⟨f y (by simp), f d (by simp), f p (by simp), f q (by simp)⟩
    have I1 : Inv X pins σ (upd H s.heap.objs.size (.tup [v1, v2])) { s with heap := g' } := by
      refine I.step (g' := s.gens) (t' := s.toks) (d' := s.drawn) (ch := [y, d, p, q]) (fun b hb => ?_) (fun b o _ _ hc e _ => up b o (nch b hc).1 (nch b hc).2.1 (nch b hc).2.2.1 (nch b hc).2.2.2 e) (fun b o _ _ hc e _ => ⟨o.slots, up b o (nch b hc).1 (nch b hc).2.1 (nch b hc).2.2.1 (nch b hc).2.2.2 e⟩)
        (fun b o _ e n => ?_) (fun b o hc e => ⟨o, up b o (nch b hc).1 (nch b hc).2.1 (nch b hc).2.2.1 (nch b hc).2.2.2 e⟩) (fun b zs e => ?_) (fun b o zs e => ?_) (fun b ps e => ⟨#[], ?_⟩) (fun m hm => ?_) (fun b o e => ?_) I.bare
      · obtain ⟨f0, f1, f2, f3, f4, f5⟩ := hf b (mem5 b hb)
        exact ⟨f3, f1, f4, f5⟩
      · rw [upd_ne (Nat.ne_of_lt (Heap.lt_size e))]; exact n
      · rw [upd_ne (ne_of_none e HP)]; exact e
      · rw [upd_ne (ne_of_none e HP)]; exact e
      · rw [upd_ne (ne_of_none e HP), e]; simp
      · obtain ⟨o, es, ep, ho2, r⟩ := hm
        have ne : ∀ c, c ∈ [y, d, p, q] → X.env.locals ≠ c := fun c hc => Ne.symm (hf c (mem5 c hc)).2.1
        exact ⟨o, es, ep, up _ o (ne y (by simp)) (ne d (by simp)) (ne p (by simp)) (ne q (by simp)) ho2, r⟩
      · by_cases hb : b = s.heap.objs.size
        · subst hb
          rw [upd_same] at e
          cases e
          exact ⟨by show 2 ≤ sizeLine; decide, [u1, u2], .cons ru1 (.cons ru2 .nil), ⟨_, Pt, rfl, _, rfl⟩⟩
        · rw [upd_ne hb] at e
          refine (I.hok b o e).stay (fun c v hc z => ?_) (fun c z => ?_) fun c zs z => ?_
          · have nn : c ≠ y ∧ c ≠ d ∧ c ≠ p ∧ c ≠ q := by
              rcases hc with r | r
              · rw [r]; exact unt b o e
              · exact unt c _ r
            exact up c v nn.1 nn.2.1 nn.2.2.1 nn.2.2.2 z
          · rw [upd_ne (ne_of_none z HP)]; exact z
          · rw [upd_ne (ne_of_none z HP)]; exact z
    refine ⟨.ref s.heap.objs.size, _, I1, rfl, ⟨_, v1, v2, HP, rfl, rfl, fun zs ws h3 h4 => by rw [I.tuple_inj h3 hq1, I.tuple_inj h4 hq2]; exact ⟨hx, hy'⟩⟩, ⟨gy', (hs'.2 ti n1).trans (kp ti _ n1 n5 n6 n7 hti), ⟨_, _, (hs'.2 d n2).trans gd⟩, gp.at fun o z => (hs'.2 p n3).trans z, gq.at fun o z => (hs'.2 q n4).trans z⟩, fun b hb => ?_⟩
    have there : ∀ b, b ∈ [y, ti, d, p, q] → ∃ o, s.heap.get? b = some o := fun b hb => by
      have hb' : b = y ∨ b = ti ∨ b = d ∨ b = p ∨ b = q := by simpa using hb
      obtain ⟨op, e1, _⟩ := id h1
      obtain ⟨oq, e2, _⟩ := id h2
      rcases hb' with rfl | rfl | rfl | rfl | rfl
      · exact ⟨_, hy⟩
      · exact ⟨_, hti⟩
      · exact ⟨_, hd⟩
      · exact ⟨_, e1⟩
      · exact ⟨_, e2⟩
    obtain ⟨o, eo⟩ := there b hb
    rw [upd_ne (Nat.ne_of_lt (Heap.lt_size eo))]
    exact (hf b hb).1
  done := by
    intro X hP hw hK hc i pins s σ H E I hf st hg
    subst hP hw hK
    obtain ⟨xs, hq1, hx⟩ := hg
    obtain ⟨its, rv, pl, hz⟩ := I.tuple hq1
    obtain ⟨hy, hti, ⟨a0, b0, hd⟩, h1, h2⟩ := st
    have hl := rv.length
    refine zT_end (I.ok.hd hc) D hy hti h1 pl (by simp; omega) fun g kp => ⟨rfl, ?_⟩
    have nch : ∀ b, b ∉ [y, d, p, q] → b ≠ y ∧ b ≠ d ∧ b ≠ p ∧ b ≠ q := fun b z => ⟨fun e => z (by simp [e]), fun e => z (by simp [e]), fun e => z (by simp [e]), fun e => z (by simp [e])⟩
    have mem5 : ∀ b, b ∈ [y, d, p, q] → b ∈ [y, ti, d, p, q] := fun b hb => by
      simp only [List.mem_cons, List.not_mem_nil, or_false] at hb ⊢
      rcases hb with e | e | e | e
      · exact .inl e
      · exact .inr (.inr (.inl e))
      · exact .inr (.inr (.inr (.inl e)))
      · exact .inr (.inr (.inr (.inr e)))
    have unt : ∀ b o, H b = some o → b ≠ y ∧ b ≠ d ∧ b ≠ p ∧ b ≠ q := fun b o e => by
      have f : ∀ c, c ∈ [y, d, p, q] → b ≠ c := fun c hc z => by
        have := (hf c (mem5 c hc)).1
        rw [← z, e] at this
        cases this
      exact ⟨f y (by simp), f d (by simp), f p (by simp), f q (by simp)⟩
    refine I.step (g' := s.gens) (t' := s.toks) (d' := s.drawn) (ch := [y, d, p, q]) (fun b hb => ?_) (fun b o _ _ hc e _ => kp b o (nch b hc).1 (nch b hc).2.1 (nch b hc).2.2.1 (nch b hc).2.2.2 e) (fun b o _ _ hc e _ => ⟨o.slots, kp b o (nch b hc).1 (nch b hc).2.1 (nch b hc).2.2.1 (nch b hc).2.2.2 e⟩)
        (fun b o _ e n => n) (fun b o hc e => ⟨o, kp b o (nch b hc).1 (nch b hc).2.1 (nch b hc).2.2.1 (nch b hc).2.2.2 e⟩) (fun b zs e => e) (fun b o zs e => e) (fun b ps e => ⟨#[], by rw [e]; simp⟩) (fun m hm => ?_) (fun b o e => ?_) I.bare
    · obtain ⟨f0, f1, f2, f3, f4, f5⟩ := hf b (mem5 b hb)
      exact ⟨f3, f1, f4, f5⟩
    · obtain ⟨o, es, ep, ho2, r⟩ := hm
      have ne : ∀ c, c ∈ [y, d, p, q] → X.env.locals ≠ c := fun c hc => Ne.symm (hf c (mem5 c hc)).2.1
      exact ⟨o, es, ep, kp _ o (ne y (by simp)) (ne d (by simp)) (ne p (by simp)) (ne q (by simp)) ho2, r⟩
    · refine (I.hok b o e).stay (fun c v hc z => ?_) (fun c z => z) fun c zs z => z
      have nn : c ≠ y ∧ c ≠ d ∧ c ≠ p ∧ c ≠ q := by
        rcases hc with r | r
        · rw [r]; exact unt b o e
        · exact unt c _ r
      exact kp c v nn.1 nn.2.1 nn.2.2.1 nn.2.2.2 z
  self := fun _ _ _ _ _ st h => wpAny_pyIter_zip st.1 h

section
variable {X : Cx}
def iZip (K : PySem.W.Frag) (ta : TA) : TI := fun σ H R => ta σ H fun vs H1 => ∃ t u, vs = [.ref t, .ref u] ∧ (∃ xs, SqT K H1 t xs) ∧ (∃ ys, SqT K H1 u ys) ∧ R (Itz K t u) H1
theorem pi_zip {a b : Expr} {ta : TA} {elts : List Expr} {k : Nat} {p pos tpos : Pos} (hg : Gl X "zip") (hm : X.mg "zip" = none) (hv : bootBuiltins "zip" = some (.type "zip")) (ha : PA X [a, b] ta) (hs : starEach [a, b] X.env = (false, eval a X.env) :: starEach [b] X.env := by rfl) (hpl : (backTo pos (starEach [b] X.env)).any (·.1) = false := by rfl) :
    PI X (.Tuple elts k tpos) (.Call (.Name "zip" p) [a, b] [] pos) (iZip X.K ta) := by
  intro pins s σ H R I h
  refine Call_ (ld_blt I hg hm hv (PyProof.Rows.callWith_type1 (thn (ha pos pins s σ H _ I h) fun us s1 ⟨vs, H1, I1, r1, q1⟩ => ?_) hs hpl))
  obtain ⟨t, u, e, ⟨xs, hq⟩, ⟨ys, hq2⟩, q⟩ := q1
  subst e
  obtain ⟨v1, v2, rfl, ru, ru2⟩ := vals2 r1
  cases ru
  cases ru2
  obtain ⟨its, rv, pl, hz⟩ := I1.tuple hq
  obtain ⟨its2, rv2, pl2, hz2⟩ := I1.tuple hq2
  refine call_zipT pl pl2 fun g g1 g2 g3 g4 g5 kp => ?_
  have I2 : Inv X pins σ H1 { s1 with heap := g } := I1.kept (t' := s1.toks) kp
  have tl : t < s1.heap.objs.size := by obtain ⟨o, e, _⟩ := id pl; exact Heap.lt_size e
  have ul : u < s1.heap.objs.size := by obtain ⟨o, e, _⟩ := id pl2; exact Heap.lt_size e
  have D : ZAp (s1.heap.objs.size + 4) (s1.heap.objs.size + 2) (s1.heap.objs.size + 3) s1.heap.objs.size (s1.heap.objs.size + 1) t u := by
    generalize s1.heap.objs.size = n at tl ul
    have nt : ∀ k, t ≠ n + k := fun k => Nat.ne_of_lt (Nat.lt_of_lt_of_le tl (Nat.le_add_right n k))
    have nu : ∀ k, u ≠ n + k := fun k => Nat.ne_of_lt (Nat.lt_of_lt_of_le ul (Nat.le_add_right n k))
    have nt0 : t ≠ n := nt 0
    have nu0 : u ≠ n := nu 0
    refine ⟨?_, ?_, ?_⟩
    · simp
    · simp [nt, nt0]
    · simp [nu, nu0]
  refine wpAny_pyIter_zip g1 ⟨s1.heap.objs.size + 4, [s1.heap.objs.size + 4, s1.heap.objs.size + 2, s1.heap.objs.size + 3, s1.heap.objs.size, s1.heap.objs.size + 1], _, _, H1, rfl, I2, turn_zip D, ⟨g1, g2, ⟨_, _, g3⟩, g4, g5⟩, fun b hb => ?_, q⟩
  have hb' : s1.heap.objs.size ≤ b := by
    simp only [List.mem_cons, List.not_mem_nil, or_false] at hb
    rcases hb with e | e | e | e | e <;> rw [e]
    · exact Nat.le_add_right _ _
    · exact Nat.le_add_right _ _
    · exact Nat.le_add_right _ _
    · exact Nat.le_refl _
    · exact Nat.le_add_right _ _
  exact I1.fpOk hb' (I1.hok.fresh hb')
end
end L2

namespace L2
open PySem PySem.Spec PyProof.Rows
variable [TabPar]

section
variable {X : Cx}
/-! ### t + (x,) -/
def rSnocT (K : PySem.W.Frag) : R2 := fun x y H Q => ∃ a b xs v, x = .ref a ∧ y = .ref b ∧ SqT K H a xs ∧ H b = some (.tup [v]) ∧ xs.length + 1 ≤ sizeLine ∧ ∀ p H', Same H H' → H' p = some (.tup (xs ++ [v])) → Q (.ref p) H'
theorem op_snocT : OpR X (binaryOp .Add) (rSnocT X.K) := by
  intro pins s σ H x y v u Q I rx ry h
  obtain ⟨a, b, xs, z, rfl, rfl, ha, hb, hz, q⟩ := h
  cases rx
  cases ry
  obtain ⟨its, r1, p1, _⟩ := I.tuple ha
  obtain ⟨its2, r2, p2, _⟩ := I.tuple (SqT.of hb)
  by_cases hx : xs = []
  · subst hx
    have e1 : its = [] := r1.nil_iff.mpr rfl
    subst e1
    obtain ⟨⟨cls, dd, data, sl⟩, ho, hc, n, hd⟩ := id p1
    obtain ⟨⟨cls2, dd2, data2, sl2⟩, ho2, hc2, n2, hd2⟩ := id p2
    simp only at hc hd hc2 hd2
    subst hc hd hc2 hd2
    exact concat_meets ⟨_, ho, rfl⟩ ⟨_, ho2, rfl⟩ noFill_tuple_add seq_tuple_add PySem.F.slot_tuple_add PySem.F.entry_tuple_add (PySem.F.args_tuple_add_2 _ _) (tuple_addW0 a b _ its2.toArray n n2 dd dd2 sl sl2 (by simp)) ⟨ho, ho2, ⟨.ref b, H, I, rfl, q b H (Same.refl H) hb⟩⟩
  · refine HT.cat_tup p1 p2 (fun w => hx (r1.nil_iff.mp w)) (fun w => absurd (r2.nil_iff.mp w) (by simp)) (fun w => ?_) (by rw [← r1.length, ← r2.length]; exact hz)
    have hn := I.hok.fresh (Nat.le_refl s.heap.objs.size)
    refine ⟨.ref s.heap.objs.size, _, I.laid (t' := s.toks) (o := .tup (xs ++ [z])) (fun b ob w => Heap.get?_push_of_some _ w) (Nat.le_refl _) ?_, rfl, q _ _ (same_new hn _) upd_same⟩
    exact ⟨by rw [List.length_append]; exact hz, _, r1.append r2, IsTup.new _ _⟩
/-! ### xs[k] -= 1 -/
theorem get_list : PGet X (rIxL X.K) := by
  intro pins s σ H o i ov iv Q I ro ri h
  obtain ⟨p, xs, k, z, rfl, rfl, hq, he, q⟩ := h
  cases ro
  obtain ⟨t, rfl⟩ := ri
  obtain ⟨its, r, pl, hz⟩ := I.list hq
  obtain ⟨j, h1, h2, h3, h4, h5⟩ := atI_get he
  obtain ⟨w, ew, rw'⟩ := r.get h2
  have hl := r.length
  have hn := line63
  by_cases h0 : 0 ≤ k
  · have hj : k.toNat = j := by
      rw [seqIndex_of h0 h5] at h1
      exact Option.some.inj h1
    exact getItem_listL pl.isList h0 (by omega) (by rw [hj]; exact ew) ⟨z, H, I, rw', q⟩
  · have hj : (k + (its.toArray.size : Int)).toNat = j := by
      rw [seqIndex_neg (by omega) h4] at h1
      rw [List.size_toArray, ← hl]
      exact Option.some.inj h1
    exact wpAny_getItem_list_neg pl.isList (by omega) (by rw [List.size_toArray] <;> omega) (by omega) (by rw [hj]; simpa using ew) ⟨z, H, I, rw', q⟩
/-! ### a list or a tuple by its place -/
def SqE (K : PySem.W.Frag) (H : Hp) (a : Addr) (xs : List V) : Prop := SqL K H a xs ∨ SqT K H a xs
theorem Same.sqe {K : PySem.W.Frag} {H H' : Hp} {a : Addr} {xs : List V} (e : Same H H') (h : SqE K H a xs) : SqE K H' a xs := h.elim (fun h => .inl (e.seq h)) fun h => .inr (e.tup h)
def rIxE (K : PySem.W.Frag) : R2 := fun x y H Q => ∃ p xs i v, x = .ref p ∧ y = .int i ∧ SqE K H p xs ∧ atI xs i = some v ∧ Q v H
theorem ix_either : IxR X (rIxE X.K) := by
  intro value slice pins s σ H x y v u Q I rx ry h hs
  obtain ⟨p, xs, i, z, e1, e2, hq, he, q⟩ := h
  rcases hq with hq | hq
  · exact ix_list value slice pins s σ H x y v u Q I rx ry ⟨p, xs, i, z, e1, e2, hq, he, q⟩ hs
  · exact ix_tup value slice pins s σ H x y v u Q I rx ry ⟨p, xs, i, z, e1, e2, hq, he, q⟩ hs
variable {own : List Str} {scope : Scope} {C : Addr} {s₀ : Shared} {H₀ : Hp} {ex : List Addr}
theorem pe_bmB {o e : Expr} {es : List Expr} {to : TE} {t : TA} {name : Str} {apos cpos : Pos} {T id : String} {r : V → List V → Hp → VK → Prop} (pa : PlainAttrs T) (slot : Slot T name id) (hty : typeOf (.builtin id) = pure (.type "method_descriptor")) (hm : MtR (blk X own scope C s₀ H₀ ex) id r)
    (ho : PE (blk X own scope C s₀ H₀ ex) o to) (ha : PA (blk X own scope C s₀ H₀ ex) (e :: es) t)
    (h1 : attributeBase o name (blk X own scope C s₀ H₀ ex).env (eval o (blk X own scope C s₀ H₀ ex).env) = eval o (blk X own scope C s₀ H₀ ex).env := by rfl)
    (h2 : ((backTo cpos (starEach (e :: es) (blk X own scope C s₀ H₀ ex).env)).all (fun x => !x.1) && (backToKw cpos (keywordEach [] (blk X own scope C s₀ H₀ ex).env)).all (fun x => x.1.isSome) && decide ((e :: es).length + ([] : List Keyword).length + (if ([] : List Keyword).isEmpty then 0 else 1) < 30)) = true := by rfl)
    (h3 : (apos.endLine == cpos.line) = true := by rfl) (h4 : starEach (e :: es) (blk X own scope C s₀ H₀ ex).env = (false, eval e (blk X own scope C s₀ H₀ ex).env) :: starEach es (blk X own scope C s₀ H₀ ex).env := by rfl) (h5 : (backTo cpos (starEach es (blk X own scope C s₀ H₀ ex).env)).any (·.1) = false := by rfl) :
    PE (blk X own scope C s₀ H₀ ex) (.Call (.Attribute o name apos) (e :: es) [] cpos) (tBM X.K T r to t) := pe_bm (X := blk X own scope C s₀ H₀ ex) pa slot hty hm ho ha h1 h2 h3 h4 h5
theorem ix_eitherB : IxR (blk X own scope C s₀ H₀ ex) (rIxE X.K) := ix_either
theorem op_snocTB : OpR (blk X own scope C s₀ H₀ ex) (binaryOp .Add) (rSnocT X.K) := op_snocT
end
section
variable {K : PySem.W.Frag} {σ : St} {H : Hp} {Q : VK} {t u : Addr} {xs ys : List V} {te : TE}
/-- [e for x, y in zip(t, u)], nothing that is tracked changes -/
theorem comp_zip0 (F : Nat → V) (h1 : SqT K H t xs) (h2 : SqT K H u ys) (hl : xs.length ≤ 1000) (he : ys.length = xs.length)
    (step : ∀ (i : Nat) (x y : V) (H1 : Hp) (R : V → Hp → Prop), xs[i]? = some x → ys[i]? = some y → Same H H1 → (∀ H4, Same H1 H4 → R (F i) H4) → te (some x :: some y :: σ) H1 R)
    (fin : retL H ((List.range xs.length).map F) Q) : CompEnd (Itz K t u) 2 (g2 K) tNoIf te σ H Q := by
  refine ⟨fun i m zs H1 => m = xs.length - i ∧ i ≤ xs.length ∧ Same H H1 ∧ zs = (List.range i).map F, ⟨xs.length, by simp, Nat.zero_le _, Same.refl H, rfl⟩, ?_⟩
  rintro i m zs H1 os hos ⟨rfl, hi, hs, rfl⟩
  have q1 := hs.tup h1
  have q2 := hs.tup h2
  by_cases hlt : i < xs.length
  · have hlt2 : i < ys.length := by omega
    refine .inr ⟨⟨xs, ys, xs[i], ys[i], q1, q2, by simp [hlt], by simp [hlt2]⟩, small1000 (by rw [List.length_map, List.length_range]; omega), fun zs' H' => Same H H' ∧ zs' = (List.range (i + 1)).map F, fun zs' H' ⟨a1, a2⟩ => ⟨xs.length - (i + 1), by omega, rfl, hlt, a1, a2⟩, ?_⟩
    rintro v H' ⟨p, x, y, hp, rfl, rfl, hv⟩
    obtain ⟨hx, hy⟩ := hv xs ys q1 q2
    have hs' : Same H (upd H1 p (.tup [x, y])) := hs.trans (same_new hp _)
    obtain ⟨o1, o2, rfl⟩ : ∃ o1 o2, os = [o1, o2] := by
      match os, hos with
      | [o1, o2], _ => exact ⟨o1, o2, rfl⟩
    refine ⟨p, _, rfl, SqT.of upd_same, rfl, _, _, rfl, _, _, rfl, rfl, ⟨[some x, some y], rfl, rfl⟩, ?_⟩
    refine iteT (B := False) ?_
    refine step i x y _ _ hx hy hs' fun H4 h4 => ⟨hs'.trans h4, ?_⟩
    rw [List.range_succ, List.map_append]
    rfl
  · have e : i = xs.length := by omega
    subst e
    exact .inl ⟨⟨xs, q1, Nat.le_refl _⟩, fun D hD => fin D _ (hs.free hD) (hs.trans (same_new hD _)) upd_same⟩
end
section
variable {P : Program} {w : World} {K : PySem.W.Frag} {mg : Str → Option Value} {base : Heap} {x : Str} {ps N : List Str} {st : Stmt} {k : Nat} {sp : Sp}
/-- the rule for a def, with its code's value -/
theorem Tx.okC (T : Tx K mg x ps st) (S : FnScope N ps (defScope st)) (len : ∀ vs H Q E, sp vs H Q E → vs.length = ps.length)
    (hbody : ∀ (f : Addr) (cdv : Value), (∃ (fd : FuncData) (oc : Value) (od : Option Addr) (osl : Array (Option Value)), mg x = some (.ref f) ∧ K.lookup f = some ⟨oc, od, .func fd, osl⟩ ∧ fd.code = cdv) →
      ∀ (A : Around) (outer : List Env) (s : Shared) (H : Hp) (vs : List V) (Q : VK) (E : XK), Room k (A.deeper (envOfC x (defScope st) s.heap.objs.size f cdv)) → sp vs H Q E →
      ∃ t, PSs (cxOf CX0 P w K mg base N x (defScope st) f cdv A outer s H E).nox (defBody st) t ∧ t { nx := fun _ H' => Q .non H', rt := Q } (start N vs) H) : Df P w K mg base (k + 1) x ps sp := by
  obtain ⟨f, fd, F, b, m⟩ := T
  obtain ⟨oc, od, kV, doc, pm, an, cdv, ct, osl, rfl, lk, hcd⟩ := F.ex
  refine ⟨f, _, fn_of lk hcd S len fun A outer s H vs Q E hr hsp => ?_, b, F.kp, m, oc, od, osl, lk⟩
  obtain ⟨t, h, q⟩ := hbody f cdv ⟨_, oc, od, osl, m, lk, rfl⟩ A outer s H vs Q E hr hsp
  exact ⟨t, h.nox, q⟩
end
/-- for i, x in enumerate(list): the list stays as it is -/
theorem for_enum {K : PySem.W.Frag} {a : Addr} {xs : List V} {g : TG} {tb : TS} {D : Ends} {σ : St} {H : Hp} (Pv : Nat → St → Hp → Prop) (h0 : Pv 0 σ H) (hl : ∀ i σ H, i ≤ xs.length → Pv i σ H → SqL K H a xs)
    (turn : ∀ i x p σ H, xs[i]? = some x → Pv i σ H → H p = none → g (.ref p) σ (upd H p (.tup [.int (i : Int), x])) fun σ2 H2 => tb { D with nx := Pv (i + 1), ct := Pv (i + 1), bk := D.nx } σ2 H2) (fin : ∀ σ H, Pv xs.length σ H → D.nx σ H) :
    ∃ W : Nat → Nat → St → Hp → Prop, (∃ m, W 0 m σ H) ∧ ∀ i m σ H, W i m σ H →
      ((Ite K a).stop i H ∧ D.nx σ H) ∨ ((Ite K a).go i H ∧ ∃ N : St → Hp → Prop, (∀ σ' H', N σ' H' → ∃ m', m' < m ∧ W (i + 1) m' σ' H') ∧ ∀ x H', (Ite K a).yld i H x H' → g x σ H' fun σ2 H2 => tb { D with nx := N, ct := N, bk := D.nx } σ2 H2) := by
  refine ⟨fun i m σ H => m = xs.length - i ∧ i ≤ xs.length ∧ Pv i σ H, ⟨xs.length, by simp, Nat.zero_le _, h0⟩, ?_⟩
  rintro i m σ H ⟨rfl, hi, hp⟩
  have hq := hl i σ H hi hp
  by_cases hlt : i < xs.length
  · refine .inr ⟨⟨xs, xs[i], hq, by simp [hlt]⟩, Pv (i + 1), fun σ' H' h' => ⟨xs.length - (i + 1), by omega, rfl, hlt, h'⟩, fun v H' y => ?_⟩
    obtain ⟨p, x, hpn, rfl, rfl, hv⟩ := y
    exact turn i x p σ H (hv xs hq) hp hpn
  · have e : i = xs.length := by omega
    subst e
    exact .inl ⟨⟨xs, hq, Nat.le_refl _⟩, fin σ H hp⟩
end L2

namespace L2
open PySem PySem.Spec PyProof.Rows
variable [TabPar]

/-- THE HEAD where one code table may grow: tc the code, PT its table -/
theorem law_callT {P : Program} {w : World} {K : PySem.W.Frag} {mg mb : Str → Option Value} {CX : CXT} {k : Nat} {fa a tc PT : Addr} {fd : FuncData} {x : Str} {sp : Sp} {s₁ : Shared} {vs : List Value} {ns : List Int}
    (KX : K.In s₁.heap) (hns : s₁.heap.Ns mainGlobals mg) (hb : s₁.heap.Ns builtinsNs mb) (hbb : ∀ x : Str, x ≠ "__name__" → mb x = bootBuiltins x) (hlim : s₁.heap.NoLimit) (hg : s₁.gens = #[])
    (ha : s₁.heap.get? a = some { cls := .type "list", data := .seq vs.toArray }) (hi : IntsAre vs ns) (hl : ns.length ≤ sizeLine) (hr : Room k callerA)
    (hC : PySem.W.CodeHd s₁.heap tc PT) (hPT : s₁.heap.get? PT = some (PySem.W.tabObj #[])) (hKP : K.lookup PT = none) (hBm : s₁.heap.BuiltinsAt mg PT)
    (F : ∀ base : Heap, K.In base → base.Ns mainGlobals mg → PySem.W.CodeHd base tc PT → base.BuiltinsAt mg PT → FnOk P w K mg base CX k fa fd [x] sp) (hbind : ∀ (s : Shared) (u : Value), BindsTo s fd ⟨[u], []⟩ [(x, u)])
    (hsp : ∀ H : Hp, TabOk PT H → SqL K H a (ns.map V.int) → sp [.ref a] H (fun v _ => v = .bl true) fun _ _ _ => False)
    (hCX : ∀ H e s', CX [] H s₁ (fun _ _ _ => False) e s' → False) :
    codeAny (model P w) callerA (.call (.ref fa) ⟨[.ref a], []⟩) (fun r s' => r = .ok (.ret (.bool true)) ∧ OldK s₁.heap s'.heap ∧ s'.os = s₁.os ∧ AllBare s'.gens) s₁ := by
  have rv := vals_ints hi
  have lenV := hi.length
  have neA : PT ≠ a := fun e => by rw [e, ha] at hPT; cases hPT
  have core : ∀ H : Hp, H PT = some (.tbl #[]) → (∀ b, b ≠ PT → H b = none ∨ (b = a ∧ K.lookup a = none ∧ ∃ o xs, H b = some (.frz o (.lst xs)))) → SqL K H a (ns.map V.int) → HOk P w H s₁.heap →
      codeAny (model P w) callerA (.call (.ref fa) ⟨[.ref a], []⟩) (fun r s' => r = .ok (.ret (.bool true)) ∧ OldK s₁.heap s'.heap ∧ s'.os = s₁.os ∧ AllBare s'.gens) s₁ := by
    intro H hP hO hS hok
    have free : ∀ {b : Addr} {o : Obj}, s₁.heap.get? b = some o → o.cls ≠ .none → o.cls ≠ .type "list" → H b = none := fun {b o} e c1 c2 => by
      by_cases hbP : b = PT
      · rw [hbP, hPT] at e
        cases e
        exact absurd rfl c1
      · rcases hO b hbP with z | ⟨z, _⟩
        · exact z
        · rw [z, ha] at e
          cases e
          exact absurd rfl c2
    have freeD : ∀ {b : Addr} {o : Obj} {es : Array DictEntry} {ep : Nat}, s₁.heap.get? b = some o → o.data = .dict es ep → H b = none := fun {b o es ep} e d => by
      by_cases hbP : b = PT
      · rw [hbP, hPT] at e
        cases e
        cases d
      · rcases hO b hbP with z | ⟨z, _⟩
        · exact z
        · rw [z, ha] at e
          cases e
          have d' : Data.seq vs.toArray _ = Data.dict es ep := d
          cases d'
    have nsK : ∀ {b : Addr} {m : Str → Option Value}, s₁.heap.Ns b m → (hidT s₁.heap H).Ns b m := fun {b m} ⟨o, es, ep, e, d, r⟩ => ⟨o, es, ep, hidT_get e (freeD e d), d, r⟩
    have hKb : K.In (hidT s₁.heap H) := fun b o e => hidT_get (KX b o e) (by
      by_cases hbP : b = PT
      · rw [hbP, hKP] at e; cases e
      · rcases hO b hbP with z | ⟨z, z2, _⟩
        · exact z
        · rw [z, z2] at e; cases e)
    have hM : Mod K mg (hidT s₁.heap H) := ⟨hKb, nsK hns, ⟨mb, nsK hb, hbb⟩, let ⟨mc, h1, h2⟩ := hlim; ⟨mc, nsK h1, h2⟩⟩
    have hCb : PySem.W.CodeHd (hidT s₁.heap H) tc PT := by
      obtain ⟨o, ws, file, tf, flags, tg, inF, text, tt, e, c, r⟩ := hC
      exact ⟨o, ws, file, tf, flags, tg, inF, text, tt, hidT_get e (free e (by rw [c]; exact fun z => by cases z) (by rw [c]; decide)), c, r⟩
    have hBb : (hidT s₁.heap H).BuiltinsAt mg PT := by
      obtain ⟨bm, o, h1, h2, h3, h4, h5, c, r⟩ := hBm
      exact ⟨bm, o, h1, h2, h3, h4, hidT_get h5 (free h5 (by rw [c]; exact fun z => by cases z) (by rw [c]; decide)), c, r⟩
    have e0 : Env0 P w K mg (hidT s₁.heap H) callerA [] s₁ H := ⟨rfl, hM, fun b o e => of_hidT e, Nat.le_of_eq (hidT_size _ _), trivial, fun b hb => absurd (show b ∈ ([] : List Addr) from hb) (by simp), hok, .of_eq hg⟩
    refine codeAny_mono ((F _ hKb (nsK hns) hCb hBb).run callerA [] s₁ H ⟨[.ref a], []⟩ [.ref a] [.ref a] _ _ hr e0 (hbind s₁ (.ref a)) (.cons rfl .nil) (hsp H (.inl hP) hS)) fun r s' h => ?_
    cases r with
    | error e => exact (hCX H e s' h).elim
    | ok fl =>
      cases fl with
      | next => exact False.elim h
      | brk => exact False.elim h
      | cont => exact False.elim h
      | ret u =>
        obtain ⟨v, H', os, bare, un, hok', r', q⟩ := h
        have q' : v = .bl true := q
        subst q'
        obtain rfl : u = Value.bool true := r'
        have keep : ∀ b o, b ≠ PT → s₁.heap.get? b = some o → s'.heap.get? b = some o := fun b o hbP e => by
          rcases hO b hbP with z | ⟨_, _, ob, xs, z⟩
          · exact un.keep b o e z (by intro y; exact absurd (show b ∈ ([] : List Addr) from y) (by simp)) (by simp)
          · have z2 := un.frzs b ob _ z
            obtain ⟨e1, _⟩ := hok b _ z
            obtain ⟨e2, _⟩ := hok' b _ z2
            rw [e] at e1; cases e1
            exact e2
        obtain ⟨more, em⟩ := un.tbls PT _ hP
        have hP' : s'.heap.get? PT = some (PySem.W.tabObj (#[] ++ more)) := hok' PT _ em
        refine ⟨rfl, ⟨fun b o e => ?_, fun b o e => ?_⟩, os, bare⟩
        · by_cases hbP : b = PT
          · subst hbP
            have e' := e
            rw [hPT] at e'
            cases e'
            exact .inr (.inl ⟨(hC.tab hPT).isCodeTable, rfl, #[], more, rfl, hP'⟩)
          · exact .inl (keep b o hbP e)
        · by_cases hbP : b = PT
          · subst hbP
            exact ⟨_, hP'⟩
          · exact ⟨o, keep b o hbP e⟩
  cases hk : K.lookup a with
  | some o =>
    have e := KX a o hk
    rw [ha] at e
    cases e
    refine core (fun b => if b = PT then some (.tbl #[]) else none) (if_pos rfl) (fun b hb => .inl (if_neg hb)) (.inr ⟨_, vs.toArray, _, hk, rfl, rfl, rfl, by rw [List.size_toArray, lenV]; exact hl, by simpa using rv⟩) (fun b u z => ?_)
    by_cases hbP : b = PT
    · have z' := (if_pos hbP).symm.trans z
      cases z'
      subst hbP
      exact hPT
    · have z' := (if_neg hbP).symm.trans z
      cases z'
  | none =>
    refine core (fun b => if b = PT then some (.tbl #[]) else if b = a then some (.frz { cls := .type "list", data := .seq vs.toArray } (.lst (ns.map V.int))) else none) (if_pos rfl) (fun b hb => ?_) (.inl (.inr ⟨{ cls := .type "list", data := .seq vs.toArray }, (if_neg (Ne.symm neA)).trans (if_pos rfl)⟩)) (fun b u z => ?_)
    · by_cases hba : b = a
      · exact .inr ⟨hba, hk, _, _, (if_neg hb).trans (if_pos hba)⟩
      · exact .inl ((if_neg hb).trans (if_neg hba))
    · by_cases hbP : b = PT
      · have z' := (if_pos hbP).symm.trans z
        cases z'
        subst hbP
        exact hPT
      · have z1 := (if_neg hbP).symm.trans z
        by_cases hba : b = a
        · have z' := (if_pos hba).symm.trans z1
          cases z'
          subst hba
          exact ⟨ha, by rw [List.length_map]; exact hl, vs, _, rv, ha⟩
        · have z' := (if_neg hba).symm.trans z1
          cases z'

/-- best_pick's code and its table, by the written part -/
def tabCP (K : PySem.W.Frag) : Addr × Addr := (PySem.W.tabIn K "best_pick").getD (0, 0)
/-- the facts of the lambda's making, over a base -/
def LamF (K : PySem.W.Frag) (mg : Str → Option Value) (base : Heap) : Prop :=
  (∀ (f : Addr) (fd : FuncData) (oc : Value) (od : Option Addr) (osl : Array (Option Value)), mg "best_pick" = some (.ref f) → K.lookup f = some ⟨oc, od, .func fd, osl⟩ → ∃ c, fd.code = .ref c ∧ PySem.W.CodeHd base c (tabCP K).2) ∧ base.BuiltinsAt mg (tabCP K).2
theorem walk_ofT {l : PySem.W.OpenLaw} {n k : Nat} {q : Program} {loose : List Str} {XP : (Str → Option Value) → Heap → Prop} {YP : World → Heap → Prop} {d : DefRec} {K : Params → PySem.W.Frag} {CX : World → CXT} {sp : World → Sp} {x : Str} {ts : List Addr}
    (hn : l.most = some n) (hn2 : n ≤ sizeLine) (hdf : d.params.defaults = []) (hr : Room k callerA)
    (hY : ∀ (w : World) (h : Heap), YP w h → (K w.params).In h) (hYt : ∀ (w : World) (h : Heap), YP w h → ∀ P ∈ ts, h.get? P = some (PySem.W.tabObj #[]))
    (h1 : ∀ w : World, PySem.W.codeHdIn (K w.params) (tabCP (K w.params)).1 (tabCP (K w.params)).2 = true) (h2 : ∀ w : World, ((K w.params).lookup (tabCP (K w.params)).2).isNone = true) (h3 : ∀ w : World, ts.contains (tabCP (K w.params)).2 = true)
    (F : ∀ (w : World) (mg : Str → Option Value) (fa : Addr) (h : Heap), (K w.params).In h → h.Ns mainGlobals mg → mg d.name = some (.ref fa) →
      ∃ fd : FuncData, (∀ (s : Shared) (u : Value), BindsTo s fd ⟨[u], []⟩ [(x, u)]) ∧
        ∀ base : Heap, (K w.params).In base → base.Ns mainGlobals mg → LamF (K w.params) mg base → FnOk l.prog w (K w.params) mg base (CX w) k fa fd [x] (sp w))
    (hsp : ∀ (w : World) (H : Hp) (a : Addr) (ns : List Int), ns.length ≤ n → TabOk (tabCP (K w.params)).2 H → SqL (K w.params) H a (ns.map V.int) → sp w [.ref a] H (fun v _ => v = .bl true) fun _ _ _ => False)
    (hCX : ∀ (w : World) (H : Hp) (s : Shared) (e : Value) (s' : Shared), CX w [] H s (fun _ _ _ => False) e s' → False) :
    PySem.W.WalkO q loose XP YP l.row.toRowW d [] (fun f vs => PySem.call f vs) := by
  refine Att.attach_call hn hdf fun w s₀ s₁ mg mb fa o pm cd doc a vs ns G Y ho hd hcd hmg hobj hints hlen hg => ?_
  have KX := hY w _ Y
  obtain ⟨fd, hb, hF⟩ := F w mg fa _ KX G.T.g hmg
  have hC := PySem.W.codeHd_of_K KX (h1 w)
  have hPT := hYt w _ Y (tabCP (K w.params)).2 (by have := h3 w; simpa using this)
  have hKP : (K w.params).lookup (tabCP (K w.params)).2 = none := by have := h2 w; simpa using this
  have ht : PySem.W.tabIn (K w.params) "best_pick" = some (tabCP (K w.params)) := by
    have e := h1 w
    unfold tabCP at e ⊢
    cases q : PySem.W.tabIn (K w.params) "best_pick" with
    | some r => rfl
    | none =>
      rw [q] at e
      exfalso
      have ne : ∀ {h : Heap} {c P : Addr}, PySem.W.CodeHd h c P → c ≠ P := fun ⟨_, _, _, _, _, _, _, _, _, _, _, _, _, _, _, _, _, _, z⟩ => z
      exact ne (PySem.W.codeHd_of_K KX e) rfl
  have hBm : s₁.heap.BuiltinsAt mg (tabCP (K w.params)).2 := by
    obtain ⟨bm, ob, b1, b2, b3, b4, b5, b6⟩ := G.T.bmain
    refine ⟨bm, ob, b1, b2, fun e => ?_, fun e => ?_, b3, b4, b5, b6⟩
    · obtain ⟨o', es, ep, e', hd', _⟩ := G.T.g
      rw [e, e'] at b3; cases b3; rw [hd'] at b6; cases b6
    · rw [e, hPT] at b3; cases b3; cases b4
  refine law_callT KX G.T.g G.T.b G.T.builtins G.T.nolimit hg hobj hints (Nat.le_trans hlen hn2) hr hC hPT hKP hBm (fun base kb nb cb bb => hF base kb nb ⟨fun f fd' oc od osl hm lk => ?_, bb⟩) hb (fun H hO hS => hsp w H a ns hlen hO hS) fun H e s' => hCX w H s₁ e s'
  exact ⟨_, PySem.W.law_code kb nb ht hm (kb _ _ lk) rfl, cb⟩
/-! ### a name that a block has too: its slot is forgotten while the statement runs -/
abbrev Cx.hid (X : Cx) (k : Nat) : Cx := { X with N := X.N.set k "" }
section
variable {X : Cx} {pins : List (Addr × Obj)} {σ : St} {H : Hp} {s : Shared} {k : Nat}
theorem Inv.hid (I : Inv X pins σ H s) (hz : X.env.scope.names.lookup ("" : Str) = none) : Inv (X.hid k) pins (σ.set k none) H s := by
  refine ⟨⟨I.ok.mod, I.ok.kind, I.ok.glob, I.ok.blt, I.ok.above, I.ok.inj, I.ok.has, I.ok.cab, I.ok.hd, I.ok.frames, I.ok.stk, I.ok.exf, I.ok.bs, I.ok.bsz, I.ok.noex, I.ok.exfs, I.ok.funs, I.ok.frf⟩, I.os, I.bare, I.base, ?_, I.cell, I.free, I.freeC, I.pin, I.hok, ?_⟩
  · obtain ⟨m, hn, hl⟩ := I.loc
    refine ⟨m, hn, fun i x v e1 e2 e3 => ?_⟩
    have e1' : (X.N.set k "")[i]? = some x := e1
    rw [List.getElem?_set] at e1' e2
    by_cases hi : k = i
    · rw [if_pos hi] at e2
      split at e2 <;> cases e2
    · rw [if_neg hi] at e1' e2
      exact hl i x v e1' e2 e3
  · rw [List.length_set]
    show σ.length = (X.N.set k "").length
    rw [List.length_set]
    exact I.len
theorem Inv.unhid (I : Inv (X.hid k) pins σ H s) (hk : ∀ v, σ[k]? ≠ some (some v)) : Inv X pins σ H s := by
  refine ⟨⟨I.ok.mod, I.ok.kind, I.ok.glob, I.ok.blt, I.ok.above, I.ok.inj, I.ok.has, I.ok.cab, I.ok.hd, I.ok.frames, I.ok.stk, I.ok.exf, I.ok.bs, I.ok.bsz, I.ok.noex, I.ok.exfs, I.ok.funs, I.ok.frf⟩, I.os, I.bare, I.base, ?_, I.cell, I.free, I.freeC, I.pin, I.hok, ?_⟩
  · obtain ⟨m, hn, hl⟩ := I.loc
    refine ⟨m, hn, fun i x v e1 e2 e3 => ?_⟩
    by_cases hi : k = i
    · subst hi
      exact absurd e2 (hk v)
    · exact hl i x v (show (X.N.set k "")[i]? = some x by rw [List.getElem?_set, if_neg hi]; exact e1) e2 e3
  · have e : σ.length = (X.N.set k "").length := I.len
    rw [List.length_set] at e
    exact e
def tHide (k : Nat) (t : TS) : TS := fun D σ H => t { nx := fun σ' H' => (∀ v, σ'[k]? ≠ some (some v)) ∧ D.nx σ' H', rt := D.rt, bk := fun _ _ => False, ct := fun _ _ => False } (σ.set k none) H
theorem Inv.unhid0 (I : Inv (X.hid k) pins σ H s) : Inv X pins (List.replicate σ.length none) H s :=
  Inv.unhid (I.weak (σ' := List.replicate σ.length none) (List.length_replicate ..) fun i v e => by rw [List.getElem?_replicate] at e; split at e <;> cases e) fun v e => by rw [List.getElem?_replicate] at e; split at e <;> cases e
theorem ps_hide {st : Stmt} {t : TS} (k : Nat) (h : PS (X.hid k) st t) (hz : X.env.scope.names.lookup ("" : Str) = none := by rfl) : PS X st (tHide k t) := by
  intro pins s σ H D I hw
  refine wpAny_mono (h pins s (σ.set k none) H _ (I.hid hz) hw) (fun f s' hq => ?_) fun e s' hx => hx
  cases f with
  | next =>
    obtain ⟨σ', H', J, hn, q⟩ := hq
    exact ⟨σ', H', J.unhid hn, q⟩
  | brk => obtain ⟨σ', H', J, q⟩ := hq; exact q.elim
  | cont => obtain ⟨σ', H', J, q⟩ := hq; exact q.elim
  | ret u =>
    obtain ⟨v, σ', H', J, r, q⟩ := hq
    exact ⟨v, _, H', J.unhid0, r, q⟩
end
end L2

namespace L2
open PySem PySem.Spec PyProof.Rows
variable [TabPar]

/-! ### texts -/
section
variable {X : Cx}
def rSlS : V → Option Int → Option Int → Hp → VK → Prop := fun x lo hi H Q => ∃ z, x = .str z ∧ z.length ≤ sizeLine ∧ Q (.str (Txt.slice z lo hi)) H
theorem sl_str : SlR X rSlS := by
  intro pins s σ H x v vl vu lo hi sl Q I rx hs pl pu h
  obtain ⟨z, rfl, hz, q⟩ := h
  obtain ⟨t, rfl⟩ := rx
  have hf := Nat.le_trans (Txt.slice_le z lo hi) hz
  refine ⟨"str", _, PySem.F.slot_str_getitem.lookup, typeIs_str _ _ _, ?_⟩
  cases pl with
  | none => cases pu with
    | none => exact wpAny_getItem_str_slice (l := none) (u := none) (st := none) hs rfl (post_val_or_str ⟨hf, fun t' k => ⟨.str (Txt.slice z none none), H, I.tok k, ⟨_, rfl⟩, q⟩⟩)
    | int j tj => exact wpAny_getItem_str_slice (l := none) (u := some (j, tj)) (st := none) hs rfl (post_val_or_str ⟨hf, fun t' k => ⟨.str (Txt.slice z none (some j)), H, I.tok k, ⟨_, rfl⟩, q⟩⟩)
  | int i ti => cases pu with
    | none => exact wpAny_getItem_str_slice (l := some (i, ti)) (u := none) (st := none) hs rfl (post_val_or_str ⟨hf, fun t' k => ⟨.str (Txt.slice z (some i) none), H, I.tok k, ⟨_, rfl⟩, q⟩⟩)
    | int j tj => exact wpAny_getItem_str_slice (l := some (i, ti)) (u := some (j, tj)) (st := none) hs rfl (post_val_or_str ⟨hf, fun t' k => ⟨.str (Txt.slice z (some i) (some j)), H, I.tok k, ⟨_, rfl⟩, q⟩⟩)
theorem strs_of : ∀ {texts : List Str} {its : List Value}, Vals (texts.map V.str) its → ∃ l : List (Str × Tok), its = strValues l ∧ l.map (·.1) = texts
  | [], _, .nil => ⟨[], rfl, rfl⟩
  | x :: r, _, .cons ⟨t, e⟩ h => by
    obtain ⟨l, h1, h2⟩ := strs_of h
    exact ⟨(x, t) :: l, by rw [e, h1]; rfl, by rw [List.map_cons, h2]⟩
def rJoin (K : PySem.W.Frag) : V → List V → Hp → VK → Prop := fun x vs H Q => ∃ sep D texts, x = .str sep ∧ vs = [.ref D] ∧ SqL K H D (texts.map V.str) ∧ JoinOk sep texts = true ∧ Q (.str (Txt.join sep texts)) H
theorem mt_join : MtR X "str.join" (rJoin X.K) := by
  intro pins s σ H x vs v us Q I rx rv h
  obtain ⟨sep, D, texts, rfl, rfl, hq, ok, q⟩ := h
  obtain ⟨t, rfl⟩ := rx
  obtain ⟨u, rfl, ru⟩ := vals1 rv
  cases ru
  obtain ⟨its, r, pl, _⟩ := I.list hq
  obtain ⟨l, rfl, hl⟩ := strs_of r
  exact SC.join pl.isList hl ok fun t' k => ⟨.str (Txt.join sep texts), H, I.tok k, ⟨_, rfl⟩, q⟩
def findT (x y : Str) : Int := match Builtin.Str.occurrences x y 0 x.length 1 with | i :: _ => (i : Int) | [] => -1
def rFind : V → List V → Hp → VK → Prop := fun x vs H Q => ∃ z y, x = .str z ∧ vs = [.str y] ∧ Q (.int (findT z y)) H
theorem mt_find : MtR X "str.find" rFind := by
  intro pins s σ H x vs v us Q I rx rv h
  obtain ⟨z, y, rfl, rfl, q⟩ := h
  obtain ⟨t, rfl⟩ := rx
  obtain ⟨u, rfl, t2, rfl⟩ := vals1 rv
  exact SC.find ⟨.int (findT z y), H, I.tok _, ⟨_, rfl⟩, q⟩
/-! ### for c in text (plain signs) -/
def Its (x : Str) : It := ⟨fun i _ => i < x.cps.size, fun i H v H' => H' = H ∧ ∃ c, x.cps[i]? = some c ∧ v = .str ⟨#[c]⟩, fun i _ => x.cps.size ≤ i⟩
theorem turn_str {P : Program} {w : World} {K : PySem.W.Frag} {tg : Expr} (x : Str) (t : Tok) (it : Addr) : Turn P w K tg (Its x) [it] it (fun i h => h.IsStrIter it "str_ascii_iterator" x t i) where
  mem := by simp
  obj := fun i h st b hb => by
    have e : b = it := by simpa using hb
    subst e
    obtain ⟨o, e, c, d⟩ := st
    exact ⟨o, e, fun v z => by rw [d] at z; cases z⟩
  keep := fun i h h' st k => by
    obtain ⟨o, e, r⟩ := st
    exact ⟨o, k it (by simp) o e, r⟩
  item := by
    intro X hP hw hK hc i pins s σ H E I hf st hg
    subst hP hw hK
    have hg' : i < x.cps.size := hg
    obtain ⟨f0, f1, f2, f3, f4, f5⟩ := hf it (by simp)
    refine wpAny_pyNext_ascii_item st (c := x.cps[i]) (by simp [hg']) fun h' st' sb => ?_
    have I1 : Inv X pins σ H { s with heap := h', toks := s.toks + 1 } := I.turned (fun b o hb e => (sb.2 b hb).trans e) f0 f1 f3 f4 f5
    obtain ⟨o, e, c, d⟩ := id st'
    exact ⟨_, rfl, go_of (s := { s with heap := h', toks := s.toks + 1 }) e c d (by decide) ⟨.str ⟨#[x.cps[i]]⟩, H, I1, ⟨_, rfl⟩, ⟨rfl, _, by simp [hg'], rfl⟩, st', fun b hb => (hf b hb).1⟩⟩
  done := by
    intro X hP hw hK hc i pins s σ H E I hf st hg
    subst hP hw hK
    have hg' : x.cps.size ≤ i := hg
    obtain ⟨f0, f1, f2, f3, f4, f5⟩ := hf it (by simp)
    exact wpAny_pyNext_ascii_end (I.ok.hd hc) st (by simp [hg']) fun h' eb => ⟨rfl, I.turned (t' := s.toks) (fun b o hb e => eb b o hb e) f0 f1 f3 f4 f5⟩
  self := fun _ _ _ _ _ st h => wpAny_pyIter_striter_ascii st h
def iStr (tl : TE) : TI := fun σ H R => tl σ H fun x H1 => ∃ z, x = .str z ∧ z.cps.all (· < 128) = true ∧ R (Its z) H1
theorem pi_str {tg l : Expr} {tl : TE} (hl : PE X l tl) : PI X tg l (iStr tl) := by
  intro pins s σ H R I h
  refine thn (hl pins s σ H _ I h) fun v s1 ⟨x, H1, I1, r1, z, e, ha, q⟩ => ?_
  subst e
  obtain ⟨t, rfl⟩ := r1
  refine wpAny_pyIter_ascii ha ?_
  have I2 : Inv X pins σ H1 { s1 with heap := s1.heap.push { cls := .type "str_ascii_iterator", data := .fields #[.str z t, .int 0 0] } } := I1.kept (t' := s1.toks) fun b o e => Heap.get?_push_of_some _ e
  refine ⟨s1.heap.objs.size, [s1.heap.objs.size], _, _, H1, rfl, I2, turn_str z t _, ⟨_, Heap.get?_push_size _ rfl, rfl, rfl⟩, fun b hb => ?_, q⟩
  rw [List.mem_singleton.mp hb]
  exact I1.fpOk (Nat.le_refl _) (I1.hok.fresh (Nat.le_refl _))
/-- a text at the module's top -/
def CstS (mg : Str → Option Value) (x : Str) (z : Str) : Prop := ∃ u, mg x = some u ∧ RelV (.str z) u
theorem pe_cstS {x z : Str} {pos : Pos} (c : CstS X.mg x z) (hg : Gl X x) (hd : (x == ("__debug__" : Str)) = false := by decide) : PE X (.Name x pos) (tC (.str z)) := by
  obtain ⟨u, hm, r⟩ := c
  exact pe_glob hg hm r hd
variable {own : List Str} {scope : Scope} {C : Addr} {s₀ : Shared} {H₀ : Hp} {ex : List Addr}
end
section
variable {K : PySem.W.Frag} {σ : St} {H : Hp} {Q : VK} {te : TE}
/-- [e for c in text], nothing that is tracked changes -/
theorem comp_str0 {z : Str} (F : Nat → V) (hl : z.cps.size ≤ 1000)
    (step : ∀ (i c : Nat) (H1 : Hp) (R : V → Hp → Prop), z.cps[i]? = some c → Same H H1 → (∀ H4, Same H1 H4 → R (F i) H4) → te (some (.str ⟨#[c]⟩) :: σ) H1 R)
    (fin : retL H ((List.range z.cps.size).map F) Q) : CompEnd (Its z) 1 (gName 0) tNoIf te σ H Q := by
  refine ⟨fun i m ys H1 => m = z.cps.size - i ∧ i ≤ z.cps.size ∧ Same H H1 ∧ ys = (List.range i).map F, ⟨z.cps.size, by simp, Nat.zero_le _, Same.refl H, rfl⟩, ?_⟩
  rintro i m ys H1 os hos ⟨rfl, hi, hs, rfl⟩
  by_cases hlt : i < z.cps.size
  · refine .inr ⟨hlt, small1000 (by rw [List.length_map, List.length_range]; omega), fun ys' H' => Same H H' ∧ ys' = (List.range (i + 1)).map F, fun ys' H' ⟨a1, a2⟩ => ⟨z.cps.size - (i + 1), by omega, rfl, hlt, a1, a2⟩, ?_⟩
    rintro x H' ⟨rfl, c, hc, rfl⟩
    obtain ⟨o1, rfl⟩ : ∃ o1, os = [o1] := by
      match os, hos with
      | [o1], _ => exact ⟨o1, rfl⟩
    refine ⟨⟨[some (.str ⟨#[c]⟩)], rfl, rfl⟩, ?_⟩
    refine iteT (B := False) ?_
    refine step i c _ _ hc hs fun H4 h4 => ⟨hs.trans h4, ?_⟩
    rw [List.range_succ, List.map_append]
    rfl
  · have e : i = z.cps.size := by omega
    subst e
    exact .inl ⟨Nat.le_refl _, fun D hD => fin D _ (hs.free hD) (hs.trans (same_new hD _)) upd_same⟩
end
end L2

namespace L2
open PySem PySem.Spec PyProof.Rows
variable [TabPar]

/-! ### sorted: what comes out is a rearrangement -/
inductive Lf (n : Nat) {α : Type} (P : α → Prop) : PySem.W.KasT α → Prop
  | ret {a : α} : P a → Lf n P (.ret a)
  | ask {i j : Nat} {k : Bool → PySem.W.KasT α} : i < n → j < n → (∀ b, Lf n P (k b)) → Lf n P (.ask i j k)
theorem Lf.bind {n : Nat} {α β : Type} {P : α → Prop} {R : β → Prop} {t : PySem.W.KasT α} {f : α → PySem.W.KasT β} (h : Lf n P t) (hf : ∀ a, P a → Lf n R (f a)) : Lf n R (t.bind f) := by
  induction h with
  | ret h => exact hf _ h
  | ask h1 h2 _ ih => exact .ask h1 h2 ih
theorem Lf.wp {n : Nat} {α : Type} {P : α → Prop} {t : PySem.W.KasT α} {cmp : Nat → Nat → (Bool → Shared → Prop) → Shared → Prop} {Q : α → Shared → Prop} {s : Shared} (h : Lf n P t)
    (hc : ∀ i j C, i < n → j < n → (∀ b, C b s) → cmp i j C s) (hQ : ∀ a, P a → Q a s) : t.kasWp cmp Q s := by
  induction h with
  | ret h => exact hQ _ h
  | ask h1 h2 _ ih => exact hc _ _ _ h1 h2 fun b => ih b
def PermA (n : Nat) (p : Array Nat) : Prop := p.toList.Perm (List.range n)
theorem PermA.lt {n : Nat} {p : Array Nat} (h : PermA n p) (hn : 0 < n) (i : Nat) : p.getD i 0 < n := by
  by_cases hi : i < p.size
  · have e : p.getD i 0 = p[i] := by simp [Array.getD, hi]
    rw [e]
    exact List.mem_range.mp (h.mem_iff.mp (by simp))
  · have e : p.getD i 0 = 0 := by simp [Array.getD, hi]
    rw [e]
    exact hn
theorem PermA.of {n : Nat} {p q : Array Nat} (h : PermA n p) (k : q.Perm p) : PermA n q := (Array.perm_iff_toList_perm.mp k).trans h
theorem PermA.rev {n : Nat} {p : Array Nat} (h : PermA n p) (i j : Nat) : PermA n (PySem.W.kas_rev p i j) := h.of (mirror_perm _ _ _ _)
theorem lf_asc {N : Nat} {p : Array Nat} (h : PermA N p) (hN : 0 < N) : ∀ f n, Lf N (fun _ => True) (PySem.W.kas_asc p f n)
  | 0, n => .ret trivial
  | f + 1, n => .ask (h.lt hN _) (h.lt hN _) fun c => by
    cases c with
    | true => exact .ret trivial
    | false => exact lf_asc h hN f (n + 1)
theorem lf_desc {N : Nat} (hN : 0 < N) : ∀ f (p : Array Nat) n q, PermA N p → Lf N (fun r => PermA N r.1) (PySem.W.kas_desc f p n q)
  | 0, p, n, q, h => .ret h
  | f + 1, p, n, q, h => .ask (h.lt hN _) (h.lt hN _) fun c => by
    cases c with
    | true =>
      show Lf N _ (if q > 0 then _ else _)
      split
      · exact lf_desc hN f _ _ _ (h.rev _ _)
      · exact lf_desc hN f _ _ _ h
    | false =>
      refine .ask (h.lt hN _) (h.lt hN _) fun d => ?_
      cases d with
      | true => exact .ret h
      | false => exact lf_desc hN f _ _ _ h
theorem lf_tail {N : Nat} (hN : 0 < N) (n nrem : Nat) {p : Array Nat} (h : PermA N p) : Lf N (fun r => PermA N r.2) (PySem.W.kas_tail3 n nrem p) :=
  (lf_asc (h.rev 0 n) hN _ _).bind fun m _ => .ret (h.rev 0 n)
theorem lf_descPart {N : Nat} (hN : 0 < N) (n nrem : Nat) {p : Array Nat} (h : PermA N p) : Lf N (fun r => PermA N r.2) (PySem.W.kas_descPart n nrem p) := by
  refine (lf_desc hN _ p _ _ h).bind fun r hr => ?_
  split
  · exact lf_tail hN _ _ (hr.rev _ _)
  · exact lf_tail hN _ _ hr
theorem lf_count {N : Nat} (hN : 0 < N) (nrem : Nat) {p : Array Nat} (h : PermA N p) : Lf N (fun r => PermA N r.2) (PySem.W.kas_count nrem p) := by
  refine (lf_asc h hN _ _).bind fun n _ => ?_
  split
  · exact .ret h
  · split
    · refine .ask (h.lt hN _) (h.lt hN _) fun c => ?_
      cases c with
      | true => exact .ret h
      | false => exact lf_descPart hN _ _ (h.rev _ _)
    · exact lf_descPart hN _ _ h
theorem lf_place {N : Nat} {p : Array Nat} (h : PermA N p) (hN : 0 < N) (k : Nat) : ∀ f l r, Lf N (fun _ => True) (PySem.W.kas_place p k f l r)
  | 0, l, r => .ret trivial
  | f + 1, l, r => by
    unfold PySem.W.kas_place
    split
    · exact .ret trivial
    · refine .ask (h.lt hN _) (h.lt hN _) fun c => ?_
      cases c with
      | true => exact lf_place h hN k f _ _
      | false => exact lf_place h hN k f _ _
theorem lf_bin {N : Nat} (hN : 0 < N) : ∀ f (p : Array Nat) k, PermA N p → Lf N (PermA N) (PySem.W.kas_bin f p k)
  | 0, p, k, h => .ret h
  | f + 1, p, k, h => (lf_place h hN k _ _ _).bind fun l _ => lf_bin hN f _ _ (h.of (bubble_perm _ _ _))
theorem lf_sort {N : Nat} (hN : 0 < N) : Lf N (PermA N) (PySem.W.kas_sort N) := by
  have h0 : PermA N (List.toArray (List.range N)) := by unfold PermA; simp
  refine (lf_count hN N h0).bind fun r hr => ?_
  split
  · exact lf_bin hN _ _ _ hr
  · exact .ret hr
theorem map_getD (vs : List Value) : (List.range vs.length).map (fun i => vs.getD i Value.none) = vs := by
  refine List.ext_getElem? fun i => ?_
  rw [List.getElem?_map]
  by_cases h : i < vs.length
  · rw [List.getElem?_range h, List.getElem?_eq_getElem h]
    show some (vs.getD i Value.none) = _
    rw [List.getD_eq_getElem?_getD, List.getElem?_eq_getElem h]
    rfl
  · rw [List.getElem?_eq_none (by rw [List.length_range]; omega), List.getElem?_eq_none (by omega)]
    rfl
section
variable {prog : Program} {w : World} {A : Around} {E : Value → Shared → Prop} {s : Shared}
/-- how the items are compared: nothing changes, any answer may come -/
def Asks (prog : Program) (w : World) (A : Around) (vs : List Value) (s : Shared) : Prop :=
  ∃ κ, (∀ Q : SortKind → Shared → Prop, Q κ s → wpAny (model prog w) A (keyKind' vs.toArray) Q (fun _ _ => False) s) ∧
    ∀ i j C, i < vs.length → j < vs.length → (∀ b, C b s) → PySem.W.kas_ask prog w A κ vs i j C s
theorem sort_any {a : Addr} {vs : List Value} {n : Nat} {P : PySem.Fin → Shared → Prop} (ho : s.heap.get? a = some (seqObj "list" vs.toArray n)) (h64 : vs.length < 64)
    (hk : 2 ≤ vs.length → ∀ h', (∀ b o, b ≠ a → s.heap.get? b = some o → h'.get? b = some o) → Asks prog w A vs { s with heap := h' })
    (h : ∀ p : List Nat, p.Perm (List.range vs.length) → P (.done (.ret .none)) { s with heap := sortedHeap s.heap a vs (p.map fun i => vs.getD i Value.none).toArray }) :
    wpAny (model prog w) A (Builtin.«list.sort» ⟨[.ref a], []⟩) P E s := by
  rw [list_sort_plain]
  have ha : a < s.heap.objs.size := Heap.lt_size ho
  refine wpAny_bind (listItems_at ho rfl ?_)
  refine wpAny_bind (listUpdate_at ho rfl ?_ (by rw [List.size_toArray, sizeLine_eq]; omega) (Nat.zero_le _))
  obtain ⟨e1, ho1⟩ : ∃ e1, (s.heap.update a (Obj.mapSeq fun _ => (#[] : Array Value))).get? a = some (seqObj "list" #[] e1) := ⟨_, get?_update_seq ho (fun _ => #[])⟩
  refine wpAny_bind (seqEpoch_at ho1 rfl ?_)
  refine wpAny_bind (wpAny_newTuple ?_ (by show vs.length ≤ _; rw [sizeLine_eq]; omega))
  refine wpAny_bind (wpAny_newList ?_ (Nat.zero_le _))
  refine wpAny_holding ?_
  have s1 := Heap.SameBut.update s.heap a (Obj.mapSeq fun _ => (#[] : Array Value))
  have ho6 : (((s.heap.update a (Obj.mapSeq fun _ => (#[] : Array Value))).push (seqObj "tuple" vs.toArray 0)).push (seqObj "list" #[] 0)).get? a = some (seqObj "list" #[] e1) := Heap.get?_push_of_some _ (Heap.get?_push_of_some _ ho1)
  show wpAny (model prog w) A _ P E { s with heap := ((s.heap.update a (Obj.mapSeq fun _ => (#[] : Array Value))).push (seqObj "tuple" vs.toArray 0)).push (seqObj "list" #[] 0) }
  dsimp only
  have fin : ∀ p : List Nat, p.Perm (List.range vs.length) → ∀ out : Array Value, out = (p.map fun i => vs.getD i Value.none).toArray →
      P (.done (.ret .none)) { s with heap := sortedHeap s.heap a vs out } := by
    rintro p hp _ rfl
    exact h p hp
  by_cases h2 : vs.toArray.size < 2
  · rw [if_pos h2, if_pos h2]
    refine wpAny_bind (wpAny_pure ?_)
    rw [StateT.run_pure]
    refine wpAny_bind (wpAny_pure ?_)
    dsimp only
    have eo : (arrOf (SortSt.mk' general' (vs.toArray.zip vs.toArray) #[] 7 none)).map (·.2) = ((List.range vs.length).map fun i => vs.getD i Value.none).toArray := by
      rw [map_getD]
      show (vs.toArray.zip vs.toArray).map (·.2) = vs.toArray
      simp only [List.zip_toArray, List.map_toArray]
      rw [show (vs.zip vs).map (fun x => x.2) = vs from List.map_snd_zip (Nat.le_refl _)]
    have esz : ((arrOf (SortSt.mk' general' (vs.toArray.zip vs.toArray) #[] 7 none)).map (·.2)).size ≤ sizeLine := by
      rw [eo, map_getD, List.size_toArray, sizeLine_eq]
      omega
    refine wpAny_bind (seqEpoch_at ho6 rfl ?_)
    refine wpAny_bind (listUpdate_at ho6 rfl ?_ (Nat.zero_le _) (Nat.le_succ_of_le esz))
    simp only [bne_self_eq_false, Bool.false_eq_true, if_false]
    exact wpAny_pure (fin _ (List.Perm.refl _) _ eo)
  · rw [if_neg h2, if_neg h2]
    have h2' : 2 ≤ vs.length := by rw [List.size_toArray] at h2; omega
    obtain ⟨κ, hkd, hask⟩ := hk h2' (((s.heap.update a (Obj.mapSeq fun _ => (#[] : Array Value))).push (seqObj "tuple" vs.toArray 0)).push (seqObj "list" #[] 0)) fun b o hb e =>
      Heap.get?_push_of_some _ (Heap.get?_push_of_some _ ((s1.2 b hb).trans e))
    refine wpAny_bind (wpAny_mono (hkd (fun κ' s' => κ' = κ ∧ s' = { s with heap := ((s.heap.update a (Obj.mapSeq fun _ => (#[] : Array Value))).push (seqObj "tuple" vs.toArray 0)).push (seqObj "list" #[] 0) }) ⟨rfl, rfl⟩) ?_ fun _ _ x => x.elim)
    rintro _ _ ⟨rfl, rfl⟩
    refine wpAny_bind (wpAny_mono (PySem.W.kat_run (Q := fun st' s' => s' = { s with heap := ((s.heap.update a (Obj.mapSeq fun _ => (#[] : Array Value))).push (seqObj "tuple" vs.toArray 0)).push (seqObj "list" #[] 0) } ∧ ∃ p : Array Nat, PermA vs.length p ∧ arrOf st' = p.map (PySem.W.kas_item (vs.toArray.zip vs.toArray)) ∧ failedOf st' = none)
      (G := fun p s' => s' = { s with heap := ((s.heap.update a (Obj.mapSeq fun _ => (#[] : Array Value))).push (seqObj "tuple" vs.toArray 0)).push (seqObj "list" #[] 0) } ∧ PermA vs.length p)
      rfl h2' h64 (fun p st' s' _ a2 a3 a4 => ⟨a4.1, p, a4.2, a2, a3⟩) ((lf_sort (by omega)).wp hask fun p hp => ⟨rfl, hp⟩)) ?_ fun _ _ e => e)
    rintro ⟨⟨⟩, st'⟩ s' ⟨rfl, p, hp, har, hf⟩
    dsimp only
    have eo := PySem.W.kat_snds (ks := vs) (vs := vs) rfl har
    have esz : ((arrOf st').map (·.2)).size ≤ sizeLine := by
      rw [eo, List.size_toArray, List.length_map, hp.length_eq, List.length_range, sizeLine_eq]
      omega
    refine wpAny_bind (seqEpoch_at ho6 rfl ?_)
    refine wpAny_bind (listUpdate_at ho6 rfl ?_ (Nat.zero_le _) (Nat.le_succ_of_le esz))
    rw [hf]
    simp only [bne_self_eq_false, Bool.false_eq_true, if_false]
    exact wpAny_pure (fin _ hp _ eo)
theorem sorted_any {l : Addr} {vs : List Value} {Q : Value → Shared → Prop} (hl : s.heap.IsList l vs.toArray) (h64 : vs.length < 64)
    (hk : 2 ≤ vs.length → ∀ h', (∀ b o, s.heap.get? b = some o → h'.get? b = some o) → Asks prog w A.in1.in1 vs { s with heap := h' })
    (h : ∀ p : List Nat, p.Perm (List.range vs.length) → Q (.ref (s.heap.objs.size + 1)) { s with heap := sortedAll s.heap vs (p.map fun i => vs.getD i Value.none).toArray }) :
    wpAny (model prog w) A (call (.builtin "sorted") [.ref l]) Q E s := by
  refine Calls.call_function_entry kind_sorted plain_sorted entry_sorted (args_sorted1 _) ?_
  unfold Builtin.«sorted»
  refine wpAny_bind (m := checkCount "sorted" 1 1 _) (wpAny_pure ?_)
  refine wpAny_bind (collect_list hl ?_ (by rw [sizeLine_eq]; omega))
  refine wpAny_bind (wpAny_newList ?_ (by rw [sizeLine_eq]; omega))
  have hsz : ((s.heap.push (seqObj "list" #[] 0)).update s.heap.objs.size (Obj.mapSeq (· ++ vs.toArray))).objs.size = s.heap.objs.size + 1 := by
    rw [Heap.size_update, size_push']
  have hoL : (((s.heap.push (seqObj "list" #[] 0)).update s.heap.objs.size (Obj.mapSeq (· ++ vs.toArray))).push (seqObj "list" vs.toArray 0)).get? (s.heap.objs.size + 1) = some (seqObj "list" vs.toArray 0) := by
    rw [← hsz]; exact Heap.get?_push_size _ rfl
  have keep : ∀ b o, s.heap.get? b = some o → (((s.heap.push (seqObj "list" #[] 0)).update s.heap.objs.size (Obj.mapSeq (· ++ vs.toArray))).push (seqObj "list" vs.toArray 0)).get? b = some o := fun b o q => by
    have hlt : b < s.heap.objs.size := Heap.lt_size q
    rw [Heap.get?_push_ne _ _ _ (by rw [hsz]; exact Nat.ne_of_lt (Nat.lt_succ_of_lt hlt)), Heap.get?_update_ne _ _ _ _ (Nat.ne_of_lt hlt), Heap.get?_push_ne _ _ _ (Nat.ne_of_lt hlt)]
    exact q
  show wpAny _ _ _ _ _ { s with heap := ((s.heap.push (seqObj "list" #[] 0)).update s.heap.objs.size (Obj.mapSeq (· ++ vs.toArray))).push (seqObj "list" vs.toArray 0) }
  rw [hsz]
  refine wpAny_bind (wpAny_holding (wpAny_call_entry slot_list_sort ⟨_, hoL, rfl⟩ entry_list_sort
    (sort_any (s := { s with heap := ((s.heap.push (seqObj "list" #[] 0)).update s.heap.objs.size (Obj.mapSeq (· ++ vs.toArray))).push (seqObj "list" vs.toArray 0) }) hoL h64 (fun z h' k => hk z h' fun b o e => k b o (Nat.ne_of_lt (Nat.lt_succ_of_lt (Heap.lt_size e))) (keep b o e)) fun p hp => ⟨_, rfl, ?_⟩) (args_list_sort _)))
  exact wpAny_pure ⟨_, rfl, h p hp⟩
end
/-! ### .. of pairs of numbers -/
def IsPair (h : Heap) (v : Value) : Prop := ∃ a o n i t j u, v = .ref a ∧ h.get? a = some o ∧ o.cls = .type "tuple" ∧ o.data = .seq #[.int i t, .int j u] n
theorem asks_pairs {prog : Program} {w : World} {A : Around} {s : Shared} {vs : List Value} (h2 : 2 ≤ vs.length) (h : ∀ v ∈ vs, IsPair s.heap v) : Asks prog w A vs s := by
  refine ⟨tuples' true, fun Q hq => ?_, fun i j C hi hj hC => ?_⟩
  · have ex : ∀ vs : List Value, (∀ v ∈ vs, IsPair s.heap v) → ∃ fs, PySem.W.KatTups s.heap vs fs ∧ fs.length = vs.length ∧ ∀ v ∈ fs, ∃ i t, v = Value.int i t := by
      intro vs
      induction vs with
      | nil => intro _; exact ⟨[], .nil, rfl, fun _ hv => nomatch hv⟩
      | cons v r ih =>
        intro hv
        obtain ⟨fs, k1, k2, k3⟩ := ih fun x hx => hv x (List.mem_cons_of_mem _ hx)
        obtain ⟨a, o, n, i, t, j, u, rfl, ho, hc, hd⟩ := hv v List.mem_cons_self
        refine ⟨.int i t :: fs, .cons ho hc hd rfl k1, by rw [List.length_cons, List.length_cons, k2], fun x hx => ?_⟩
        rcases List.mem_cons.mp hx with rfl | hx
        · exact ⟨i, t, rfl⟩
        · exact k3 x hx
    obtain ⟨fs, k1, k2, k3⟩ := ex vs h
    exact PySem.W.kat_kind (T := .type "int") k1 (by omega) (fun v hv => by obtain ⟨i, t, rfl⟩ := k3 v hv; exact PySem.W.Looks.now) rfl hq
  · unfold PySem.W.kas_ask
    have gi : vs.getD i Value.none = vs[i] := by rw [List.getD_eq_getElem?_getD, List.getElem?_eq_getElem hi]; rfl
    have gj : vs.getD j Value.none = vs[j] := by rw [List.getD_eq_getElem?_getD, List.getElem?_eq_getElem hj]; rfl
    obtain ⟨a, o, n, x1, t1, y1, u1, e1, ho, hc, hd⟩ := h vs[i] (List.getElem_mem hi)
    obtain ⟨a', o', n', x2, t2, y2, u2, e2, ho', hc', hd'⟩ := h vs[j] (List.getElem_mem hj)
    rw [gi, gj, e1, e2]
    refine PySem.W.kat_lt ho hd ho' hd' ?_
    refine PySem.W.kat_cons (wpAny_eqBool_int (PySem.W.kat_go (fun _ => PySem.W.kat_yes ?_) fun _ => PySem.W.kat_no ?_))
    · refine PySem.W.kat_cons (wpAny_eqBool_int (PySem.W.kat_go (fun _ => PySem.W.kat_yes (PySem.W.kat_nil (hC _))) fun _ => PySem.W.kat_no ?_))
      exact PySem.W.kat_one _ _ (lt_int (hC _))
    · exact oneLt_int (hC _)
section
variable {X : Cx}
theorem vals_getD {xs : List V} {us : List Value} (r : Vals xs us) : ∀ p : List Nat, (∀ i ∈ p, i < xs.length) → Vals (p.map fun i => xs.getD i .non) (p.map fun i => us.getD i Value.none)
  | [], _ => .nil
  | i :: p, h => by
    have hi := h i List.mem_cons_self
    obtain ⟨w, hw, rw'⟩ := r.get (List.getElem?_eq_getElem hi)
    refine .cons ?_ (vals_getD r p fun j hj => h j (List.mem_cons_of_mem _ hj))
    show RelV (xs.getD i .non) (us.getD i Value.none)
    rw [List.getD_eq_getElem?_getD, List.getD_eq_getElem?_getD, List.getElem?_eq_getElem hi, hw]
    exact rw'
/-- sorted(list of pairs of numbers) -/
theorem call_sortP : CallR X (.builtin "sorted") (fun xs H Q => ∃ l ys, xs = [.ref l] ∧ SqL X.K H l ys ∧ ys.length < 64 ∧ (∀ y ∈ ys, ∃ p i j, y = .ref p ∧ SqT X.K H p [.int i, .int j]) ∧
    ∀ D (p : List Nat), H D = none → p.Perm (List.range ys.length) → Q (.ref D) (upd H D (.lst (p.map fun i => ys.getD i .non)))) := by
  intro pins s σ H xs us Q I r h
  obtain ⟨l, ys, rfl, hq, h64, hp, q⟩ := h
  obtain ⟨u, rfl, rx⟩ := vals1 r
  cases rx
  obtain ⟨its, r', pl, hz⟩ := I.list hq
  have hlen := r'.length
  refine sorted_any pl.isList (by omega) (fun h2 h' k => asks_pairs h2 fun v hv => ?_) fun p pp => ?_
  · obtain ⟨i, hi, rfl⟩ := List.getElem_of_mem hv
    have hi' : i < ys.length := by omega
    obtain ⟨w', hw, rw'⟩ := r'.get (List.getElem?_eq_getElem hi')
    rw [List.getElem?_eq_getElem hi] at hw
    cases hw
    obtain ⟨p, x, y, e, ht⟩ := hp ys[i] (List.getElem_mem hi')
    rw [e] at rw'
    have rw2 : its[i] = Value.ref p := rw'
    rw [rw2]
    obtain ⟨js, rt, ⟨o, ho, hc, n, hd⟩, _⟩ := I.tuple ht
    obtain ⟨u1, u2, rfl, ⟨t1, rfl⟩, ⟨t2, rfl⟩⟩ := vals2 rt
    exact ⟨p, o, n, x, t1, y, t2, rfl, k _ _ ho, hc, hd⟩
  · obtain ⟨e, he⟩ := sortedAll_at s.heap its (p.map fun i => its.getD i Value.none).toArray
    have hn : H (s.heap.objs.size + 1) = none := I.hok.fresh (Nat.le_succ _)
    have pl' : ∀ i ∈ p, i < ys.length := fun i hi => by
      have := List.mem_range.mp (pp.mem_iff.mp hi)
      omega
    refine ⟨.ref (s.heap.objs.size + 1), _, I.laid (t' := s.toks) (o := .lst (p.map fun i => ys.getD i .non)) (fun b o e => sortedAll_old e) (Nat.le_succ _) ?_, rfl, q _ p hn (by rw [hlen]; exact pp)⟩
    refine ⟨?_, p.map fun i => its.getD i Value.none, e, vals_getD r' p pl', he⟩
    rw [List.length_map, pp.length_eq, List.length_range]
    omega
theorem ints_vals : ∀ {vs : List Value} {ns : List Int}, IntsAre vs ns → Vals (ns.map V.int) vs
  | _, _, .nil => .nil
  | _, _, .cons _ _ t => .cons ⟨_, rfl⟩ (ints_vals t)
/-- sorted(list of numbers) -/
theorem call_sortI : CallR X (.builtin "sorted") (fun xs H Q => ∃ l, ∃ ns : List Int, xs = [.ref l] ∧ SqL X.K H l (ns.map V.int) ∧ ns.length < 64 ∧
    ∀ D (ns' : List Int), H D = none → ns'.Perm ns → ns'.Pairwise (· ≤ ·) → Q (.ref D) (upd H D (.lst (ns'.map V.int)))) := by
  intro pins s σ H xs us Q I r h
  obtain ⟨l, ns, rfl, hq, h64, q⟩ := h
  obtain ⟨u, rfl, rx⟩ := vals1 r
  cases rx
  obtain ⟨its, r', pl, hz⟩ := I.list hq
  have hlen := r'.length
  rw [List.length_map] at hlen
  refine sorted_ints pl.isList (intsAre_of r') (by omega) fun out ns' a1 a2 a3 => ?_
  obtain ⟨e, he⟩ := sortedAll_at s.heap its out
  refine ⟨.ref (s.heap.objs.size + 1), _, I.laid (t' := s.toks) (o := .lst (ns'.map V.int)) (fun b o e => sortedAll_old e) (Nat.le_succ _) ?_, rfl, q _ ns' (I.hok.fresh (Nat.le_succ _)) a2 a3⟩
  refine ⟨?_, out.toList, e, ints_vals a1, he⟩
  rw [List.length_map, a2.length_eq]
  have : ns.length < sizeLine := small1000 (by omega)
  omega
end
end L2

namespace L2
open PySem PySem.Spec PyProof.Rows
variable [TabPar]

/-! ### an exception that leaves a comprehension -/
section
variable {M : Model} {A : Around} {E : Value → Shared → Prop} {s : Shared}
theorem setFlight_held {B : Heap} {l : List Env} {e L : Addr} {cls a0 : Value} {Q : Unit → Shared → Prop} (R : Heap.HeldW B l e cls a0 L s.heap)
    (h : ∀ h', Heap.HeldW B l e cls a0 L h' → s.heap.UpToSlots h' → Q () { s with heap := h' }) : wpAny M A (setFlight (.ref e) (some L)) Q E s := by
  obtain ⟨k1, k2, k3, oe, vs, T, oT, ts, he, hcls, hd, h1, hnT, hTe, hT, hdT, h3⟩ := R
  have hsz3 : 3 < ts.size := (Array.getElem?_eq_some_iff.mp h3).1
  have other : ∀ b, b ≠ T → (s.heap.update T (Obj.mapFields (·.setIfInBounds 3 ((some L).elim Value.none fun f => rawInt f)))).get? b = s.heap.get? b :=
    fun b hb => Heap.get?_update_other _ _ (Ne.symm hb)
  have noRecord : ∀ b o, s.heap.get? b = some o → (∀ vs, o.data ≠ .fields vs) → b ≠ T := fun b o hb hnf q => by
    rw [q, hT] at hb; injection hb with hb; subst hb; exact hnf ts hdT
  unfold setFlight
  refine wpAny_bind (wpAny_field he hd h1 ?_)
  rw [if_pos (show (Value.ref T != Value.none) = true from by simp)]
  refine wpAny_setField hT hdT hsz3 (h _ ⟨fun b o hbo => (other b fun q => by rw [q, hnT] at hbo; cases hbo).trans (k1 b o hbo), k2,
    k3.of_keeps fun b o hb hnf => ⟨o, (other b (noRecord b o hb hnf)).trans hb, rfl⟩, ?_⟩ fun b o hb hnf => ⟨o.slots, (other b (noRecord b o hb hnf)).trans hb⟩)
  exact ⟨oe, vs, T, _, _, (other e (Ne.symm hTe)).trans he, hcls, hd, h1, hnT, hTe, Heap.get?_update_self _ hT (Obj.isFreed_of_fields (Obj.data_mapFields hdT _)), Obj.data_mapFields hdT _, by simp [hsz3]⟩
theorem passOn_held {α : Type} {what : String} {B : Heap} {l : List Env} {env : Env} {e L : Addr} {cls a0 : Value} (hf : env.frame = some L) (R : Heap.HeldW B l e cls a0 L s.heap)
    (h : ∀ h', Heap.HeldW B l e cls a0 L h' → s.heap.UpToSlots h' → E (.ref e) { s with heap := h' }) : wpAny M A (PySem.passOn what (.ref e) env : Sem α) (fun _ _ => False) E s := by
  obtain ⟨_, _, _, oe, vs, T, oT, ts, he, hcls, hd, h1, _⟩ := id R
  unfold PySem.passOn
  refine wpAny_bind (wpAny_field he hd h1 ?_)
  rw [if_neg (show ¬ ((Value.ref T == Value.none) = true) from by simp), hf]
  refine wpAny_bind (setFlight_held R fun h' a b => ?_)
  exact wpAny_throw (h h' a b)
theorem ff_but {B B' h h' : Heap} (kb : ∀ b, B.get? b = none → B'.get? b = none) : ∀ {l : List Env}, h.FunFrames B l → (∀ b ∈ frs l, h'.get? b = h.get? b) → h'.FunFrames B' l
  | [], _, _ => trivial
  | env :: r, ⟨hk, ⟨L, o, hf, hn, ho, hd⟩, hr⟩, k => ⟨hk, ⟨L, o, hf, kb _ hn, (k L (List.mem_filterMap.mpr ⟨env, .head _, hf⟩)).trans ho, hd⟩, ff_but kb hr fun b hb => k b (by
      obtain ⟨env', he, hf'⟩ := List.mem_filterMap.mp hb
      exact List.mem_filterMap.mpr ⟨env', .tail _ he, hf'⟩)⟩
end
section
variable {X : Cx} {pins : List (Addr × Obj)} {σ : St} {H : Hp} {s : Shared} {own : List Str} {scope : Scope} {fp : List Addr}
theorem blk_back {C : Addr} {pl : List (Addr × Obj)} {σ' : St} {H' : Hp} {s' : Shared} (I : Inv X pins σ H s) (hf : ∀ b ∈ fp, FpOk X pins H b) (J : Inv (blk X own scope C s H fp) pl σ' H' s') : Inv X pins σ H' s' :=
  Inv.call' (ch := fp) I J.os J.base J.hok J.bare fun b hb => by
    obtain ⟨f0, f1, f2, f3, f4, f5⟩ := hf b hb
    exact ⟨f3, f1, f4, f5⟩
end
section
variable {P : Program} {w : World} {K : PySem.W.Frag} {mg : Str → Option Value} {base : Heap} {N : List Str} {qual : Str} {scope0 : Scope} {f : Addr} {cd : Value} {A : Around} {outer : List Env} {s0 : Shared} {H0 : Hp} {E : XK}
  {pins : List (Addr × Obj)} {σ : St} {H : Hp} {s : Shared} {own : List Str} {scope : Scope} {fp : List Addr}
/-- what is asked of an exception within the block -/
def compX (X : Cx) (cenv : Env) (x : Value) (s' : Shared) : Prop :=
  ∃ m, s'.heap.Ns cenv.locals m ∧ ∀ h', Heap.SameBut cenv.locals s'.heap h' → wpAny (model X.prog X.w) X.A (PySem.passOn "comprehension.variables-let-go" x cenv : Sem Value) (fun _ _ => False) X.xe { s' with heap := h' }
theorem xe_comp {C : Addr} {pl : List (Addr × Obj)} {σ' : St} {H1 : Hp} {s1 s2 : Shared} {e : Value} (I : Inv (cx1 P w K mg base N qual scope0 f cd A outer s0 H0 E) pins σ H s) (hC : s.heap.objs.size ≤ C) (hf : ∀ b ∈ fp, FpOk (cx1 P w K mg base N qual scope0 f cd A outer s0 H0 E) pins H b)
    (J : Inv (blk (cx1 P w K mg base N qual scope0 f cd A outer s0 H0 E) own scope C s H fp) pl σ' H1 s1) (hx : CX1 P w (cx1 P w K mg base N qual scope0 f cd A outer s0 H0 E).stack H1 s1 E e s2) :
    notedBy (model P w) (cx1 P w K mg base N qual scope0 f cd A outer s0 H0 E).A (blk (cx1 P w K mg base N qual scope0 f cd A outer s0 H0 E) own scope C s H fp).env
      (compX (cx1 P w K mg base N qual scope0 f cd A outer s0 H0 E) (blk (cx1 P w K mg base N qual scope0 f cd A outer s0 H0 E) own scope C s H fp).env) e s2 := by
  have I1 := blk_back I hf J
  obtain ⟨ea, t, Cc, H', B, rfl, os, bare, un, hok, fl, keepB, thereB, hE⟩ := hx
  refine wpAny_looks_onW (env := envOfC qual scope0 s0.heap.objs.size f cd) (outer := outer) (L := s0.heap.objs.size) I1.ok.frames rfl fl fun h4 held up4 => ?_
  obtain ⟨m, ⟨oC, es, ep, hoC, hdC, hk⟩, _⟩ := id J.loc
  have hoC' : s1.heap.get? C = some oC := hoC
  have hCs : C ∉ frs (cx1 P w K mg base N qual scope0 f cd A outer s0 H0 E).stack := fun hb => by
    obtain ⟨_, o, ho, _⟩ := I.stack.mem hb
    exact absurd (Nat.lt_of_lt_of_le (Heap.lt_size ho) hC) (Nat.lt_irrefl _)
  have hB : B.get? C = some oC := keepB C oC hoC' J.free hCs
  refine ⟨m, ⟨oC, es, ep, held.1 _ _ hB, hdC, hk⟩, fun h' hs => ?_⟩
  have hs' : ∀ b, b ≠ C → h'.get? b = h4.get? b := fun b hb => hs.2 b hb
  have neL : ∀ b o, s0.heap.get? b = some o → b ≠ C := fun b o e => Nat.ne_of_lt (Nat.lt_of_lt_of_le (Heap.lt_size e) (Nat.le_trans I.sz hC))
  have inB : ∀ b o, b ≠ C → B.get? b = some o → (PySem.W.hideAll B [C]).get? b = some o := fun b o n e => PySem.W.hideAll_get _ e (by simpa using n)
  have noB : ∀ b, B.get? b = none → (PySem.W.hideAll B [C]).get? b = none := fun b e => by
    cases q : (PySem.W.hideAll B [C]).get? b with
    | none => rfl
    | some o => have := PySem.W.of_hideAll _ q; rw [e] at this; cases this
  have noC : (PySem.W.hideAll B [C]).get? C = none := PySem.W.hideAll_none _ (.head _)
  have held' : Heap.HeldW (PySem.W.hideAll B [C]) (envOfC qual scope0 s0.heap.objs.size f cd :: outer) ea (.ref Cc) (.ref t) s0.heap.objs.size h' := by
    obtain ⟨f1, f2, f3, oe, vs, T, oT, ts, a1, a2, a3, a4, a5, a6, a7, a8, a9⟩ := held
    have ne_e : ea ≠ C := fun z => by rw [z, hB] at f2; cases f2
    have ne_T : T ≠ C := fun z => by rw [z, hB] at a5; cases a5
    refine ⟨fun b o q => ?_, noB _ f2, ff_but noB f3 fun b hb => hs' b fun z => hCs (z ▸ hb), oe, vs, T, oT, ts, (hs' ea ne_e).trans a1, a2, a3, a4, noB _ a5, a6, (hs' T ne_T).trans a7, a8, a9⟩
    have hb : b ≠ C := fun z => by rw [z, noC] at q; cases q
    exact (hs' b hb).trans (f1 b o (PySem.W.of_hideAll _ q))
  refine passOn_held (B := PySem.W.hideAll B [C]) (l := envOfC qual scope0 s0.heap.objs.size f cd :: outer) (L := s0.heap.objs.size) rfl held' fun h5 held5 up5 => ?_
  show wpAny _ _ (leaving (envOfC qual scope0 s0.heap.objs.size f cd) (.ref ea)) _ _ _
  unfold leaving
  refine wpAny_bind (wpAny_noteFrame_againW rfl held5.2.2.2 ?_)
  refine wpAny_landsW held5 fun h6 fl6 up6 => ?_
  have fl7 : Heap.FlyingW (PySem.W.hideAll B [C]) outer ea (.ref Cc) (.ref t) h6 := ⟨fl6.1, fl6.2.1, fl6.2.2.1.2.2, fl6.2.2.2⟩
  have nst : ∀ b o, s0.heap.get? b = some o → b ∉ frs outer → b ∉ frs (cx1 P w K mg base N qual scope0 f cd A outer s0 H0 E).stack := fun b o e n hb => by
    rcases List.mem_cons.mp (I1.stkSub b hb) with z | z
    · exact Nat.ne_of_lt (Heap.lt_size e) z
    · exact n z
  have ist : ∀ b ∈ frs outer, b ∈ frs (cx1 P w K mg base N qual scope0 f cd A outer s0 H0 E).stack := fun b hb => by
    show b ∈ frs (envOfC qual scope0 s0.heap.objs.size f cd :: outer)
    obtain ⟨env, he, hf⟩ := List.mem_filterMap.mp hb
    exact List.mem_filterMap.mpr ⟨env, List.mem_cons_of_mem _ he, hf⟩
  have slotB : ∀ b o, s0.heap.get? b = some o → H0 b = none → b ∈ frs outer → ∃ sl, h6.get? b = some { o with slots := sl } := fun b o e n hb => by
    obtain ⟨sl, e1⟩ := I1.base.slot b o e n hb (fun z => nomatch z)
    obtain ⟨sl2, e2⟩ := un.slot b _ e1 (I1.base.free b o e n (fun z => nomatch z)) (ist b hb) (fun z => nomatch z)
    obtain ⟨_, o', ho', hd'⟩ := I1.ok.funs.mem hb
    have ho2 : s0.heap.get? b = some o' := ho'
    rw [e] at ho2
    cases ho2
    obtain ⟨sl3, e3⟩ := up4 b _ e2 hd'
    have e4 := (hs' b (neL b o e)).trans e3
    obtain ⟨sl5, e5⟩ := up5 b _ e4 hd'
    obtain ⟨sl6, e6⟩ := up6 b _ e5 hd'
    exact ⟨sl6, e6⟩
  have hC' : H' C = none := un.free C oC hoC' J.free (fun z => nomatch z)
  refine ⟨ea, t, Cc, H', PySem.W.hideAll B [C], rfl, os.trans I1.os, bare, ⟨fun b o e n hb _ => ?_, fun b o e n hb _ => slotB b o e n hb, fun b o e n hx => ?_, fun b o e _ => ?_, fun b xs e => un.tups b xs (I1.base.tups b xs e), fun b o u e => un.frzs b o u (I1.base.frzs b o u e), fun b ps e => ?_⟩, fun b o e => ?_, fl7, fun b o e n hb => ?_, fun b o e hb => ?_, hE⟩
  · exact fl7.1 _ _ (inB b o (neL b o e) (keepB b o (I1.base.keep b o e n hb (fun z => nomatch z)) (I1.base.free b o e n (fun z => nomatch z)) (nst b o e hb)))
  · obtain ⟨o', e1⟩ := I1.base.there b o e hx
    exact un.free b o' e1 (I1.base.free b o e n hx) hx
  · by_cases hb : b ∈ frs outer
    · obtain ⟨sl, e2⟩ := slotB b o e (I1.ok.frf b hb) hb
      exact ⟨_, e2⟩
    · obtain ⟨o', e1⟩ := I1.base.there b o e (fun z => nomatch z)
      obtain ⟨o2, e2⟩ := thereB b o' e1 (nst b o e hb)
      exact ⟨o2, fl7.1 _ _ (inB b o2 (neL b o e) e2)⟩
  · obtain ⟨m1, e1⟩ := I1.base.tbls b ps e
    obtain ⟨m2, e2⟩ := un.tbls b _ e1
    exact ⟨m1 ++ m2, by rw [e2, Array.append_assoc]⟩
  · refine (hok b o e).stay (fun c u hc q => inB c u (fun z => ?_) q) (fun _ q => q) fun _ _ q => q
    rw [z] at hc
    rcases hc with r | r
    · rw [← r, hC'] at e; cases e
    · rw [hC'] at r; cases r
  · exact inB b o (neL b o e) (keepB b o (I1.base.keep b o e n hb (fun z => nomatch z)) (I1.base.free b o e n (fun z => nomatch z)) (nst b o e hb))
  · obtain ⟨o', e1⟩ := I1.base.there b o e (fun z => nomatch z)
    obtain ⟨o2, e2⟩ := thereB b o' e1 (nst b o e hb)
    exact ⟨o2, inB b o2 (neL b o e) e2⟩
end
end L2

namespace L2
open PySem PySem.Spec PyProof.Rows
variable [TabPar]

/-- the loop of a comprehension, with exceptions -/
theorem compLoop_anyE {prog : Program} {w : World} {A : Around} {R : Result → Shared → Prop} {s : Shared} {elt target iter : Expr} {ifs : List Expr} {scope : Scope} {pos : Pos} {it acc : Value} {env : Env} (J : Nat → Shared → Prop)
    (turn : ∀ n s, J n s → wpAny (model prog w) A (pyNext it) (fun r s₁ => match r with
      | none => R (.ok .next) s₁
      | some v => wpAny (model prog w) A (letOwnedTupleGo target it v) (fun _ s₁' => wpAny (model prog w) A (assign target env v) (fun _ s₂ =>
          wpAny (model prog w) A (forIn ifs true fun c r => if r = true then do let ok ← isTrue c env (eval c env); pure (ForInStep.yield ok) else pure (ForInStep.yield r)) (fun ok s₃ =>
            if ok = true then wpAny (model prog w) A (eval elt env) (fun x s₄ =>
              wpAny (model prog w) A (call (.builtin "list.append") [acc, x]) (fun _ s₅ => ∃ m, m < n ∧ J m s₅) (notedBy (model prog w) A env fun x s₉ => R (.error x) s₉) s₄) (notedBy (model prog w) A env fun x s₉ => R (.error x) s₉) s₃
            else ∃ m, m < n ∧ J m s₃) (notedBy (model prog w) A env fun x s₉ => R (.error x) s₉) s₂) (notedBy (model prog w) A env fun x s₉ => R (.error x) s₉) s₁') (notedBy (model prog w) A env fun x s₉ => R (.error x) s₉) s₁) (notedBy (model prog w) A env fun x s₉ => R (.error x) s₉) s)
    (n : Nat) (h : J n s) : codeAny (model prog w) A (.compLoop (.ListComp elt [⟨target, iter, ifs, 0⟩] scope pos) 0 it acc env) R s := by
  refine codeAny_loop rfl J (fun n s hI => ?_) n h
  show wpAny _ A ((compTurn (.ListComp elt [⟨target, iter, ifs, 0⟩] scope pos) 0 it acc env).onRaise (fun x => do noteFrame x env; theTreesLotGoes x)) _ _ s
  refine wpAny_noted ?_
  rw [compTurn_list]
  refine wpAny_bind (wpAny_standAt (wpAny_bind (wpAny_mono (turn n s hI) (fun r s₁ h₁ => ?_) fun _ _ h' => h')))
  cases r with
  | none => exact wpAny_pure h₁
  | some v =>
    refine wpAny_bind (wpAny_mono h₁ (fun _ s₁' h₁' => wpAny_bind (wpAny_mono h₁' (fun _ s₂ h₂ => wpAny_bind (wpAny_mono h₂ (fun ok s₃ h₃ => ?_) fun _ _ h' => h')) fun _ _ h' => h')) fun _ _ h' => h')
    cases ok with
    | false => exact wpAny_pure ⟨rfl, h₃⟩
    | true =>
      exact wpAny_bind (wpAny_bind (wpAny_mono h₃ (fun x s₄ h₄ => wpAny_bind (wpAny_mono h₄ (fun _ s₅ h₅ => wpAny_pure (wpAny_pure ⟨rfl, h₅⟩)) fun _ _ h' => h')) fun _ _ h' => h'))


section
variable {M : Model} {A : Around} {E : Value → Shared → Prop} {s : Shared} {env : Env}
/-- a comprehension, where an exception leaves by the block's own environment -/
theorem comp_freeE {e : Expr} {scope : Scope} {pos : Pos} {newAcc first : Sem Value} {g : Comprehension} {gs : List Comprehension} {cl : List (Str × Addr)} {Q : Value → Shared → Prop}
    (hcl : clausesOf e = g :: gs) (hs : ∀ x, foldedSetIterable g.iter env x = pure x) (hclos : closureFor scope env = pure cl)
    (hkind : scope.kind = .function) (hnames : ∀ x ∈ scope.names, x.2 = .local → scope.names.lookup x.1 = some .local)
    (h : wpAny M A first (fun x s₁ => wpAny M A (pyIter x) (fun it s₂ => wpAny M A newAcc (fun acc s₃ =>
      wpAny M A (newFunctionEnv scope env.globals cl [] env.qual none .none (some env)) (fun cenv s₄ =>
        codeAny M A (.compStart e 0 it acc { cenv with scope := relabel scope env }) (fun r s' => match r with
          | .ok _ => ∃ m, s'.heap.Ns cenv.locals m ∧ ∀ h', Heap.SameBut cenv.locals s'.heap h' → Q acc { s' with heap := h' }
          | .error x => ∃ m, s'.heap.Ns cenv.locals m ∧ ∀ h', Heap.SameBut cenv.locals s'.heap h' → wpAny M A (PySem.passOn "comprehension.variables-let-go" x { cenv with scope := relabel scope env } : Sem Value) (fun _ _ => False) E { s' with heap := h' }) s₄) E s₃) E s₂) E s₁) E s) :
    wpAny M A (comprehension e scope env pos newAcc false first none) Q E s := by
  unfold comprehension
  rw [hclos, hcl]
  refine wpAny_bind (wpAny_mono h (fun x s₁ h₁ => wpAny_bind (wpAny_standAt (wpAny_bind (wpAny_of_eq (hs x) (wpAny_bind (wpAny_holding (wpAny_mono h₁ (fun it s₂ h₂ =>
    wpAny_standIf (wpAny_bind (wpAny_mono h₂ (fun acc s₃ h₃ => wpAny_bind (wpAny_pure (wpAny_bind (wpAny_mono h₃ (fun cenv s₄ h₄ => ?_) fun _ _ h' => h')))) fun _ _ h' => h')))
      fun _ _ h' => h'))))))) fun _ _ h' => h')
  dsimp only
  have hv : ∀ x ∈ (scope.names.filter fun x => (x.2 == .local || x.2 == .cell) && x.1 != (".0" : Str)).reverse, x.2 = .local →
      Env.kindOf { cenv with scope := relabel scope env } x.1 = some .local := fun x hx hl => lookup_relabel_local (hnames x (List.mem_filter.mp (List.mem_reverse.mp hx)).1 hl)
  refine wpAny_holding (wpAny_bind (wpAny_attempt (wpAny_holding (wpAny_run (codeAny_mono h₄ fun r s' hr => ?_)))))
  cases r with
  | ok f =>
    obtain ⟨m, hn, hr⟩ := hr
    exact wpAny_bind (wpAny_holding (wpAny_comp_letGo (cenv := { cenv with scope := relabel scope env }) hkind _ s' m hv hn fun h' m' _ hs' => wpAny_pure (hr h' hs')))
  | error x =>
    obtain ⟨m, hn, hr⟩ := hr
    exact wpAny_bind (wpAny_holding (wpAny_comp_letGo (cenv := { cenv with scope := relabel scope env }) hkind _ s' m hv hn fun h' m' _ hs' => wpAny_mono (hr h' hs') (fun _ _ f => f.elim) fun _ _ y => y))
end
theorem wpM {α : Type} {M : Model} {A : Around} {t : Sem α} {Q Q' : α → Shared → Prop} {E : Value → Shared → Prop} {s : Shared} (h : wpAny M A t Q E s) (hQ : ∀ a s, Q a s → Q' a s) : wpAny M A t Q' E s := wpAny_mono h hQ fun _ _ x => x
theorem wpF {α : Type} {M : Model} {A : Around} {t : Sem α} {Q Q' : α → Shared → Prop} {E : Value → Shared → Prop} {s : Shared} (h : wpAny M A t Q (fun _ _ => False) s) (hQ : ∀ a s, Q a s → Q' a s) : wpAny M A t Q' E s := wpAny_mono h hQ fun _ _ x => x.elim
section
variable {X : Cx} {pins : List (Addr × Obj)} {σ : St} {H : Hp} {s : Shared} {own : List Str} {scope : Scope} {fp : List Addr}
/-- the block runs, and may raise -/
theorem blk_runE {elt tg iter : Expr} {ifs : List Expr} {pos : Pos} {g : TG} {tt : TT} {te : TE} {it : Addr} {tn : Nat → Heap → Prop} {J : It} {Q : VK} {E : Value → Shared → Prop} {EX : XK} {RR : Value → Env → Result → Shared → Prop} (hc : X.calm = true) (I : Inv X pins σ H s) (B : BlkScope X own scope)
    (T : Turn X.prog X.w X.K tg J fp it tn) (st : tn 0 s.heap) (hf : ∀ b ∈ fp, FpOk X pins H b)
    (hg : ∀ C s₀ H₀ ex, PG (blk X own scope C s₀ H₀ ex) tg g) (hi : ∀ C s₀ H₀ ex, PIfs (blk X own scope C s₀ H₀ ex) ifs tt) (he : ∀ C s₀ H₀ ex EE, Passes (CX1 X.prog X.w) ((blk X own scope C s₀ H₀ ex).wish EE) EX → PE ((blk X own scope C s₀ H₀ ex).wish EE) elt te)
    (W : Nat → Nat → List V → Hp → Prop) (w0 : ∃ m, W 0 m [] H)
    (turn : ∀ i m ys H (os : St), os.length = own.length → W i m ys H →
      (J.stop i H ∧ ∀ D, H D = none → Q (.ref D) (upd H D (.lst ys))) ∨
      (J.go i H ∧ ys.length < sizeLine ∧ ∃ N : List V → Hp → Prop, (∀ ys' H', N ys' H' → ∃ m', m' < m ∧ W (i + 1) m' ys' H') ∧
        ∀ x H', J.yld i H x H' → g x (os ++ σ) H' fun σ2 H2 => (∃ os2 : St, os2.length = own.length ∧ σ2 = os2 ++ σ) ∧ tt σ2 H2 fun b H3 => if b = true then te σ2 H3 fun v H4 => N (ys ++ [v]) H4 else N ys H3))
    (fin : ∀ (C D : Addr) (s' : Shared) (m : Str → Option Value) (H' : Hp), s'.heap.Ns C m → FpOk X pins H' C → (∀ h', Heap.SameBut C s'.heap h' → Inv X pins σ H' { s' with heap := h' }) → Q (.ref D) H' → ∀ cenv : Env, cenv.locals = C → RR (.ref D) cenv (.ok .next) s')
    (hxe : ∀ (C : Addr) (pl : List (Addr × Obj)) (σ' : St) (H1 : Hp) (s1 s2 : Shared) (e : Value), s.heap.objs.size ≤ C → Inv (blk X own scope C s H fp) pl σ' H1 s1 → CX1 X.prog X.w X.stack H1 s1 EX e s2 → notedBy (model X.prog X.w) X.A (blk X own scope C s H fp).env (compX X (blk X own scope C s H fp).env) e s2)
    (finE : ∀ (D C : Addr) (x : Value) (s' : Shared), compX X (blk X own scope C s H fp).env x s' → RR (.ref D) (blk X own scope C s H fp).env (.error x) s') :
    wpAny (model X.prog X.w) X.A (newList []) (fun acc s₃ => wpAny (model X.prog X.w) X.A (newFunctionEnv scope X.env.globals (clOf X.env.cells scope.names []) [] X.env.qual none .none (some X.env)) (fun cenv s₄ =>
      codeAny (model X.prog X.w) X.A (.compStart (.ListComp elt [⟨tg, iter, ifs, 0⟩] scope pos) 0 (.ref it) acc { cenv with scope := relabel scope X.env }) (RR acc { cenv with scope := relabel scope X.env }) s₄) E s₃) E s := by
  have hfo : ∀ b ∈ fp, ∃ o, s.heap.get? b = some o := fun b hb => let ⟨o, e, _⟩ := T.obj _ _ st b hb; ⟨o, e⟩
  refine wpAny_newObj_type (wpAny_newFunctionEnv B.nocell (by intro y hy; simp at hy) (fun h₁ hns₁ hsb₁ => ?_) B.kind)
  dsimp only at hns₁ hsb₁ ⊢
  generalize hH2 : s.heap.push { cls := .type "list", dict := none, data := .seq ([] : List Value).toArray } = H2 at hns₁ hsb₁ ⊢
  have hCe : H2.objs.size = s.heap.objs.size + 1 := by rw [← hH2, Heap.size_push]
  have hDC : s.heap.objs.size ≠ H2.objs.size := by rw [hCe]; exact Nat.ne_of_lt (Nat.lt_succ_self _)
  have hC : s.heap.objs.size ≤ H2.objs.size := by rw [hCe]; exact Nat.le_succ _
  have hD : s.heap.objs.size ≤ s.heap.objs.size := Nat.le_refl _
  have old : ∀ b o, s.heap.get? b = some o → h₁.get? b = some o := fun b o e =>
    hsb₁.extBut b o (by rw [hCe]; exact Nat.ne_of_lt (Nat.lt_succ_of_lt (Heap.lt_size e))) (Heap.get?_push_of_some _ (hH2 ▸ Heap.get?_push_of_some _ e))
  have hoD : h₁.get? s.heap.objs.size = some { cls := .type "list", data := .seq ([] : List Value).toArray 0 } := hsb₁.extBut _ _ hDC (Heap.get?_push_of_some _ (hH2 ▸ Heap.get?_push_size _ rfl))
  have CL : H2.objs.size ≠ X.env.locals := Nat.ne_of_gt (Nat.lt_of_lt_of_le I.lt hC)
  have CF : H2.objs.size ∉ X.fs := I.nofs hC
  generalize hDe : s.heap.objs.size = D at hoD hDC hD CL CF
  generalize H2.objs.size = C at *
  have hC' : s.heap.objs.size ≤ C := hC
  have hD' : s.heap.objs.size ≤ D := by rw [hDe]; exact Nat.le_refl _
  have I0 : Inv (blk X own scope C s H fp) [(D, { cls := .type "list", data := .seq ([] : List Value).toArray 0 })] ((own.map fun _ => none) ++ σ) H { s with heap := h₁, toks := s.toks + ([] : List (Str × Value)).length } :=
    blk_inv I B hf hfo hC' hD' hDC old hns₁ hoD (fun v z => nomatch z) rfl
  have stat : ∀ {H' : Hp} {pl : List (Addr × Obj)}, (∀ p ∈ pl, p.1 = D) → (∀ b ∈ fp, H' b = none) → ∀ b ∈ fp, FpOk (blk X own scope C s H fp) pl H' b := fun {H' pl} hpl hn b hb => by
    have ok := I0.ok
    obtain ⟨o, ho⟩ := hfo b hb
    refine ⟨hn b hb, (ok.exf b hb).1, ok.exfs b hb, .inl hb, fun x c e => (ok.exf b hb).2 x c e, fun p hp => ?_⟩
    have hp' : p ∈ ([] : List (Addr × Obj)) ++ pl := hp
    rw [List.nil_append] at hp'
    rw [hpl p hp', ← hDe]
    exact Nat.ne_of_gt (Heap.lt_size ho)
  have loop : ∀ s₃ : Shared, s₃ = { s with heap := h₁, toks := s.toks + ([] : List (Str × Value)).length } →
      codeAny (model X.prog X.w) X.A (.compLoop (.ListComp elt [⟨tg, iter, ifs, 0⟩] scope pos) 0 (.ref it) (.ref D) (blk X own scope C s H fp).env) (RR (.ref D) (blk X own scope C s H fp).env) s₃ := by
    rintro s₃ rfl
    obtain ⟨m0, w0⟩ := w0
    have hp : Passes (CX1 X.prog X.w) ((blk X own scope C s H fp).wish (notedBy (model X.prog X.w) X.A (blk X own scope C s H fp).env fun x s₉ => RR (.ref D) (blk X own scope C s H fp).env (.error x) s₉)) EX := fun pl σ' H1 s1 e s2 I1 hx =>
      wpAny_mono (hxe C pl σ' H1 s1 s2 e hC' I1.unwish hx) (fun _ s'' q => finE D C e s'' q) fun e' s'' q => finE D C e' s'' q
    refine compLoop_anyE (fun n s' => ∃ (i : Nat) (ys : List V) (its : List Value) (k : Nat) (os : St) (H' : Hp), os.length = own.length ∧ Inv (blk X own scope C s H fp) [(D, { cls := .type "list", data := .seq its.toArray k })] (os ++ σ) H' s' ∧ tn i s'.heap ∧
      (∀ b ∈ fp, H' b = none) ∧ Vals ys its ∧ ys.length ≤ sizeLine ∧ W i n ys H') ?_ m0 ⟨0, [], [], 0, _, H, by simp, I0, T.keep _ _ _ st fun b hb o e => old b o e, fun b hb => (hf b hb).1, .nil, Nat.zero_le _, w0⟩
    rintro n s4 ⟨i, ys, its, k, os, H4, hos, I4, st4, fr4, rv4, hz4, w4⟩
    have one : ∀ p ∈ [((D, { cls := .type "list", data := .seq its.toArray k }) : Addr × Obj)], p.1 = D := fun p hp => by
      have e : p = (D, { cls := .type "list", data := .seq its.toArray k }) := by simpa using hp
      rw [e]
    rcases turn i n ys H4 os hos w4 with ⟨stop, qn⟩ | ⟨go, hlt, N, hN, step⟩
    · refine wpAny_mono (T.done (blk X own scope C s H fp) rfl rfl rfl hc i _ s4 _ H4 _ I4 (stat one fr4) st4 stop) (fun r s5 ⟨hr, I5⟩ => ?_) fun _ _ z => z
      subst hr
      obtain ⟨m, hn, _⟩ := I5.loc
      obtain ⟨pD, hnD, _, _, _⟩ := I5.pin (D, _) (List.mem_append_right _ List.mem_cons_self)
      refine fin C D s5 m (upd H4 D (.lst ys)) hn (I.fpOk hC' ?_) (fun h' hs => blk_done I hf hC' hD' hDC I5 rv4 hz4 hs) (qn D hnD) _ rfl
      rw [upd_ne (Ne.symm hDC)]
      exact I5.free
    · refine wpAny_mono (T.item (blk X own scope C s H fp) rfl rfl rfl hc i _ s4 _ H4 _ I4 (stat one fr4) st4 go) (fun r s5 ⟨u, hr, h5⟩ => ?_) fun _ _ z => z
      subst hr
      refine wpM h5 fun _ s6 ⟨x, H6, I6, r6, y6, st6, fr6⟩ => ?_
      have I6' := I6.pinned (stat one fr6) (T.obj _ _ st6)
      refine wpF (hg C s H fp _ s6 _ H6 x u _ I6' r6 (step x H6 y6)) fun _ s7 ⟨σ7, H7, I7, ⟨os7, ho7, e7⟩, q7⟩ => ?_
      subst e7
      refine wpF (hi C s H fp _ s7 _ H7 _ I7 q7) fun b s8 ⟨H8, I8, q8⟩ => ?_
      -- what a later turn needs, from the pins
      have back : ∀ {H9 : Hp} {s9 : Shared}, Inv (blk X own scope C s H fp) ([(D, { cls := .type "list", data := .seq its.toArray k })] ++ pinsAt fp s6.heap) (os7 ++ σ) H9 s9 → tn (i + 1) s9.heap ∧ ∀ b ∈ fp, H9 b = none := fun {H9 s9} I9 => by
        refine ⟨T.keep _ _ _ st6 fun b hb o e => (I9.pin (b, o) (List.mem_append_right _ (List.mem_append_right _ (mem_pinsAt hb e)))).1, fun b hb => ?_⟩
        obtain ⟨o, e, d⟩ := T.obj _ _ st6 b hb
        exact (I9.pin (b, o) (List.mem_append_right _ (List.mem_append_right _ (mem_pinsAt hb e)))).2.1
      cases b with
      | false =>
        rw [if_neg Bool.false_ne_true] at q8 ⊢
        obtain ⟨m', hm, w'⟩ := hN _ _ q8
        exact ⟨m', hm, i + 1, ys, its, k, os7, H8, ho7, I8.unpinned, (back I8).1, (back I8).2, rv4, hz4, w'⟩
      | true =>
        rw [if_pos rfl] at q8 ⊢
        refine wpM (he C s H fp _ hp _ s8 _ H8 _ (I8.wish _) q8) fun z s9 ⟨v, H9, I9', r9, q9⟩ => ?_
        have I9 := I9'.unwish
        obtain ⟨st9, fr9⟩ := back I9
        obtain ⟨pD, hnD, hDL, hDF, _⟩ := I9.pin (D, _) (List.mem_append_right _ (List.mem_append_left _ List.mem_cons_self))
        have hsz : its.toArray.size ≤ sizeLine := by
          rw [List.size_toArray, ← rv4.length]
          exact Nat.le_of_lt hlt
        refine append_at pD (fun h' hs hD' => ?_) hsz
        obtain ⟨m', hm, w'⟩ := hN _ _ q9
        have I10 : Inv (blk X own scope C s H fp) [] (os7 ++ σ) H9 s9 := I9.pins_of fun p hp => nomatch hp
        have I11 : Inv (blk X own scope C s H fp) [] (os7 ++ σ) H9 { s9 with heap := h' } := I10.turned (t' := s9.toks) (it := D) (fun b o hb e => (hs.2 b hb).trans e) hnD hDL
          (.inr (by show s.heap.objs.size ≤ D; rw [hDe]; exact Nat.le_refl _)) (fun x c e z => ?_) (fun p hp => absurd (show p ∈ ([] : List (Addr × Obj)) ++ [] from hp) (by simp))
        · have I12 : Inv (blk X own scope C s H fp) [(D, { cls := .type "list", data := .seq (its ++ [z]).toArray (k + 1) })] (os7 ++ σ) H9 { s9 with heap := h' } := I11.pins_of fun p hp => by
            have e : p = (D, { cls := .type "list", data := .seq (its ++ [z]).toArray (k + 1) }) := by simpa using hp
            subst e
            refine ⟨?_, hnD, hDL, hDF, fun v z => nomatch z⟩
            show h'.get? D = _
            rw [hD']
            simp
          refine ⟨m', hm, i + 1, ys ++ [v], its ++ [z], k + 1, os7, H9, ho7, I12, ?_, fr9, rv4.append (.cons r9 .nil), ?_, w'⟩
          · refine T.keep _ _ _ st9 fun b hb o e => (hs.2 b fun z => ?_).trans e
            obtain ⟨o', ho'⟩ := hfo b hb
            rw [z, ← hDe] at ho'
            exact absurd (Heap.lt_size ho') (Nat.lt_irrefl _)
          · rw [List.length_append]
            exact hlt
        · obtain ⟨v', o', ho', hd'⟩ := I9.cell x c e
          rw [z, pD] at ho'
          cases ho'
          exact nomatch hd'
  exact codeAny_compStart_list (loop _ rfl) (T.self _ 0 _ _ _ (T.keep _ _ _ st fun b hb o e => old b o e) (loop _ rfl))
end
section
variable {P : Program} {w : World} {K : PySem.W.Frag} {mg : Str → Option Value} {base : Heap} {N : List Str} {qual : Str} {scope0 : Scope} {f : Addr} {cd : Value} {A : Around} {outer : List Env} {s0 : Shared} {H0 : Hp} {E : XK}
  {own : List Str} {scope : Scope} {elt tg iter : Expr} {ifs : List Expr} {pos : Pos} {wi : TI} {g : TG} {tt : TT} {te : TE}
/-- [elt for tg in iter if c], where elt may raise -/
theorem pe_compX (B : BlkScope (cx1 P w K mg base N qual scope0 f cd A outer s0 H0 E) own scope) (hi : PI (cx1 P w K mg base N qual scope0 f cd A outer s0 H0 E) tg iter wi) (hg : ∀ C s₀ H₀ ex, PG (blk (cx1 P w K mg base N qual scope0 f cd A outer s0 H0 E) own scope C s₀ H₀ ex) tg g)
    (hif : ∀ C s₀ H₀ ex, PIfs (blk (cx1 P w K mg base N qual scope0 f cd A outer s0 H0 E) own scope C s₀ H₀ ex) ifs tt)
    (he : ∀ C s₀ H₀ ex EE, Passes (CX1 P w) ((blk (cx1 P w K mg base N qual scope0 f cd A outer s0 H0 E) own scope C s₀ H₀ ex).wish EE) E → PE ((blk (cx1 P w K mg base N qual scope0 f cd A outer s0 H0 E) own scope C s₀ H₀ ex).wish EE) elt te)
    (hs : ∀ x, foldedSetIterable iter (cx1 P w K mg base N qual scope0 f cd A outer s0 H0 E).env x = pure x := by intro _; rfl) :
    PE (cx1 P w K mg base N qual scope0 f cd A outer s0 H0 E) (.ListComp elt [⟨tg, iter, ifs, 0⟩] scope pos) (tComp own.length wi g tt te) := by
  intro pins s σ H Q I h
  rw [eval_ListComp]
  refine comp_freeE rfl hs (closure_ok I B) B.kind B.names (thn (hi pins s σ H _ I h) fun v s1 h1 => thn h1 fun itv s2 h2 => ?_)
  obtain ⟨it, fp, tn, J, H2, e, I2, T, st2, f2, W, w0, turn⟩ := h2
  subst e
  refine blk_runE (EX := E) (RR := fun acc cenv r s' => match r with
      | .ok _ => ∃ m, s'.heap.Ns cenv.locals m ∧ ∀ h', Heap.SameBut cenv.locals s'.heap h' → EP (cx1 P w K mg base N qual scope0 f cd A outer s0 H0 E) pins σ Q acc { s' with heap := h' }
      | .error x => compX (cx1 P w K mg base N qual scope0 f cd A outer s0 H0 E) cenv x s') rfl I2 B T st2 f2 hg hif he W w0 turn ?_ (fun C pl σ' H1 s1 s2 e hC J hx => xe_comp I2 hC f2 J hx) fun D C x s' q => q
  intro C D s' m H' hn _ inv q cenv hcenv
  subst hcenv
  exact ⟨m, hn, fun h' hs => ⟨.ref D, H', inv h' hs, rfl, q⟩⟩
end
end L2

namespace L2
open PySem PySem.Spec PyProof.Rows
variable [TabPar]
theorem boot_ValueError : bootBuiltins "ValueError" = some (.type "ValueError") := by decide +kernel
theorem RoomH.mono {j k : Nat} {A : Around} (r : RoomH k A) (h : j ≤ k) : RoomH j A := ⟨by have := r.dp; omega, by have := r.un; omega⟩
theorem DfH.mono {P : Program} {w : World} {K : PySem.W.Frag} {mg : Str → Option Value} {base : Heap} {x : Str} {ps : List Str} {j k : Nat} {sp : Sp} (D : DfH P w K mg base j x ps sp) (h : j ≤ k) : DfH P w K mg base k x ps sp := by
  obtain ⟨f, fd, F, z⟩ := D
  exact ⟨f, fd, ⟨F.len, fun A outer s H args us vs Q E hr => F.run A outer s H args us vs Q E (hr.mono h)⟩, z⟩
/-- what is known of the i-th of five classes of errors -/
structure ErrC (K : PySem.W.Frag) (C C0 C1 C2 C3 C4 : Addr) (i : Nat) : Prop where
  k : ExcK K C
  cs : (PySem.W.clsIn K C).isSome = true
  t0 : PySem.W.kitOne K (.ref C) (.ref C0) = some (0 == i)
  t1 : PySem.W.kitOne K (.ref C) (.ref C1) = some (1 == i)
  t2 : PySem.W.kitOne K (.ref C) (.ref C2) = some (2 == i)
  t3 : PySem.W.kitOne K (.ref C) (.ref C3) = some (3 == i)
  t4 : PySem.W.kitOne K (.ref C) (.ref C4) = some (4 == i)
  tv : PySem.W.kitOne K (.ref C) (.type "ValueError") = some true
section
variable {K : PySem.W.Frag} {σ : St} {H : Hp} {Q : VK} {te : TE}
/-- [e for c in text], by a word of one's own -/
theorem comp_strR {z : Str} (Pv : Nat → List V → Hp → Prop) (h0 : Pv 0 [] H) (hq : ∀ i ys H1, Pv i ys H1 → ys.length ≤ 1000)
    (step : ∀ (i c : Nat) (ys : List V) (H1 : Hp), z.cps[i]? = some c → Pv i ys H1 → te (some (.str ⟨#[c]⟩) :: σ) H1 fun v H4 => Pv (i + 1) (ys ++ [v]) H4)
    (fin : ∀ ys H1 D, Pv z.cps.size ys H1 → H1 D = none → Q (.ref D) (upd H1 D (.lst ys))) : CompEnd (Its z) 1 (gName 0) tNoIf te σ H Q := by
  refine ⟨fun i m ys H1 => m = z.cps.size - i ∧ i ≤ z.cps.size ∧ Pv i ys H1, ⟨z.cps.size, by simp, Nat.zero_le _, h0⟩, ?_⟩
  rintro i m ys H1 os hos ⟨rfl, hi, hP⟩
  by_cases hlt : i < z.cps.size
  · refine .inr ⟨hlt, small1000 (hq i ys H1 hP), fun ys' H' => Pv (i + 1) ys' H', fun ys' H' h1 => ⟨z.cps.size - (i + 1), by omega, rfl, hlt, h1⟩, ?_⟩
    rintro x H' ⟨rfl, c, hc, rfl⟩
    obtain ⟨o1, rfl⟩ : ∃ o1, os = [o1] := by
      match os, hos with
      | [o1], _ => exact ⟨o1, rfl⟩
    refine ⟨⟨[some (.str ⟨#[c]⟩)], rfl, rfl⟩, ?_⟩
    exact iteT (B := Pv (i + 1) ys H') (step i c ys _ hc hP)
  · have e : i = z.cps.size := by omega
    subst e
    exact .inl ⟨Nat.le_refl _, fun D hD => fin ys _ D hP hD⟩
end
end L2

namespace My
open PySem L2
instance tabPar : TabPar := ⟨rawInt 0, rawInt 0, "best_pick.<locals>.<lambda>"⟩
def top (i : Nat) : Stmt := PySem.Challenge.pw_lieask_k14_read.main.body.getD i (.Pass ⟨0, 0, 0, 0⟩)
abbrev s_check_lies : Stmt := top 10
abbrev s_read : Stmt := top 14
abbrev s_signs_by_mark : Stmt := top 15
abbrev s_mark_of : Stmt := top 16
abbrev s_l_cell_at : Stmt := top 18
abbrev s_l_whole : Stmt := top 19
abbrev s_l_is_list : Stmt := top 20
abbrev s_l_word_of : Stmt := top 21
abbrev s_l_tried : Stmt := top 22
abbrev s_law : Stmt := top 23
section
variable {P : Program} {w : World} {K : PySem.W.Frag} {mg : Str → Option Value} {base : Heap} {n : Nat}
theorem sc_check_lies : FnScope ["lies"] ["lies"] (defScope s_check_lies) := ⟨rfl, rfl, rfl, by decide +kernel, rfl, by decide +kernel, by decide +kernel⟩
def sp_check_lies (K : PySem.W.Frag) (C_NoLies : Addr) : Sp := fun vs H Q E => ∃ (l : Int), vs = [.int l] ∧ ((0 ≤ l ∧ l ≤ 2 → Q .non H) ∧ (¬ (0 ≤ l ∧ l ≤ 2) → E (.ref C_NoLies) none H))
theorem ok_check_lies (C_NoLies : Addr) (T : Tx K mg "check_lies" ["lies"] s_check_lies) (c_MOST_LIES : Cst mg "MOST_LIES" 2) (X_NoLies : ExcC K mg "NoLies" C_NoLies) : Df1 P w K mg base (n + 1) "check_lies" ["lies"] (sp_check_lies K C_NoLies) := by
  refine T.ok1 sc_check_lies (fun vs H Q E h => ?_) (fun f cdv A outer s H vs Q E hr h => ?_)
  · obtain ⟨l, rfl, _⟩ := h
    rfl
  obtain ⟨l, rfl, q⟩ := h
  have nd := sc_check_lies.nd
  refine ⟨_, (pss_one (ps_if (PW.pt (pw_or (pt_cmpR op_lt (pv 0) pe_int (nomark _)) (pw_or1 (pt_cmpR op_gt (pv 0) (pe_cst c_MOST_LIES rfl) (nomark _))))) (pss_one (ps_raise (ER := fun H' => E (.ref C_NoLies) none H') rfl X_NoLies rfl (pa_cons pe_str pa_nil) (fun pins σ H s ea h' vs I hm hE => xe_made I hm hE))) pss_nil)), ?_⟩
  refine ⟨_, rfl, _, _, rfl, rfl, _, rfl, ?_⟩
  refine ite2 (fun c => ?_) fun c1 => ?_
  · have c' : l < 0 := of_decide_eq_true c
    exact ⟨Nat.le_of_lt (small1000 (by decide)), q.2 (by omega)⟩
  have c1' : ¬ l < 0 := of_decide_eq_false (Bool.eq_false_iff.mpr c1)
  refine ⟨_, rfl, _, _, rfl, rfl, _, rfl, ?_⟩
  refine ite2 (fun c => ?_) fun c2 => ?_
  · have c' : 2 < l := of_decide_eq_true c
    exact ⟨Nat.le_of_lt (small1000 (by decide)), q.2 (by omega)⟩
  have c2' : ¬ 2 < l := of_decide_eq_false (Bool.eq_false_iff.mpr c2)
  exact q.1 (by omega)
theorem int_at {ms : List Int} {i : Nat} {x : V} (hx : (ms.map V.int)[i]? = some x) : ∃ m, ms[i]? = some m ∧ x = .int m := by
  rw [List.getElem?_map] at hx
  cases e : ms[i]? with
  | none => rw [e] at hx; cases hx
  | some m => rw [e] at hx; cases hx; exact ⟨m, rfl, rfl⟩
theorem flat_ints : ∀ ms : List Int, (ms.map V.int).all flatV = true
  | [] => rfl
  | _ :: r => flat_ints r
theorem at_nat {ns : List Int} {k : Int} (h0 : 0 ≤ k) (h : k < (ns.length : Int)) : atI (ns.map V.int) k = some (.int (ns.getD k.toNat 0)) := by
  have hk : k.toNat < ns.length := by omega
  have ek : k = ((k.toNat : Nat) : Int) := by omega
  have q : atI (ns.map V.int) ((k.toNat : Nat) : Int) = some (.int (ns.getD k.toNat 0)) := atI_nat (by rw [List.getElem?_map, List.getElem?_eq_getElem hk, List.getD_eq_getElem?_getD, List.getElem?_eq_getElem hk]; rfl)
  rw [← ek] at q
  exact q
theorem getD_beyond {ns : List Int} {k : Nat} (h : ns.length ≤ k) : ns.getD k 0 = 0 := by
  rw [List.getD_eq_getElem?_getD, List.getElem?_eq_none h]
  rfl
/-- marks of some things, by the lies -/
structure Good (l : Int) (ms : List Int) : Prop where
  lo : 0 ≤ l
  hi : l ≤ 2
  few : 1 ≤ ms.length
  most : ms.length ≤ 8
  each : ∀ m ∈ ms, 0 ≤ m ∧ m ≤ l + 1
/-- rising from above last, below n -/
def Rise (last n : Int) : List Int → Prop
  | [] => True
  | q :: r => last < q ∧ q < n ∧ Rise q n r
theorem rep_flat (k : Nat) : (List.replicate k [V.int 0]).flatten = (List.replicate k (0 : Int)).map V.int := by
  induction k with
  | zero => rfl
  | succ k ih => rw [List.replicate_succ, List.flatten_cons, ih]; rfl
def mAfter (m l : Int) (lied : Bool) : Int := if lied = true then (if l + 1 < m + 1 then l + 1 else m + 1) else m
def isIn (qs : List Int) (i : Int) : Bool := inV (.int i) (qs.map V.int)
def afterM (ms : List Int) (l : Int) (qs : List Int) (yes : Bool) : List Int := (List.range ms.length).map fun i => mAfter (ms.getD i 0) l (!decide (V.bl (isIn qs (i : Int)) = V.bl yes))
theorem aft_len (ms : List Int) (l : Int) (qs : List Int) (yes : Bool) : (afterM ms l qs yes).length = ms.length := by
  unfold afterM
  simp
theorem aft_good {l : Int} {ms : List Int} (g : Good l ms) (qs : List Int) (yes : Bool) : Good l (afterM ms l qs yes) := by
  have h1 := g.lo
  refine ⟨g.lo, g.hi, by rw [aft_len]; exact g.few, by rw [aft_len]; exact g.most, fun m hm => ?_⟩
  unfold afterM at hm
  obtain ⟨i, hi, rfl⟩ := List.mem_map.mp hm
  have hi' : i < ms.length := List.mem_range.mp hi
  have ge := g.each _ (List.getElem_mem hi')
  have e : ms.getD i 0 = ms[i] := by rw [List.getD_eq_getElem?_getD, List.getElem?_eq_getElem hi']; rfl
  rw [e]
  unfold mAfter
  split
  · split <;> omega
  · exact ge
def standM (ms : List Int) (l : Int) : List Int := ((List.range ms.length).filter fun i => decide (ms.getD i 0 ≤ l)).map fun (i : Nat) => (i : Int)
theorem sc_l_cell_at : FnScope ["script", "k"] ["script", "k"] (defScope s_l_cell_at) := ⟨rfl, rfl, rfl, by decide +kernel, rfl, by decide +kernel, by decide +kernel⟩
def sp_l_cell_at (K : PySem.W.Frag) : Sp := fun vs H Q E => ∃ (a : Addr) (ns : List Int) (k : Int), vs = [.ref a, .int k] ∧ (SqL K H a (ns.map V.int)) ∧ (0 ≤ k) ∧ (Q (.int (ns.getD k.toNat 0)) H)
theorem ok_l_cell_at (T : Tx K mg "_law_cell_at" ["script", "k"] s_l_cell_at) (m_len : mg "len" = none) : Df P w K mg base (n + 1) "_law_cell_at" ["script", "k"] (sp_l_cell_at K) := by
  refine T.ok sc_l_cell_at (fun vs H Q E h => ?_) (fun f cdv A outer s H vs Q E hr h => ?_)
  · obtain ⟨a, ns, k, rfl, _⟩ := h
    rfl
  obtain ⟨a, ns, k, rfl, hS, h0, q⟩ := h
  have nd := sc_l_cell_at.nd
  refine ⟨_, (pss_cons (ps_if (pt_cmpR op_lt (pv 1) (pe_callB call_len_seq rfl m_len PySem.boot_len (pa_cons (pv 0) pa_nil)) (nomark _)) (pss_one (ps_ret (pe_ix ix_list (pv 0) (pv 1) (fun _ _ => rfl)))) pss_nil) (pss_one (ps_ret pe_int))), ?_⟩
  have hl : (ns.map V.int).length = ns.length := List.length_map _
  refine ⟨_, rfl, _, rfl, a, _, rfl, .inl hS, _, _, rfl, rfl, _, rfl, ?_⟩
  refine ite2 (fun c => ?_) fun c => ?_
  · have c' : k < (((ns.map V.int).length : Nat) : Int) := of_decide_eq_true c
    rw [hl] at c'
    exact ⟨_, rfl, _, rfl, a, _, k, _, rfl, rfl, hS, at_nat h0 c', q⟩
  · have c' : ¬ k < (((ns.map V.int).length : Nat) : Int) := of_decide_eq_false (Bool.eq_false_iff.mpr c)
    rw [hl] at c'
    rw [getD_beyond (by omega)] at q
    exact q
theorem sc_l_whole : FnScope ["found"] ["found"] (defScope s_l_whole) := ⟨rfl, rfl, rfl, by decide +kernel, rfl, by decide +kernel, by decide +kernel⟩
def sp_l_whole (K : PySem.W.Frag) : Sp := fun vs H Q E => ∃ (i : Int), vs = [.int i] ∧ (Q (.bl true) H)
theorem ok_l_whole (T : Tx K mg "_law_whole" ["found"] s_l_whole) (m_isinstance : mg "isinstance" = none) (m_bool : mg "bool" = none) (m_int : mg "int" = none) : Df P w K mg base (n + 1) "_law_whole" ["found"] (sp_l_whole K) := by
  refine T.ok sc_l_whole (fun vs H Q E h => ?_) (fun f cdv A outer s H vs Q E hr h => ?_)
  · obtain ⟨i, rfl, _⟩ := h
    rfl
  obtain ⟨i, rfl, q⟩ := h
  have nd := sc_l_whole.nd
  refine ⟨_, (pss_one (ps_ret (pe_and (pe_callB call_isinst rfl m_isinstance PyProof.Rows.boot_isinstance (pa_cons (pv 0) (pa_cons (pe_bltn (v := .ty "int") rfl m_int PyProof.Rows.boot_int rfl) pa_nil))) (pe_one (pe_not (pe_callB call_isinst rfl m_isinstance PyProof.Rows.boot_isinstance (pa_cons (pv 0) (pa_cons (pe_bltn (v := .ty "bool") rfl m_bool PyProof.Rows.boot_bool rfl) pa_nil)))))))), ?_⟩
  refine ⟨_, rfl, _, _, _, true, rfl, .int i, rfl, true, rfl, ?_⟩
  refine iteT ?_
  exact ⟨_, rfl, _, _, _, false, rfl, .int i, rfl, false, rfl, q⟩
theorem sc_l_is_list : FnScope ["found", "due", "k"] ["found", "due"] (defScope s_l_is_list) := ⟨rfl, rfl, rfl, by decide +kernel, rfl, by decide +kernel, by decide +kernel⟩
def sp_l_is_list (K : PySem.W.Frag) : Sp := fun vs H Q E => ∃ (a : Addr) (b : Addr) (xs : List Int), vs = [.ref a, .ref b] ∧ (H a = some (.lst (xs.map V.int))) ∧ (SqL K H b (xs.map V.int)) ∧ (xs.length ≤ 1000) ∧ (Q (.bl true) H)
theorem ok_l_is_list (T : Tx K mg "_law_is_list" ["found", "due"] s_l_is_list) (D_l_whole : Df P w K mg base n "_law_whole" ["found"] (sp_l_whole K)) (m_range : mg "range" = none) (m_len : mg "len" = none) (m_isinstance : mg "isinstance" = none) (m_list : mg "list" = none) : Df P w K mg base (n + 1) "_law_is_list" ["found", "due"] (sp_l_is_list K) := by
  refine T.ok sc_l_is_list (fun vs H Q E h => ?_) (fun f cdv A outer s H vs Q E hr h => ?_)
  · obtain ⟨a, b, xs, rfl, _⟩ := h
    rfl
  obtain ⟨a, b, xs, rfl, hA, hB, hz, q⟩ := h
  have nd := sc_l_is_list.nd
  refine ⟨_, (pss_cons (ps_if (PW.pt (pw_or (pt_not (pt_truth (pe_callB call_isinst rfl m_isinstance PyProof.Rows.boot_isinstance (pa_cons (pv 0) (pa_cons (pe_bltn (v := .ty "list") rfl m_list PyProof.Rows.boot_list rfl) pa_nil))) fun _ => rfl)) (pw_or1 (pt_cmpR op_ne (pe_callB call_len_seq rfl m_len PySem.boot_len (pa_cons (pv 0) pa_nil)) (pe_callB call_len_seq rfl m_len PySem.boot_len (pa_cons (pv 1) pa_nil)) (nomark _))))) (pss_one ps_never) pss_nil) (pss_cons (ps_for PassesOwn.never rfl (pi_range1 rfl m_range (pa_cons (pe_callB call_len_seq rfl m_len PySem.boot_len (pa_cons (pv 1) pa_nil)) pa_nil)) (pg_name (i := 2) nd rfl (Or.inl rfl)) (pss_one (ps_if (PW.pt (pw_or (pt_not (pt_truth (pe_callD D_l_whole hr rfl (pa_cons (pe_ix ix_list (pv 0) (pv 2) (fun _ _ => rfl)) pa_nil)) fun _ => rfl)) (pw_or1 (pt_cmpR op_ne (pe_ix ix_list (pv 0) (pv 2) (fun _ _ => rfl)) (pe_ix ix_list (pv 1) (pv 2) (fun _ _ => rfl)) (nomark _))))) (pss_one ps_never) pss_nil))) (pss_one (ps_ret pe_bl)))), ?_⟩
  have hl : (xs.map V.int).length = xs.length := List.length_map _
  have hA' : SqL K H a (xs.map V.int) := SqL.of hA
  refine ⟨_, rfl, _, _, _, true, rfl, .lst hA, rfl, true, rfl, ?_⟩
  refine iteF ?_
  refine ⟨_, rfl, a, _, rfl, .inl hA', _, rfl, b, _, rfl, .inl hB, rfl, ?_⟩
  rw [decide_eq_true rfl]
  refine ⟨_, rfl, iteF ?_⟩
  refine ⟨_, rfl, b, _, rfl, .inl hB, _, rfl, by omega, by rw [hl]; omega, ?_⟩
  refine for_range (fun i σ H1 => H1 = H ∧ ∃ o, σ = [some (.ref a), some (.ref b), o]) ⟨rfl, _, rfl⟩ ?_ ?_
  · rintro i σ H1 hi ⟨rfl, o, rfl⟩
    have hi' : (0 : Int) + (i : Int) < (xs.length : Int) := by rw [hl] at hi; omega
    have ix := at_nat (ns := xs) (k := 0 + (i : Int)) (by omega) hi'
    refine ⟨_, rfl, _, rfl, a, _, _, _, rfl, rfl, hA', ix, _, rfl, true, rfl, ?_⟩
    refine iteF ?_
    refine ⟨_, rfl, _, rfl, a, _, _, _, rfl, rfl, hA', ix, _, rfl, _, rfl, b, _, _, _, rfl, rfl, hB, ix, rfl, ?_⟩
    rw [decide_eq_true rfl]
    exact ⟨_, rfl, iteF ⟨rfl, _, rfl⟩⟩
  · rintro σ H1 ⟨rfl, _⟩
    exact q
def liesBy (ns : List Int) : Int := ns.getD 0 0 % 3
def thingsBy (ns zs : List Int) : Int := 1 + ns.getD 1 0 % zs.getD (liesBy ns).toNat 0
def marksBy (ns zs : List Int) : List Int := if 0 < ns.getD 2 0 % 3 then (List.range (thingsBy ns zs).toNat).map fun i => ns.getD (3 + i) 0 % (liesBy ns + 2) else (List.range (thingsBy ns zs).toNat).map fun _ => 0
/-- three sizes of one to eight -/
structure Sizes (zs : List Int) : Prop where
  len : zs.length = 3
  each : ∀ z ∈ zs, 1 ≤ z ∧ z ≤ 8
theorem liesBy_lo (ns : List Int) : 0 ≤ liesBy ns := by unfold liesBy; omega
theorem liesBy_hi (ns : List Int) : liesBy ns ≤ 2 := by unfold liesBy; omega
theorem Sizes.at {zs : List Int} (h : Sizes zs) (ns : List Int) : 1 ≤ zs.getD (liesBy ns).toNat 0 ∧ zs.getD (liesBy ns).toNat 0 ≤ 8 := by
  have h1 := liesBy_lo ns
  have h2 := liesBy_hi ns
  have hk : (liesBy ns).toNat < zs.length := by rw [h.len]; omega
  rw [List.getD_eq_getElem?_getD, List.getElem?_eq_getElem hk]
  exact h.each _ (List.getElem_mem hk)
theorem thingsBy_lo {zs : List Int} (h : Sizes zs) (ns : List Int) : 1 ≤ thingsBy ns zs ∧ thingsBy ns zs ≤ 8 := by
  have h1 := h.at ns
  unfold thingsBy
  have h2 := Int.emod_nonneg (ns.getD 1 0) (b := zs.getD (liesBy ns).toNat 0) (by omega)
  have h3 := Int.emod_lt_of_pos (ns.getD 1 0) (b := zs.getD (liesBy ns).toNat 0) (by omega)
  omega
theorem marksBy_len (ns zs : List Int) : (marksBy ns zs).length = (thingsBy ns zs).toNat := by
  unfold marksBy
  split <;> simp
theorem marksBy_good {zs : List Int} (h : Sizes zs) (ns : List Int) : Good (liesBy ns) (marksBy ns zs) := by
  have h1 := liesBy_lo ns
  have h2 := liesBy_hi ns
  have h3 := thingsBy_lo h ns
  refine ⟨h1, h2, by rw [marksBy_len]; omega, by rw [marksBy_len]; omega, fun m hm => ?_⟩
  unfold marksBy at hm
  split at hm
  · obtain ⟨i, _, rfl⟩ := List.mem_map.mp hm
    have h4 := Int.emod_nonneg (ns.getD (3 + i) 0) (b := liesBy ns + 2) (by omega)
    have h5 := Int.emod_lt_of_pos (ns.getD (3 + i) 0) (b := liesBy ns + 2) (by omega)
    omega
  · obtain ⟨i, _, rfl⟩ := List.mem_map.mp hm
    omega
def askedFrom (c t : Int) : Nat → List Int
  | 0 => []
  | k + 1 => if c % 2 = 1 then t :: askedFrom (c / 2) (t + 1) k else askedFrom (c / 2) (t + 1) k
def askedBy (c : Int) (n : Nat) : List Int := askedFrom c 0 n
theorem askedFrom_len (k : Nat) : ∀ c t : Int, (askedFrom c t k).length ≤ k := by
  induction k with
  | zero => intro c t; exact Nat.le_refl _
  | succ k ih =>
    intro c t
    unfold askedFrom
    split
    · exact Nat.succ_le_succ (ih _ _)
    · exact Nat.le_succ_of_le (ih _ _)
theorem askedFrom_rise (k : Nat) : ∀ c t last n : Int, last < t → t + k ≤ n → Rise last n (askedFrom c t k) := by
  induction k with
  | zero => intro c t last n _ _; trivial
  | succ k ih =>
    intro c t last n h1 h2
    unfold askedFrom
    split
    · exact ⟨h1, by omega, ih _ _ _ _ (by omega) (by omega)⟩
    · exact ih _ _ _ _ (by omega) (by omega)
theorem askedBy_rise (c : Int) (k : Nat) : Rise (-1) k (askedBy c k) := askedFrom_rise k c 0 (-1) k (by decide) (by omega)
def lMark (m l : Int) (same : Bool) : Int := if same = true then m else if l < m then m else m + 1
def lAfter (ms : List Int) (l : Int) (qs : List Int) (yes : Bool) : List Int := (List.range ms.length).map fun i => lMark (ms.getD i 0) l (decide (V.bl (isIn qs (i : Int)) = V.bl yes))
theorem lMark_eq {m l : Int} (h : m ≤ l + 1) (same : Bool) : lMark m l same = mAfter m l (!same) := by
  unfold lMark mAfter
  cases same with
  | true => rfl
  | false =>
    simp
    split <;> omega
theorem lAfter_eq {l : Int} {ms : List Int} (g : Good l ms) (qs : List Int) (yes : Bool) : lAfter ms l qs yes = afterM ms l qs yes := by
  unfold lAfter afterM
  refine List.map_congr_left fun i hi => ?_
  have hi' : i < ms.length := List.mem_range.mp hi
  refine lMark_eq ?_ _
  rw [List.getD_eq_getElem?_getD, List.getElem?_eq_getElem hi']
  exact (g.each _ (List.getElem_mem hi')).2
theorem afterM_len (ms : List Int) (l : Int) (qs : List Int) (yes : Bool) : (afterM ms l qs yes).length = ms.length := by
  unfold afterM
  simp
theorem standM_len (ms : List Int) (l : Int) : (standM ms l).length ≤ ms.length := by
  unfold standM
  exact len_filt _ _ _
theorem range_getD (ms : List Int) : (List.range ms.length).map (fun i => ms.getD i 0) = ms := by
  refine List.ext_getElem? fun i => ?_
  rw [List.getElem?_map]
  by_cases h : i < ms.length
  · rw [List.getElem?_range h, List.getElem?_eq_getElem h]
    show some (ms.getD i 0) = _
    rw [List.getD_eq_getElem?_getD, List.getElem?_eq_getElem h]
    rfl
  · rw [List.getElem?_eq_none (by rw [List.length_range]; omega), List.getElem?_eq_none (by omega)]
    rfl
theorem shp1 (ms : List Int) : shp (.list (ms.map PyData.int)) = true := PySem.W.ke_shaped_ints ms
/-- the sign of a mark -/
def sgc (l m : Int) : Nat := if m ≤ l then 48 + m.toNat else 120
def note (l : Int) (ms : List Int) : Str := ⟨(ms.map (sgc l)).toArray⟩
def signsL (l : Int) : Str := ⟨((List.range (l + 1).toNat).map (fun i => 48 + i) ++ [120]).toArray⟩
theorem signs_of {l : Int} (h0 : 0 ≤ l) (h2 : l ≤ 2) : Txt.slice ("012" : Str) none (some (l + 1)) ++ ("x" : Str) = signsL l := by
  rcases (by omega : l = 0 ∨ l = 1 ∨ l = 2) with rfl | rfl | rfl <;> decide +kernel
theorem signs_len {l : Int} (h0 : 0 ≤ l) (h2 : l ≤ 2) : (signsL l).length ≤ 4 := by
  rcases (by omega : l = 0 ∨ l = 1 ∨ l = 2) with rfl | rfl | rfl <;> decide +kernel
theorem lm_cases {l m : Int} (h0 : 0 ≤ l) (h2 : l ≤ 2) (hm : 0 ≤ m) (hm2 : m ≤ l + 1) {P : Int → Int → Prop} (p : P 0 0 ∧ P 0 1 ∧ P 1 0 ∧ P 1 1 ∧ P 1 2 ∧ P 2 0 ∧ P 2 1 ∧ P 2 2 ∧ P 2 3) : P l m := by
  obtain ⟨p1, p2, p3, p4, p5, p6, p7, p8, p9⟩ := p
  rcases (by omega : l = 0 ∨ l = 1 ∨ l = 2) with rfl | rfl | rfl
  · rcases (by omega : m = 0 ∨ m = 1) with rfl | rfl <;> assumption
  · rcases (by omega : m = 0 ∨ m = 1 ∨ m = 2) with rfl | rfl | rfl <;> assumption
  · rcases (by omega : m = 0 ∨ m = 1 ∨ m = 2 ∨ m = 3) with rfl | rfl | rfl | rfl <;> assumption
theorem signs_at {l m : Int} (h0 : 0 ≤ l) (h2 : l ≤ 2) (hm : 0 ≤ m) (hm2 : m ≤ l + 1) : atI (signsL l).cps.toList m = some (sgc l m) :=
  lm_cases h0 h2 hm hm2 (P := fun l m => atI (signsL l).cps.toList m = some (sgc l m)) (by decide +kernel)
theorem signs_find {l m : Int} (h0 : 0 ≤ l) (h2 : l ≤ 2) (hm : 0 ≤ m) (hm2 : m ≤ l + 1) : findT (signsL l) ⟨#[sgc l m]⟩ = m :=
  lm_cases h0 h2 hm hm2 (P := fun l m => findT (signsL l) ⟨#[sgc l m]⟩ = m) (by decide +kernel)
theorem sgc_low {l m : Int} (h2 : l ≤ 2) : sgc l m < 128 := by
  unfold sgc
  split <;> omega
theorem note_snoc (l : Int) (ms : List Int) (m : Int) : note l ms ++ (⟨#[sgc l m]⟩ : Str) = note l (ms ++ [m]) := by
  unfold note
  show (⟨_⟩ : Str) = _
  simp
theorem note_len (l : Int) (ms : List Int) : (note l ms).length = ms.length := by
  unfold note Str.length
  simp
theorem note_join (l : Int) (ms : List Int) : Txt.join ("" : Str) (ms.map fun m => (⟨#[sgc l m]⟩ : Str)) = note l ms := by
  unfold Txt.join Builtin.Str.glued
  have e : (("" : Str)).cps = #[] := by decide +kernel
  have k : ∀ (r : List Int) (acc : Array Nat), (r.map fun m => (⟨#[sgc l m]⟩ : Str)).foldl (fun acc p => acc ++ ("" : Str).cps ++ p.cps) acc = acc ++ (r.map (sgc l)).toArray := by
    intro r
    induction r with
    | nil => intro acc; simp
    | cons x r ih =>
      intro acc
      rw [List.map_cons, List.foldl_cons, ih, e]
      simp
  cases ms with
  | nil => rfl
  | cons x r =>
    show (⟨_⟩ : Str) = _
    rw [List.map_cons, List.drop_succ_cons, List.drop_zero, k]
    unfold note
    simp
theorem joinOk_few (l : Int) (ms : List Int) (h : ms.length ≤ 8) : JoinOk ("" : Str) (ms.map fun m => (⟨#[sgc l m]⟩ : Str)) = true := by
  unfold JoinOk
  have k : ∀ (r : List Int) (n : Nat), (r.map fun m => (⟨#[sgc l m]⟩ : Str)).foldl (fun x y => x + y.length + ("" : Str).length) n = n + r.length := by
    intro r
    have e : (("" : Str)).length = 0 := by decide +kernel
    induction r with
    | nil => intro n; rfl
    | cons x r ih =>
      intro n
      rw [List.map_cons, List.foldl_cons, ih, e]
      show n + 1 + 0 + r.length = n + (r.length + 1)
      omega
  rw [List.foldl_toArray, k]
  have : Builtin.Str.tooLong (0 + ms.length) = false := by
    unfold Builtin.Str.tooLong
    exact decide_eq_false (by have := small1000 (n := 8) (by decide); omega)
  rw [this]
  rfl
theorem sc_signs_by_mark : FnScope ["lies"] ["lies"] (defScope s_signs_by_mark) := ⟨rfl, rfl, rfl, by decide +kernel, rfl, by decide +kernel, by decide +kernel⟩
def sp_signs_by_mark (K : PySem.W.Frag) : Sp := fun vs H Q E => ∃ (l : Int), vs = [.int l] ∧ (0 ≤ l) ∧ (l ≤ 2) ∧ (Q (.str (signsL l)) H)
theorem ok_signs_by_mark (T : Tx K mg "signs_by_mark" ["lies"] s_signs_by_mark) (c_FIGURES : CstS mg "FIGURES" "012") (c_OUT : CstS mg "OUT" "x") : Df P w K mg base (n + 1) "signs_by_mark" ["lies"] (sp_signs_by_mark K) := by
  refine T.ok sc_signs_by_mark (fun vs H Q E h => ?_) (fun f cdv A outer s H vs Q E hr h => ?_)
  · obtain ⟨l, rfl, _⟩ := h
    rfl
  obtain ⟨l, rfl, h0, h2, q⟩ := h
  have nd := sc_signs_by_mark.nd
  refine ⟨_, (pss_one (ps_ret (pe_op op_add_str (pe_slice sl_str (pe_cstS c_FIGURES rfl) po_none (po_some (pe_op op_add (pv 0) pe_int))) (pe_cstS c_OUT rfl)))), ?_⟩
  refine ⟨_, rfl, _, _, rfl, rfl, l + 1, rfl, ("012" : Str), rfl, by decide, _, _, rfl, rfl, ?_, ?_⟩
  · have h1 := Txt.slice_le ("012" : Str) none (some (l + 1))
    have h3 : ("012" : Str).length = 3 := by decide +kernel
    have h4 : ("x" : Str).length = 1 := by decide +kernel
    have h5 := small1000 (n := 4) (by decide)
    omega
  · rw [signs_of h0 h2]
    exact q
/-- a plain text by its signs -/
abbrev txt (cs : List Nat) : Str := ⟨cs.toArray⟩
theorem sgc_all {l : Int} (h : 0 ≤ l ∧ l ≤ 2) : ((List.range 128).all fun c => decide (findT (signsL l) ⟨#[c]⟩ < 0) || (List.range (l + 2).toNat).any fun m => c == sgc l (m : Int)) = true := by
  rcases (by omega : l = 0 ∨ l = 1 ∨ l = 2) with rfl | rfl | rfl <;> decide +kernel
theorem sgc_of {l : Int} (h : 0 ≤ l ∧ l ≤ 2) {c : Nat} (hc : c < 128) (hb : ¬ findT (signsL l) ⟨#[c]⟩ < 0) : ∃ m, c = sgc l m ∧ 0 ≤ m ∧ m ≤ l + 1 := by
  have := List.all_eq_true.mp (sgc_all h) c (List.mem_range.mpr hc)
  rw [Bool.or_eq_true] at this
  rcases this with z | z
  · exact absurd (of_decide_eq_true z) hb
  · obtain ⟨m, hm, e⟩ := List.any_eq_true.mp z
    have hm' := List.mem_range.mp hm
    exact ⟨(m : Int), by simpa using e, by omega, by omega⟩
theorem pack5 {i : Nat} (hi : i < 5) : ([V.bl (0 == i), .bl (1 == i), .bl (2 == i), .bl (3 == i), .bl (4 == i)].countP fun z => eqV z (.bl true)) = 1 ∧ ([V.bl (0 == i), .bl (1 == i), .bl (2 == i), .bl (3 == i), .bl (4 == i)] : List V)[i]? = some (.bl true) ∧
    (∀ (j : Nat) z', j < i → ([V.bl (0 == i), .bl (1 == i), .bl (2 == i), .bl (3 == i), .bl (4 == i)] : List V)[j]? = some z' → eqV z' (.bl true) = false) ∧
    atI ([.str "lies", .str "marks", .str "question", .str "many", .str "note"] : List V) (i : Int) = some (.str ((["lies", "marks", "question", "many", "note"] : List Str).getD i "")) := by
  match i, hi with
  | 0, _ => exact ⟨rfl, rfl, fun j z' hj => absurd hj (Nat.not_lt_zero j), rfl⟩
  | 1, _ => exact ⟨rfl, rfl, fun j z' hj e => by match j, hj, e with | 0, _, e => cases e; rfl, rfl⟩
  | 2, _ => exact ⟨rfl, rfl, fun j z' hj e => by match j, hj, e with | 0, _, e => cases e; rfl | 1, _, e => cases e; rfl, rfl⟩
  | 3, _ => exact ⟨rfl, rfl, fun j z' hj e => by match j, hj, e with | 0, _, e => cases e; rfl | 1, _, e => cases e; rfl | 2, _, e => cases e; rfl, rfl⟩
  | 4, _ => exact ⟨rfl, rfl, fun j z' hj e => by match j, hj, e with | 0, _, e => cases e; rfl | 1, _, e => cases e; rfl | 2, _, e => cases e; rfl | 3, _, e => cases e; rfl, rfl⟩
def badSign (l : Int) (c : Nat) : Prop := findT (signsL l) ⟨#[c]⟩ < 0
theorem good_of {l : Int} (h : 0 ≤ l ∧ l ≤ 2) {cs : List Nat} (ha : ∀ c ∈ cs, c < 128) (h1 : 1 ≤ cs.length) (h8 : cs.length ≤ 8) (hb : ¬ ∃ c ∈ cs, badSign l c) : ∃ ms : List Int, cs = ms.map (sgc l) ∧ Good l ms := by
  have go : ∀ cs : List Nat, (∀ c ∈ cs, c < 128) → (¬ ∃ c ∈ cs, badSign l c) → ∃ ms : List Int, cs = ms.map (sgc l) ∧ ∀ m ∈ ms, 0 ≤ m ∧ m ≤ l + 1 := by
    intro cs
    induction cs with
    | nil => intro _ _; exact ⟨[], rfl, fun _ hm => nomatch hm⟩
    | cons c r ih =>
      intro ha hb
      obtain ⟨ms, e, hm⟩ := ih (fun x hx => ha x (List.mem_cons_of_mem _ hx)) fun ⟨x, hx, hy⟩ => hb ⟨x, List.mem_cons_of_mem _ hx, hy⟩
      obtain ⟨m, e1, m0, m1⟩ := sgc_of h (c := c) (ha c List.mem_cons_self) fun z => hb ⟨c, List.mem_cons_self, z⟩
      refine ⟨m :: ms, by rw [List.map_cons, ← e, ← e1], fun x hx => ?_⟩
      rcases List.mem_cons.mp hx with rfl | hx
      · exact ⟨m0, m1⟩
      · exact hm x hx
  obtain ⟨ms, e, hm⟩ := go cs ha hb
  have hl : ms.length = cs.length := by rw [e, List.length_map]
  exact ⟨ms, e, h.1, h.2, by omega, by omega, hm⟩
theorem sc_mark_of : FnScope ["sign", "signs", "mark"] ["sign", "signs"] (defScope s_mark_of) := ⟨rfl, rfl, rfl, by decide +kernel, rfl, by decide +kernel, by decide +kernel⟩
def sp_mark_of (K : PySem.W.Frag) (C_NoNote : Addr) : Sp := fun vs H Q E => ∃ (l : Int) (c : Nat), vs = [.str ⟨#[c]⟩, .str (signsL l)] ∧ ((0 ≤ findT (signsL l) ⟨#[c]⟩ → Q (.int (findT (signsL l) ⟨#[c]⟩)) H) ∧ (findT (signsL l) ⟨#[c]⟩ < 0 → E (.ref C_NoNote) none H))
theorem ok_mark_of (C_NoNote : Addr) (T : Tx K mg "mark_of" ["sign", "signs"] s_mark_of) (X_NoNote : ExcC K mg "NoNote" C_NoNote) : Df1 P w K mg base (n + 1) "mark_of" ["sign", "signs"] (sp_mark_of K C_NoNote) := by
  refine T.ok1 sc_mark_of (fun vs H Q E h => ?_) (fun f cdv A outer s H vs Q E hr h => ?_)
  · obtain ⟨l, c, rfl, _⟩ := h
    rfl
  obtain ⟨l, c, rfl, q⟩ := h
  have nd := sc_mark_of.nd
  refine ⟨_, (pss_cons (ps_set (i := 2) nd rfl (Or.inl rfl) (pe_bm PySem.F.plainAttrs_str PySem.F.slot_str_find PySem.F.type_str_find mt_find (pv 1) (pa_cons (pv 0) pa_nil))) (pss_cons (ps_if (pt_cmpR op_lt (pv 2) pe_int (nomark _)) (pss_one (ps_raise (ER := fun H' => E (.ref C_NoNote) none H') rfl X_NoNote rfl (pa_cons pe_str pa_nil) (fun pins σ H s ea h' vs I hm hE => xe_made I hm hE))) pss_nil) (pss_one (ps_ret (pv 2))))), ?_⟩
  refine ⟨_, rfl, rfl, _, rfl, _, _, rfl, rfl, ?_⟩
  refine ⟨_, rfl, _, _, rfl, rfl, _, rfl, ?_⟩
  refine ite2 (fun d => ?_) fun d => ?_
  · exact ⟨Nat.le_of_lt (small1000 (by decide)), q.2 (of_decide_eq_true d)⟩
  · have d' : ¬ findT (signsL l) ⟨#[c]⟩ < 0 := of_decide_eq_false (Bool.eq_false_iff.mpr d)
    exact ⟨_, rfl, q.1 (by omega)⟩
theorem sc_read : FnScope ["text", "lies", "signs"] ["text", "lies"] (defScope s_read) := ⟨rfl, rfl, rfl, by decide +kernel, rfl, by decide +kernel, by decide +kernel⟩
def sp_read (K : PySem.W.Frag) (C_NoLies C_NoNote : Addr) : Sp := fun vs H Q E => ∃ (l : Int) (cs : List Nat), vs = [.str (txt cs), .int l] ∧ (∀ c ∈ cs, c < 128) ∧ (cs.length ≤ 20) ∧ ((¬ (0 ≤ l ∧ l ≤ 2) → E (.ref C_NoLies) none H) ∧ (0 ≤ l ∧ l ≤ 2 → ((cs.length < 1 ∨ 8 < cs.length ∨ ∃ c ∈ cs, badSign l c) → ∀ H', Same H H' → E (.ref C_NoNote) none H') ∧ (∀ ms, cs = ms.map (sgc l) → Good l ms → retL H (ms.map V.int) Q)))
theorem ok_read (C_NoLies C_NoNote : Addr) (T : Tx K mg "read" ["text", "lies"] s_read) (D_mark_of : Df1 P w K mg base n "mark_of" ["sign", "signs"] (sp_mark_of K C_NoNote)) (D_signs_by_mark : Df P w K mg base n "signs_by_mark" ["lies"] (sp_signs_by_mark K)) (D_check_lies : Df1 P w K mg base n "check_lies" ["lies"] (sp_check_lies K C_NoLies)) (m_len : mg "len" = none) (c_MOST_THINGS : Cst mg "MOST_THINGS" 8) (X_NoNote : ExcC K mg "NoNote" C_NoNote) : Df1 P w K mg base (n + 1) "read" ["text", "lies"] (sp_read K C_NoLies C_NoNote) := by
  refine T.ok1 sc_read (fun vs H Q E h => ?_) (fun f cdv A outer s H vs Q E hr h => ?_)
  · obtain ⟨l, cs, rfl, _⟩ := h
    rfl
  obtain ⟨l, cs, rfl, ha, hz, q⟩ := h
  have nd := sc_read.nd
  have nbX : List.Nodup (["sign", "text", "lies", "signs"] : List Str) := by decide +kernel
  refine ⟨_, (pss_cons (ps_expr (pe_callD1 D_check_lies hr rfl pass1 (pa_cons (pv 1) pa_nil))) (pss_cons (ps_if (PW.pt (pw_or (pt_cmpR op_lt (pe_callB call_len_str rfl m_len PySem.boot_len (pa_cons (pv 0) pa_nil)) pe_int (nomark _)) (pw_or1 (pt_cmpR op_gt (pe_callB call_len_str rfl m_len PySem.boot_len (pa_cons (pv 0) pa_nil)) (pe_cst c_MOST_THINGS rfl) (nomark _))))) (pss_one (ps_raise (ER := fun H' => E (.ref C_NoNote) none H') rfl X_NoNote rfl (pa_cons pe_str pa_nil) (fun pins σ H s ea h' vs I hm hE => xe_made I hm hE))) pss_nil) (pss_cons (ps_set (i := 2) nd rfl (Or.inr rfl) (pe_callD D_signs_by_mark hr rfl (pa_cons (pv 1) pa_nil))) (pss_one (ps_ret (pe_compX (own := ["sign"]) (BlkScope.mk' (xs := defScope s_read) (N := ["text", "lies", "signs"]) rfl rfl rfl (by decide +kernel)) (pi_str (pv 0)) (fun C s₀ H₀ ex => pg1B nbX) (fun C s₀ H₀ ex => pif_nil) (fun C s₀ H₀ ex EE hp => pe_callD1 D_mark_of hr rfl hp (pa_cons (pv 0) (pa_cons (pv 3) pa_nil))))))))), ?_⟩
  have hl : (txt cs).length = cs.length := by simp [Str.length]
  have big := small1000 (n := 100) (by decide)
  refine ⟨_, rfl, l, rfl, fun hl2 => ?_, q.1⟩
  have q2 := q.2 hl2
  refine ⟨_, rfl, _, rfl, by omega, _, _, rfl, rfl, _, rfl, ?_⟩
  refine ite2 (fun c => ?_) fun c1 => ?_
  · have c' : ((txt cs).length : Int) < 1 := of_decide_eq_true c
    exact ⟨Nat.le_of_lt (small1000 (by decide)), q2.1 (.inl (by omega)) H (Same.refl H)⟩
  refine ⟨_, rfl, _, rfl, by omega, _, _, rfl, rfl, _, rfl, ?_⟩
  refine ite2 (fun c => ?_) fun c2 => ?_
  · have c' : (8 : Int) < ((txt cs).length : Int) := of_decide_eq_true c
    exact ⟨Nat.le_of_lt (small1000 (by decide)), q2.1 (.inr (.inl (by omega))) H (Same.refl H)⟩
  have c1' : ¬ ((txt cs).length : Int) < 1 := of_decide_eq_false (Bool.eq_false_iff.mpr c1)
  have c2' : ¬ (8 : Int) < ((txt cs).length : Int) := of_decide_eq_false (Bool.eq_false_iff.mpr c2)
  rw [hl] at c1' c2'
  refine ⟨_, rfl, l, rfl, hl2.1, hl2.2, ?_⟩
  have hc : (txt cs).cps.size = cs.length := by simp
  refine ⟨_, rfl, _, rfl, ?_, ?_⟩
  · rw [Array.all_eq_true]
    intro i hi
    simp only [List.getElem_toArray]
    exact decide_eq_true (ha _ (List.getElem_mem _))
  refine comp_strR (z := txt cs) (fun i ys H1 => i ≤ cs.length ∧ Same H H1 ∧ ys = (List.range i).map (fun j => V.int (findT (signsL l) ⟨#[cs.getD j 0]⟩)) ∧ ∀ j, j < i → 0 ≤ findT (signsL l) ⟨#[cs.getD j 0]⟩) ⟨Nat.zero_le _, Same.refl H, rfl, fun j hj => absurd hj (Nat.not_lt_zero j)⟩ ?_ ?_ ?_
  · rintro i ys H1 ⟨hi, _, rfl, _⟩
    rw [List.length_map, List.length_range]
    omega
  · rintro i c ys H1 hx ⟨hi, s1, rfl, hg⟩
    have hx' : cs[i]? = some c := by simpa using hx
    have hd : cs.getD i 0 = c := by rw [List.getD_eq_getElem?_getD, hx']; rfl
    have hil : i < cs.length := (List.getElem?_eq_some_iff.mp hx').1
    refine ⟨_, rfl, _, rfl, l, c, rfl, fun h0 => ?_, fun h0 => q2.1 (.inr (.inr ⟨c, List.mem_of_getElem? hx', h0⟩)) H1 s1⟩
    refine ⟨by omega, s1, ?_, fun j hj => ?_⟩
    · rw [List.range_succ, List.map_append, List.map_cons, List.map_nil, hd]
    · rcases Nat.lt_or_ge j i with z | z
      · exact hg j z
      · have : j = i := by omega
        subst this
        rw [hd]
        exact h0
  · rintro ys H1 D ⟨_, s1, rfl, hg⟩ hD
    rw [hc] at hg ⊢
    by_cases hb : ∃ c ∈ cs, badSign l c
    · obtain ⟨c, hc1, hc2⟩ := hb
      obtain ⟨j, hj, rfl⟩ := List.getElem_of_mem hc1
      have := hg j hj
      rw [List.getD_eq_getElem?_getD, List.getElem?_eq_getElem hj] at this
      unfold badSign at hc2
      exact absurd this (by simpa using hc2)
    · obtain ⟨ms, hms, gd⟩ := good_of hl2 ha (by omega) (by omega) hb
      have e : ((List.range cs.length).map fun j => V.int (findT (signsL l) ⟨#[cs.getD j 0]⟩)) = ms.map V.int := by
        subst hms
        refine List.ext_getElem? fun i => ?_
        rw [List.getElem?_map, List.getElem?_map]
        by_cases h : i < ms.length
        · rw [List.getElem?_range (by rw [List.length_map]; exact h), List.getElem?_eq_getElem h]
          have e1 : (ms.map (sgc l)).getD i 0 = sgc l ms[i] := by rw [List.getD_eq_getElem?_getD, List.getElem?_map, List.getElem?_eq_getElem h]; rfl
          have e2 := gd.each ms[i] (List.getElem_mem h)
          show some (V.int (findT (signsL l) ⟨#[(ms.map (sgc l)).getD i 0]⟩)) = some (V.int ms[i])
          rw [e1, signs_find gd.lo gd.hi e2.1 e2.2]
        · rw [List.getElem?_eq_none (by rw [List.length_range, List.length_map]; omega), List.getElem?_eq_none (by omega)]
          rfl
      rw [e]
      exact q2.2 ms hms gd D _ (s1.free hD) (s1.trans (same_new hD _)) upd_same
theorem sc_l_word_of : FnScope ["e", "kinds"] ["e"] (defScope s_l_word_of) := ⟨rfl, rfl, rfl, by decide +kernel, rfl, by decide +kernel, by decide +kernel⟩
def sp_l_word_of (K : PySem.W.Frag) (C_NoLies C_NoMarks C_NoQuestion C_NoMany C_NoNote : Addr) : Sp := fun vs H Q E => ∃ (e : Addr) (C : Addr) (i : Nat), vs = [.ref e] ∧ (H e = some (.ext (ExcAt C e))) ∧ (ErrC K C C_NoLies C_NoMarks C_NoQuestion C_NoMany C_NoNote i) ∧ (i < 5) ∧ (∀ H', Same H H' → Q (.str ((["lies", "marks", "question", "many", "note"] : List Str).getD i "")) H')
theorem ok_l_word_of (C_NoLies C_NoMarks C_NoQuestion C_NoMany C_NoNote : Addr) (T : Tx K mg "_law_word_of" ["e"] s_l_word_of) (m_isinstance : mg "isinstance" = none) (m_ValueError : mg "ValueError" = none) (k_NoNote : mg "NoNote" = some (.ref C_NoNote)) (k_NoMany : mg "NoMany" = some (.ref C_NoMany)) (k_NoQuestion : mg "NoQuestion" = some (.ref C_NoQuestion)) (k_NoMarks : mg "NoMarks" = some (.ref C_NoMarks)) (k_NoLies : mg "NoLies" = some (.ref C_NoLies)) : DfH P w K mg base (n + 1) "_law_word_of" ["e"] (sp_l_word_of K C_NoLies C_NoMarks C_NoQuestion C_NoMany C_NoNote) := by
  refine T.okH sc_l_word_of (fun vs H Q E h => ?_) (fun f cdv A outer s H vs Q E hr h => ?_)
  · obtain ⟨e, C, i, rfl, _⟩ := h
    rfl
  obtain ⟨e, C, i, rfl, he, hK, hi, q⟩ := h
  have nd := sc_l_word_of.nd
  refine ⟨_, (pss_cons (ps_set (i := 1) nd rfl (Or.inl rfl) (pe_lst (pa_cons (pe_callB call_isinstE rfl m_isinstance PyProof.Rows.boot_isinstance (pa_cons (pv 0) (pa_cons (pe_glob (v := .ref C_NoLies) rfl k_NoLies rfl) pa_nil))) (pa_cons (pe_callB call_isinstE rfl m_isinstance PyProof.Rows.boot_isinstance (pa_cons (pv 0) (pa_cons (pe_glob (v := .ref C_NoMarks) rfl k_NoMarks rfl) pa_nil))) (pa_cons (pe_callB call_isinstE rfl m_isinstance PyProof.Rows.boot_isinstance (pa_cons (pv 0) (pa_cons (pe_glob (v := .ref C_NoQuestion) rfl k_NoQuestion rfl) pa_nil))) (pa_cons (pe_callB call_isinstE rfl m_isinstance PyProof.Rows.boot_isinstance (pa_cons (pv 0) (pa_cons (pe_glob (v := .ref C_NoMany) rfl k_NoMany rfl) pa_nil))) pa_nil)))))) (pss_cons (ps_expr (pe_bm PySem.F.plainAttrs_list PySem.F.slot_list_append PySem.F.type_list_append mt_append (pv 1) (pa_cons (pe_callB call_isinstE rfl m_isinstance PyProof.Rows.boot_isinstance (pa_cons (pv 0) (pa_cons (pe_glob (v := .ref C_NoNote) rfl k_NoNote rfl) pa_nil))) pa_nil))) (pss_cons (ps_if (PW.pt (pw_or (pt_cmpR op_ne (pe_bm PySem.F.plainAttrs_list PySem.F.slot_list_count PySem.F.type_list_count mt_count (pv 1) (pa_cons pe_bl pa_nil)) pe_int (nomark _)) (pw_or1 (pt_not (pt_truth (pe_callB call_isinstE rfl m_isinstance PyProof.Rows.boot_isinstance (pa_cons (pv 0) (pa_cons (pe_bltn (v := .ty "ValueError") rfl m_ValueError L2.boot_ValueError rfl) pa_nil))) fun _ => rfl))))) (pss_one ps_never) pss_nil) (pss_one (ps_ret (pe_ix ix_list (pe_lst (pa_cons pe_str (pa_cons pe_str (pa_cons pe_str (pa_cons pe_str (pa_cons pe_str pa_nil)))))) (pe_bm PySem.F.plainAttrs_list PySem.F.slot_list_index PySem.F.type_list_index mt_index (pv 1) (pa_cons pe_bl pa_nil)) (fun _ _ => rfl))))))), ?_⟩
  obtain ⟨cd, hcd⟩ := Option.isSome_iff_exists.mp hK.cs
  obtain ⟨p1, p2, p3, p4⟩ := pack5 hi
  refine ⟨_, rfl, e, C, cd, _, _, _, rfl, he, hK.k, hcd, rfl, hK.t0, ?_⟩
  refine ⟨_, rfl, e, C, cd, _, _, _, rfl, he, hK.k, hcd, rfl, hK.t1, ?_⟩
  refine ⟨_, rfl, e, C, cd, _, _, _, rfl, he, hK.k, hcd, rfl, hK.t2, ?_⟩
  refine ⟨_, rfl, e, C, cd, _, _, _, rfl, he, hK.k, hcd, rfl, hK.t3, ?_⟩
  refine ⟨by show 4 ≤ sizeLine; decide, fun r hr' => ?_⟩
  have s1 := same_new hr' (.lst [.bl (0 == i), .bl (1 == i), .bl (2 == i), .bl (3 == i)])
  refine ⟨_, rfl, .inl ⟨rfl, _, SqL.of upd_same⟩, ?_⟩
  refine ⟨_, rfl, e, C, cd, _, _, _, rfl, s1 _ _ he, hK.k, hcd, rfl, hK.t4, ?_⟩
  refine ⟨r, _, _, rfl, rfl, upd_same, small1000 (by show 4 ≤ 1000; decide), ?_⟩
  have s2 : Same H (upd (upd H r (.lst [.bl (0 == i), .bl (1 == i), .bl (2 == i), .bl (3 == i)])) r (.lst [.bl (0 == i), .bl (1 == i), .bl (2 == i), .bl (3 == i), .bl (4 == i)])) := s1.upd hr'
  have er : (upd (upd H r (.lst [.bl (0 == i), .bl (1 == i), .bl (2 == i), .bl (3 == i)])) r (.lst [.bl (0 == i), .bl (1 == i), .bl (2 == i), .bl (3 == i), .bl (4 == i)])) r = some (.lst [.bl (0 == i), .bl (1 == i), .bl (2 == i), .bl (3 == i), .bl (4 == i)]) := upd_same
  refine ⟨_, rfl, .inl ⟨rfl, _, SqL.of er⟩, r, _, _, rfl, rfl, SqL.of er, rfl, rfl, rfl, ?_⟩
  rw [p1]
  refine ⟨_, rfl, iteF ?_⟩
  refine ⟨_, rfl, e, C, cd, _, _, true, rfl, s2 _ _ he, hK.k, hcd, rfl, hK.tv, _, rfl, iteF ?_⟩
  refine ⟨by show 5 ≤ sizeLine; decide, fun r2 hr2 => ?_⟩
  have s3 := same_new hr2 (.lst [.str "lies", .str "marks", .str "question", .str "many", .str "note"])
  refine ⟨_, rfl, .inl ⟨rfl, _, SqL.of (s3 _ _ er)⟩, r, _, _, i, _, rfl, rfl, SqL.of (s3 _ _ er), rfl, rfl, by show 5 ≤ 1000; decide, p2, rfl, p3, ?_⟩
  exact ⟨r2, _, _, _, rfl, rfl, SqL.of upd_same, p4, q _ (s2.trans s3)⟩
theorem sc_l_tried : FnScope ["text", "lies", "e"] ["text", "lies"] (defScope s_l_tried) := ⟨rfl, rfl, rfl, by decide +kernel, rfl, by decide +kernel, by decide +kernel⟩
def sp_l_tried (K : PySem.W.Frag) (C_LieError C_NoLies C_NoMarks C_NoQuestion C_NoMany C_NoNote : Addr) : Sp := fun vs H Q E => ∃ (l : Int) (cs : List Nat), vs = [.str (txt cs), .int l] ∧ (∀ c ∈ cs, c < 128) ∧ (cs.length ≤ 20) ∧ ((¬ (0 ≤ l ∧ l ≤ 2) → ∀ H', Same H H' → Q (.str "lies") H') ∧ (0 ≤ l ∧ l ≤ 2 → ((cs.length < 1 ∨ 8 < cs.length ∨ ∃ c ∈ cs, badSign l c) → ∀ H', Same H H' → Q (.str "note") H') ∧ (∀ ms, cs = ms.map (sgc l) → Good l ms → retL H (ms.map V.int) Q)))
theorem ok_l_tried (C_LieError C_NoLies C_NoMarks C_NoQuestion C_NoMany C_NoNote : Addr) (T : Tx K mg "_law_tried" ["text", "lies"] s_l_tried) (D_read : Df1 P w K mg base n "read" ["text", "lies"] (sp_read K C_NoLies C_NoNote)) (D_l_word_of : DfH P w K mg base n "_law_word_of" ["e"] (sp_l_word_of K C_NoLies C_NoMarks C_NoQuestion C_NoMany C_NoNote)) (k_LieError : mg "LieError" = some (.ref C_LieError)) (R_NoLies : ErrC K C_NoLies C_NoLies C_NoMarks C_NoQuestion C_NoMany C_NoNote 0) (R_NoNote : ErrC K C_NoNote C_NoLies C_NoMarks C_NoQuestion C_NoMany C_NoNote 4) (M_NoLies : PySem.W.exmOne K (.ref C_NoLies) (.ref C_LieError) = some true) (M_NoNote : PySem.W.exmOne K (.ref C_NoNote) (.ref C_LieError) = some true) : Df P w K mg base (n + 1) "_law_tried" ["text", "lies"] (sp_l_tried K C_LieError C_NoLies C_NoMarks C_NoQuestion C_NoMany C_NoNote) := by
  refine T.ok sc_l_tried (fun vs H Q E h => ?_) (fun f cdv A outer s H vs Q E hr h => ?_)
  · obtain ⟨l, cs, rfl, _⟩ := h
    rfl
  obtain ⟨l, cs, rfl, ha, hz, q⟩ := h
  have nd := sc_l_tried.nd
  refine ⟨_, (pss_one (ps_try (j := 2) rfl ⟨rfl, rfl⟩ nd rfl rfl rfl k_LieError (fun pn Ec Et hp ho => (pss_one (ps_ret (pe_callD1 D_read hr rfl hp (pa_cons (pv 0) (pa_cons (pv 1) pa_nil)))))) (fun ea => (pss_one (ps_ret (pe_callDH D_l_word_of (hr.h _) rfl (pa_cons (pv 2) pa_nil))))))), ?_⟩
  have at2 : ∀ (σ' : St) (ea : Addr), σ'.length = 3 → (σ'.set 2 (some (V.ref ea)))[2]? = some (some (V.ref ea)) := fun σ' ea h => by
    rw [List.getElem?_set]
    simp [h]
  refine ⟨_, rfl, _, rfl, l, cs, rfl, ha, hz, fun h => ?_, fun h => ⟨fun hb H' s' => ?_, fun ms e g => (q.2 h).2 ms e g⟩⟩
  · refine ⟨C_NoLies, rfl, M_NoLies, fun ea σ' hn hlen => ?_⟩
    exact ⟨_, at2 σ' ea hlen, ea, C_NoLies, 0, rfl, upd_same, R_NoLies, by decide, fun H2 s2 => q.1 h H2 ((same_new hn _).trans s2)⟩
  · refine ⟨C_NoNote, rfl, M_NoNote, fun ea σ' hn hlen => ?_⟩
    exact ⟨_, at2 σ' ea hlen, ea, C_NoNote, 4, rfl, upd_same, R_NoNote, by decide, fun H2 s2 => (q.2 h).1 hb H2 (s'.trans ((same_new hn _).trans s2))⟩
theorem exact_of {P R : St → Hp → Prop} {σ : St} {H : Hp} (rest : ∀ σ' H', P σ' H' → R σ' H') (h : P σ H) : R σ H := rest _ _ h
theorem seq_of {t1 t2 : TS} {D : Ends} {σ : St} {H : Hp} (P : St → Hp → Prop) (h2 : ∀ σ' H', P σ' H' → t2 D σ' H') (h1 : (∀ σ' H', P σ' H' → t2 D σ' H') → tSeq t1 t2 D σ H) : tSeq t1 t2 D σ H := h1 h2
theorem cut_to (cs : List Nat) {j : Nat} (h : j ≤ cs.length) : Txt.slice (txt cs) none (some (j : Int)) = txt (cs.take j) := by
  have e : Txt.slice (txt cs) none (some (j : Int)) = StrLaws.sliceText (txt cs) none (some (j : Int)) := rfl
  rw [e, StrLaws.sliceText_to (by simp; omega)]
  simp
theorem cut_from (cs : List Nat) {j : Nat} (h : j ≤ cs.length) : Txt.slice (txt cs) (some (j : Int)) none = txt (cs.drop j) := by
  have e : Txt.slice (txt cs) (some (j : Int)) none = StrLaws.sliceText (txt cs) (some (j : Int)) none := rfl
  rw [e, StrLaws.sliceText_from (by simp; omega)]
  simp
  rw [List.take_of_length_le (by rw [List.length_drop]; omega)]
theorem txt_add (xs ys : List Nat) : txt xs ++ txt ys = txt (xs ++ ys) := by
  show (⟨_⟩ : Str) = _
  simp
theorem txt_len (xs : List Nat) : (txt xs).length = xs.length := by simp [Str.length]
/-- the signs that spoil a note -/
def spoil (l : Int) : List Nat := [49 + l.toNat, 55, 88, 32, 45, 43, 95, 9, 10, 97, 46]
def spoilS (l : Int) : List V := [.str (toString (l + 1)), .str "7", .str "X", .str " ", .str "-", .str "+", .str "_", .str "\t", .str "\n", .str "a", .str "."]
theorem spoil_at {l : Int} (h : 0 ≤ l ∧ l ≤ 2) {k : Int} (h0 : 0 ≤ k) (h1 : k < 11) : ∃ c, atI (spoilS l) k = some (.str (txt [c])) ∧ c < 128 ∧ badSign l c := by
  have all : ∀ i : Nat, i < 11 → ∃ c, atI (spoilS l) (i : Int) = some (.str (txt [c])) ∧ c < 128 ∧ badSign l c := by
    intro i hi
    refine ⟨(spoil l).getD i 0, ?_⟩
    unfold badSign
    rcases (by omega : l = 0 ∨ l = 1 ∨ l = 2) with rfl | rfl | rfl <;>
    · match i, hi with
      | 0, _ => exact ⟨by decide +kernel, by decide +kernel, by decide +kernel⟩
      | 1, _ => exact ⟨by decide +kernel, by decide +kernel, by decide +kernel⟩
      | 2, _ => exact ⟨by decide +kernel, by decide +kernel, by decide +kernel⟩
      | 3, _ => exact ⟨by decide +kernel, by decide +kernel, by decide +kernel⟩
      | 4, _ => exact ⟨by decide +kernel, by decide +kernel, by decide +kernel⟩
      | 5, _ => exact ⟨by decide +kernel, by decide +kernel, by decide +kernel⟩
      | 6, _ => exact ⟨by decide +kernel, by decide +kernel, by decide +kernel⟩
      | 7, _ => exact ⟨by decide +kernel, by decide +kernel, by decide +kernel⟩
      | 8, _ => exact ⟨by decide +kernel, by decide +kernel, by decide +kernel⟩
      | 9, _ => exact ⟨by decide +kernel, by decide +kernel, by decide +kernel⟩
      | 10, _ => exact ⟨by decide +kernel, by decide +kernel, by decide +kernel⟩
  have := all k.toNat (by omega)
  rw [show ((k.toNat : Nat) : Int) = k by omega] at this
  exact this
theorem figs_at {l m : Int} (h2 : l ≤ 2) (h0 : 0 ≤ m) (h : m ≤ l) : atI ([.str "0", .str "1", .str "2"] : List V) m = some (.str (txt [sgc l m])) := by
  unfold sgc
  rw [if_pos h]
  rcases (by omega : m = 0 ∨ m = 1 ∨ m = 2) with rfl | rfl | rfl <;> decide +kernel
theorem x_is {l m : Int} (h : ¬ m ≤ l) : ("x" : Str) = txt [sgc l m] := by
  unfold sgc
  rw [if_neg h]
  decide +kernel
theorem not_bad {l : Int} {ms : List Int} (g : Good l ms) : ¬ ((ms.map (sgc l)).length < 1 ∨ 8 < (ms.map (sgc l)).length ∨ ∃ c ∈ ms.map (sgc l), badSign l c) := by
  have h1 := g.few
  have h8 := g.most
  rintro (h | h | ⟨c, hc, hb⟩)
  · rw [List.length_map] at h; omega
  · rw [List.length_map] at h; omega
  · obtain ⟨m, hm, rfl⟩ := List.mem_map.mp hc
    have e := g.each m hm
    unfold badSign at hb
    rw [signs_find g.lo g.hi e.1 e.2] at hb
    omega
theorem sgc_inj {l : Int} : ∀ {ms ms' : List Int}, 0 ≤ l → l ≤ 2 → (∀ m ∈ ms, 0 ≤ m ∧ m ≤ l + 1) → (∀ m ∈ ms', 0 ≤ m ∧ m ≤ l + 1) → ms.map (sgc l) = ms'.map (sgc l) → ms = ms'
  | [], [], _, _, _, _, _ => rfl
  | [], _ :: _, _, _, _, _, e => by simp at e
  | _ :: _, [], _, _, _, _, e => by simp at e
  | m :: r, m' :: r', l0, l2, h, h', e => by
    rw [List.map_cons, List.map_cons] at e
    injection e with e1 e2
    have a := h m List.mem_cons_self
    have b := h' m' List.mem_cons_self
    have f1 := signs_find l0 l2 a.1 a.2
    rw [e1, signs_find l0 l2 b.1 b.2] at f1
    rw [f1, sgc_inj l0 l2 (fun x hx => h x (List.mem_cons_of_mem _ hx)) (fun x hx => h' x (List.mem_cons_of_mem _ hx)) e2]
theorem two_at' (x u v : Int) : atI ([u, v].map V.int) (x % 2) = some (.int (if x % 2 = 1 then v else u)) := by
  rcases (by omega : x % 2 = 0 ∨ x % 2 = 1) with h | h
  · rw [h]; rfl
  · rw [h]; rfl
def marks14 (ns : List Int) (l : Int) (i : Nat) : List Int := (List.range i).map fun (j : Nat) => ns.getD (2 + j) 0 % (l + 2)
theorem marks14_snoc (ns : List Int) (l : Int) (i : Nat) : marks14 ns l (i + 1) = marks14 ns l i ++ [ns.getD (2 + i) 0 % (l + 2)] := by
  unfold marks14
  rw [List.range_succ, List.map_append]
  rfl
theorem marks14_len (ns : List Int) (l : Int) (i : Nat) : (marks14 ns l i).length = i := by
  unfold marks14
  simp
theorem marks14_each (ns : List Int) {l : Int} (h : 0 ≤ l) (i : Nat) : ∀ m ∈ marks14 ns l i, 0 ≤ m ∧ m ≤ l + 1 := fun m hm => by
  unfold marks14 at hm
  obtain ⟨j, _, rfl⟩ := List.mem_map.mp hm
  have h4 := Int.emod_nonneg (ns.getD (2 + j) 0) (b := l + 2) (by omega)
  have h5 := Int.emod_lt_of_pos (ns.getD (2 + j) 0) (b := l + 2) (by omega)
  omega
theorem sgc_lows {l : Int} (h2 : l ≤ 2) (ms : List Int) : ∀ c ∈ ms.map (sgc l), c < 128 := fun c hc => by
  obtain ⟨m, _, rfl⟩ := List.mem_map.mp hc
  exact sgc_low h2
theorem sc_law : FnScope ["script", "lies", "text", "due", "k", "mark", "good", "at", "some", "found"] ["script"] (defScope s_law) := ⟨rfl, rfl, rfl, by decide +kernel, rfl, by decide +kernel, by decide +kernel⟩
def sp_law (K : PySem.W.Frag) : Sp := fun vs H Q E => ∃ (a : Addr) (ns : List Int), vs = [.ref a] ∧ (SqL K H a (ns.map V.int)) ∧ (ns.length ≤ 63) ∧ (∀ H', Q (.bl true) H')
theorem ok_law (T : Tx K mg "law" ["script"] s_law) (D_l_is_list : Df P w K mg base n "_law_is_list" ["found", "due"] (sp_l_is_list K)) (D_l_tried : Df P w K mg base n "_law_tried" ["text", "lies"] (sp_l_tried K C_LieError C_NoLies C_NoMarks C_NoQuestion C_NoMany C_NoNote)) (D_l_cell_at : Df P w K mg base n "_law_cell_at" ["script", "k"] (sp_l_cell_at K)) (m_len : mg "len" = none) (m_str : mg "str" = none) (m_range : mg "range" = none) : Df P w K mg base (n + 1) "law" ["script"] (sp_law K) := by
  refine T.ok sc_law (fun vs H Q E h => ?_) (fun f cdv A outer s H vs Q E hr h => ?_)
  · obtain ⟨a, ns, rfl, _⟩ := h
    rfl
  obtain ⟨a, ns, rfl, hS, h63, q⟩ := h
  have nd := sc_law.nd
  refine ⟨_, (pss_cons (ps_set (i := 1) nd rfl (Or.inl rfl) (pe_op op_mod (pe_callD D_l_cell_at hr rfl (pa_cons (pv 0) (pa_cons pe_int pa_nil))) pe_int)) (pss_cons (ps_set (i := 2) nd rfl (Or.inl rfl) pe_str) (pss_cons (ps_set (i := 3) nd rfl (Or.inl rfl) (pe_lst pa_nil)) (pss_cons (ps_for PassesOwn.never rfl (pi_range1 rfl m_range (pa_cons (pe_op op_mod (pe_callD D_l_cell_at hr rfl (pa_cons (pv 0) (pa_cons pe_int pa_nil))) pe_int) pa_nil)) (pg_name (i := 4) nd rfl (Or.inl rfl)) (pss_cons (ps_set (i := 5) nd rfl (Or.inl rfl) (pe_op op_mod (pe_callD D_l_cell_at hr rfl (pa_cons (pv 0) (pa_cons (pe_op op_add pe_int (pv 4)) pa_nil))) (pe_op op_add (pv 1) pe_int))) (pss_cons (ps_expr (pe_bm PySem.F.plainAttrs_list PySem.F.slot_list_append PySem.F.type_list_append mt_append (pv 3) (pa_cons (pv 5) pa_nil))) (pss_one (ps_set (i := 2) nd rfl (Or.inl rfl) (pe_ifExp (pt_cmpR op_le (pv 5) (pv 1) (nomark _)) (pe_op op_add_str (pv 2) (pe_ix ix_list (pe_lst (pa_cons pe_str (pa_cons pe_str (pa_cons pe_str pa_nil)))) (pv 5) (fun _ _ => rfl))) (pe_op op_add_str (pv 2) pe_str))))))) (pss_cons (ps_set (i := 6) nd rfl (Or.inl rfl) (pe_chain op_le op_le pe_int (pe_callB call_len_seq rfl m_len PySem.boot_len (pa_cons (pv 3) pa_nil)) pe_int)) (pss_cons (ps_if (PW.pt (pw_and (pt_cmpR op_gt (pe_callB call_len_seq rfl m_len PySem.boot_len (pa_cons (pv 3) pa_nil)) pe_int (nomark _)) (pw_and1 (pt_cmpR op_eq (pe_op op_mod (pe_callD D_l_cell_at hr rfl (pa_cons (pv 0) (pa_cons pe_int pa_nil))) pe_int) pe_int (nomark _))))) (pss_cons (ps_set (i := 7) nd rfl (Or.inl rfl) (pe_op op_mod (pe_callD D_l_cell_at hr rfl (pa_cons (pv 0) (pa_cons pe_int pa_nil))) (pe_callB call_len_seq rfl m_len PySem.boot_len (pa_cons (pv 3) pa_nil)))) (pss_cons (ps_set (i := 8) nd rfl (Or.inl rfl) (pe_lst (pa_cons (pe_callTy call_str_int rfl m_str PyProof.Rows.boot_str (pa_cons (pe_op op_add (pv 1) pe_int) pa_nil)) (pa_cons pe_str (pa_cons pe_str (pa_cons pe_str (pa_cons pe_str (pa_cons pe_str (pa_cons pe_str (pa_cons pe_str (pa_cons pe_str (pa_cons pe_str (pa_cons pe_str pa_nil))))))))))))) (pss_cons (ps_set (i := 2) nd rfl (Or.inl rfl) (pe_op op_add_str (pe_op op_add_str (pe_slice sl_str (pv 2) po_none (po_some (pv 7))) (pe_ix ix_list (pv 8) (pe_op op_mod (pe_callD D_l_cell_at hr rfl (pa_cons (pv 0) (pa_cons pe_int pa_nil))) pe_int) (fun _ _ => rfl))) (pe_slice sl_str (pv 2) (po_some (pe_op op_add (pv 7) pe_int)) po_none))) (pss_one (ps_set (i := 6) nd rfl (Or.inl rfl) pe_bl))))) pss_nil) (pss_cons (ps_if (pt_cmpR op_eq (pe_op op_mod (pe_callD D_l_cell_at hr rfl (pa_cons (pv 0) (pa_cons pe_int pa_nil))) pe_int) pe_int (nomark _)) (pss_one (ps_ret (pe_cmpR op_eq (pe_callD D_l_tried hr rfl (pa_cons (pv 2) (pa_cons (pe_ix ix_list (pe_lst (pa_cons (pe_un un_neg pe_int) (pa_cons pe_int pa_nil))) (pe_op op_mod (pe_op op_fdiv (pe_callD D_l_cell_at hr rfl (pa_cons (pv 0) (pa_cons pe_int pa_nil))) pe_int) pe_int) (fun _ _ => rfl)) pa_nil))) pe_str (nomark _)))) pss_nil) (pss_cons (ps_set (i := 9) nd rfl (Or.inl rfl) (pe_callD D_l_tried hr rfl (pa_cons (pv 2) (pa_cons (pv 1) pa_nil)))) (pss_cons (ps_if (pt_not (pt_truth (pv 6) fun _ => rfl)) (pss_one (ps_ret (pe_cmpR op_eq (pv 9) pe_str (nomark _)))) pss_nil) (pss_one (ps_ret (pe_callD D_l_is_list hr rfl (pa_cons (pv 9) (pa_cons (pv 3) pa_nil)))))))))))))), ?_⟩
  have l1 := liesBy_lo ns
  have l2 := liesBy_hi ns
  have big := small1000 (n := 100) (by decide)
  refine ⟨_, rfl, a, ns, 0, rfl, hS, Int.le_refl 0, _, _, rfl, rfl, by show (0 : Int) < 3; decide, ?_⟩
  generalize hl : liesBy ns = l at l1 l2
  have hl' : (fun i j => V.int (i % j)) (ns.getD (0 : Int).toNat 0) 3 = V.int l := congrArg V.int hl
  rw [hl']
  refine ⟨by show 0 ≤ sizeLine; decide, fun r hr' => ?_⟩
  have s0 := same_new hr' (.lst [])
  obtain ⟨n, hn, hn10⟩ : ∃ n : Nat, ns.getD 1 0 % 11 = (n : Int) ∧ n ≤ 10 := ⟨(ns.getD 1 0 % 11).toNat, by omega, by omega⟩
  refine ⟨_, rfl, a, ns, 1, rfl, s0.seq hS, by decide, _, _, rfl, rfl, by show (0 : Int) < 11; decide, (n : Int), congrArg (fun x => [V.int x]) hn, by omega, by omega, ?_⟩
  have zn : ((n : Int)).toNat = n := by omega
  rw [zn]
  refine for_range (n := n) (fun i σ H1 => i ≤ n ∧ Same H H1 ∧ H1 r = some (.lst ((marks14 ns l i).map V.int)) ∧ ∃ o4 o5, σ = [some (.ref a), some (.int l), some (.str (txt ((marks14 ns l i).map (sgc l)))), some (.ref r), o4, o5, none, none, none, none]) ⟨Nat.zero_le _, s0, upd_same, none, none, rfl⟩ ?_ ?_
  · rintro i σ H1 hi ⟨_, s1, e1, o4, o5, rfl⟩
    have z2 : (2 + (0 + (i : Int))).toNat = 2 + i := by omega
    refine ⟨_, rfl, _, rfl, _, _, rfl, rfl, a, ns, 2 + (0 + (i : Int)), rfl, s1.seq hS, by omega, _, rfl, _, _, rfl, rfl, _, _, rfl, rfl, by show 0 < l + 2; omega, ?_⟩
    rw [z2]
    obtain ⟨m, hm⟩ : ∃ m, ns.getD (2 + i) 0 % (l + 2) = m := ⟨_, rfl⟩
    have mr : 0 ≤ m ∧ m ≤ l + 1 := by
      have h4 := Int.emod_nonneg (ns.getD (2 + i) 0) (b := l + 2) (by omega)
      have h5 := Int.emod_lt_of_pos (ns.getD (2 + i) 0) (b := l + 2) (by omega)
      omega
    have sn := marks14_snoc ns l i
    rw [hm] at sn
    have hm' : (fun i j => V.int (i % j)) (ns.getD (2 + i) 0) (l + 2) = V.int m := congrArg V.int hm
    rw [hm']
    have ml := marks14_len ns l i
    refine ⟨_, rfl, .inl ⟨rfl, _, SqL.of e1⟩, _, rfl, r, _, _, rfl, rfl, e1, small1000 (by rw [List.length_map, ml]; omega), ?_⟩
    have s2 : Same H (upd H1 r (.lst ((marks14 ns l i).map V.int ++ [.int m]))) := s1.upd hr'
    have e2 : (upd H1 r (.lst ((marks14 ns l i).map V.int ++ [.int m]))) r = some (.lst ((marks14 ns l (i + 1)).map V.int)) := by rw [upd_same, sn, List.map_append]; rfl
    have tl : (txt ((marks14 ns l i).map (sgc l))).length = i := by rw [txt_len, List.length_map, ml]
    have tn : txt ((marks14 ns l i).map (sgc l)) ++ txt [sgc l m] = txt ((marks14 ns l (i + 1)).map (sgc l)) := by rw [txt_add, sn, List.map_append]; rfl
    refine ⟨_, rfl, _, rfl, _, _, rfl, rfl, _, rfl, ?_⟩
    refine ite2 (fun c => ?_) fun c => ?_
    · have c' : m ≤ l := of_decide_eq_true c
      refine ⟨_, rfl, by show 3 ≤ sizeLine; decide, fun p3 hp3 => ?_⟩
      have s3 := same_new hp3 (.lst [.str "0", .str "1", .str "2"])
      refine ⟨_, rfl, p3, _, _, _, rfl, rfl, SqL.of upd_same, figs_at l2 mr.1 c', _, _, rfl, rfl, by rw [tl, txt_len, List.length_singleton]; omega, ?_⟩
      rw [tn]
      exact ⟨by omega, s2.trans s3, s3 _ _ e2, _, _, rfl⟩
    · have c' : ¬ m ≤ l := of_decide_eq_false (Bool.eq_false_iff.mpr c)
      have xl : ("x" : Str).length = 1 := by decide +kernel
      refine ⟨_, rfl, _, _, rfl, rfl, by rw [tl, xl]; omega, ?_⟩
      rw [x_is c', tn]
      exact ⟨by omega, s2, e2, _, _, rfl⟩
  · rintro σ H1 ⟨_, s1, e1, o4, o5, rfl⟩
    have ml := marks14_len ns l n
    have me := marks14_each ns l1 n
    generalize marks14 ns l n = ms at e1 ml me
    have hl : (ms.map V.int).length = n := by rw [List.length_map, ml]
    have hln : (ms.map V.int).length = ms.length := List.length_map _
    -- good
    obtain ⟨gd, hgd⟩ : ∃ gd : Bool, gd = (decide (1 ≤ n) && decide (n ≤ 8)) := ⟨_, rfl⟩
    dsimp only
    refine seq_of (fun σ' H3 => H3 = H1 ∧ σ' = [some (.ref a), some (.int l), some (.str (txt (ms.map (sgc l)))), some (.ref r), o4, o5, some (.bl gd), none, none, none]) ?_ fun rest => ?_
    · rintro σ' H3 ⟨rfl, rfl⟩
      refine seq_of (fun σ' H3 => Same H H3 ∧ H3 r = some (.lst (ms.map V.int)) ∧ ∃ (cs : List Nat) (gd : Bool) (o7 o8 : Option V), (∀ c ∈ cs, c < 128) ∧ cs.length ≤ 20 ∧ (gd = true → cs = ms.map (sgc l) ∧ Good l ms) ∧ (gd = false → (cs.length < 1 ∨ 8 < cs.length ∨ ∃ c ∈ cs, badSign l c)) ∧
        σ' = [some (.ref a), some (.int l), some (.str (txt cs)), some (.ref r), o4, o5, some (.bl gd), o7, o8, none]) ?_ fun rest => ?_
      · rintro σ' H4 ⟨s4, e4, cs, gd, o7, o8, ha, hz, hg, hb, rfl⟩
        have hS4 := s4.seq hS
        refine ⟨_, rfl, a, ns, 17, rfl, hS4, by decide, _, _, rfl, rfl, by show (0 : Int) < 4; decide, rfl, _, rfl, ?_⟩
        refine ite2 (fun c => ?_) fun c => ?_
        · refine ⟨_, rfl, _, rfl, by show 2 ≤ sizeLine; decide, fun p2 hp2 => ?_⟩
          have s5 := same_new hp2 (.lst [.int (-1), .int 3])
          refine ⟨_, rfl, a, ns, 17, rfl, s5.seq hS4, by decide, _, _, rfl, rfl, ⟨by decide, by decide⟩, _, _, rfl, rfl, by show (0 : Int) < 2; decide, p2, _, _, _, rfl, rfl, SqL.of upd_same, two_at' _ (-1) 3, ?_⟩
          refine ⟨_, cs, rfl, ha, hz, fun _ H6 s6 => ⟨rfl, ?_⟩, fun h => absurd h (by split <;> omega)⟩
          rw [decide_eq_true rfl]
          exact q H6
        · refine ⟨_, rfl, _, rfl, l, cs, rfl, ha, hz, fun h => absurd ⟨l1, l2⟩ h, fun _ => ⟨fun h H6 s6 => ?_, fun ms' hms' g' rf H6 hrf s6 ef => ?_⟩⟩
          · cases gd with
            | true =>
              obtain ⟨z1, z2⟩ := hg rfl
              subst z1
              exact absurd h (not_bad z2)
            | false =>
              refine ⟨_, rfl, _, rfl, iteT ?_⟩
              refine ⟨_, rfl, rfl, ?_⟩
              rw [decide_eq_true rfl]
              exact q H6
          · cases gd with
            | false =>
              subst hms'
              exact absurd (hb rfl) (not_bad g')
            | true =>
              obtain ⟨z1, z2⟩ := hg rfl
              have e := sgc_inj l1 l2 g'.each z2.each (hms'.symm.trans z1)
              subst e
              refine ⟨_, rfl, _, rfl, iteF ?_⟩
              exact ⟨_, rfl, _, rfl, rf, r, _, rfl, ef, SqL.of (s6 _ _ e4), by have := z2.most; omega, q H6⟩
      · have stay : Same H H3 ∧ H3 r = some (.lst (ms.map V.int)) ∧ ∃ (cs : List Nat) (gd' : Bool) (o7 o8 : Option V), (∀ c ∈ cs, c < 128) ∧ cs.length ≤ 20 ∧ (gd' = true → cs = ms.map (sgc l) ∧ Good l ms) ∧ (gd' = false → (cs.length < 1 ∨ 8 < cs.length ∨ ∃ c ∈ cs, badSign l c)) ∧
            ([some (.ref a), some (.int l), some (.str (txt (ms.map (sgc l)))), some (.ref r), o4, o5, some (.bl gd), none, none, none] : St) = [some (.ref a), some (.int l), some (.str (txt cs)), some (.ref r), o4, o5, some (.bl gd'), o7, o8, none] := by
          refine ⟨s1, e1, ms.map (sgc l), gd, none, none, sgc_lows l2 ms, by rw [List.length_map, ml]; omega, fun h => ⟨rfl, l1, l2, ?_, ?_, me⟩, fun h => ?_, rfl⟩
          · rw [hgd, Bool.and_eq_true] at h
            have := of_decide_eq_true h.1
            omega
          · rw [hgd, Bool.and_eq_true] at h
            have := of_decide_eq_true h.2
            omega
          · rw [List.length_map, ml]
            rw [hgd, Bool.and_eq_false_iff] at h
            rcases h with h | h
            · have := of_decide_eq_false h
              exact .inl (by omega)
            · have := of_decide_eq_false h
              exact .inr (.inl (by omega))
        have hS3 := s1.seq hS
        refine ⟨_, rfl, r, _, rfl, .inl (SqL.of e1), _, _, rfl, rfl, _, rfl, ?_⟩
        refine ite2 (fun c0 => ?_) fun c0 => exact_of rest stay
        have c0' : (0 : Int) < ((ms.map V.int).length : Int) := of_decide_eq_true c0
        refine ⟨_, rfl, a, ns, 14, rfl, hS3, by decide, _, _, rfl, rfl, by show (0 : Int) < 2; decide, rfl, _, rfl, ?_⟩
        refine ite2 (fun c => ?_) fun c => exact_of rest stay
        obtain ⟨j, hj, hjl⟩ : ∃ j : Nat, ns.getD 15 0 % (((ms.map V.int).length : Nat) : Int) = (j : Int) ∧ j < ms.length := by
          have a1 := Int.emod_nonneg (ns.getD 15 0) (b := (((ms.map V.int).length : Nat) : Int)) (by omega)
          have a2 := Int.emod_lt_of_pos (ns.getD 15 0) (b := (((ms.map V.int).length : Nat) : Int)) (by omega)
          exact ⟨(ns.getD 15 0 % (((ms.map V.int).length : Nat) : Int)).toNat, by omega, by omega⟩
        have hj' : (fun i j => V.int (i % j)) (ns.getD (15 : Int).toNat 0) (((ms.map V.int).length : Nat) : Int) = V.int (j : Int) := congrArg V.int hj
        refine ⟨_, rfl, a, ns, 15, rfl, hS3, by decide, _, rfl, r, _, rfl, .inl (SqL.of e1), _, _, rfl, rfl, c0', ?_⟩
        rw [hj']
        -- some
        refine ⟨_, rfl, _, _, rfl, rfl, l + 1, rfl, ?_, by show 11 ≤ sizeLine; decide, fun ps hps => ?_⟩
        · rcases (by omega : l = 0 ∨ l = 1 ∨ l = 2) with rfl | rfl | rfl <;> decide +kernel
        have s5 := same_new hps (.lst (spoilS l))
        obtain ⟨k, hk, hk0, hk1⟩ : ∃ k : Int, ns.getD 16 0 % 11 = k ∧ 0 ≤ k ∧ k < 11 := ⟨_, rfl, by omega, by omega⟩
        obtain ⟨c9, at9, low9, bad9⟩ := spoil_at ⟨l1, l2⟩ hk0 hk1
        have hk' : (fun i j => V.int (i % j)) (ns.getD (16 : Int).toNat 0) 11 = V.int k := congrArg V.int hk
        have tl : (txt (ms.map (sgc l))).length ≤ 10 := by rw [txt_len, List.length_map]; omega
        have mll : (ms.map (sgc l)).length = ms.length := List.length_map _
        refine ⟨_, rfl, _, rfl, (j : Int), rfl, _, rfl, by omega, _, rfl, _, rfl, a, ns, 16, rfl, s5.seq hS3, by decide, _, _, rfl, rfl, by show (0 : Int) < 11; decide, ps, _, k, _, rfl, hk', SqL.of upd_same, at9, _, _, rfl, rfl, ?_, ?_⟩
        · rw [cut_to _ (by omega), txt_len, txt_len, List.length_take]
          show min j _ + 1 ≤ sizeLine
          omega
        have j1 : (j : Int) + 1 = ((j + 1 : Nat) : Int) := by omega
        refine ⟨_, rfl, _, rfl, _, _, rfl, rfl, ((j + 1 : Nat) : Int), congrArg V.int j1, _, rfl, by omega, ?_⟩
        rw [cut_to _ (by omega), cut_from _ (by omega), txt_add]
        refine ⟨_, _, rfl, rfl, ?_, ?_⟩
        · rw [txt_len, txt_len, List.length_append, List.length_take, List.length_drop]
          show min j _ + 1 + _ ≤ sizeLine
          omega
        rw [txt_add]
        refine rest _ _ ⟨s1.trans s5, s5 _ _ e1, (ms.map (sgc l)).take j ++ [c9] ++ (ms.map (sgc l)).drop (j + 1), false, _, _, fun c hc => ?_, ?_, fun h => absurd h (by decide), fun _ => .inr (.inr ⟨c9, by simp, bad9⟩), rfl⟩
        · rcases List.mem_append.mp hc with hc | hc
          · rcases List.mem_append.mp hc with hc | hc
            · exact sgc_lows l2 ms c (List.mem_of_mem_take hc)
            · have : c = c9 := by simpa using hc
              subst this
              exact low9
          · exact sgc_lows l2 ms c (List.mem_of_mem_drop hc)
        · simp only [List.length_append, List.length_take, List.length_drop, List.length_singleton]
          omega
    · refine ⟨_, rfl, r, _, rfl, .inl (SqL.of e1), _, _, rfl, rfl, _, rfl, ?_⟩
      refine ite2 (fun c => ?_) fun c => ?_
      · have c' : (1 : Int) ≤ ((ms.map V.int).length : Int) := of_decide_eq_true c
        refine ⟨_, _, rfl, rfl, rest _ _ ⟨rfl, ?_⟩⟩
        have e : gd = decide (((ms.map V.int).length : Int) ≤ 8) := by
          rw [hgd, hl]
          have : decide (1 ≤ n) = true := decide_eq_true (by omega)
          rw [this, Bool.true_and]
          exact decide_eq_decide.mpr (by omega)
        rw [e]
        rfl
      · have c' : ¬ (1 : Int) ≤ ((ms.map V.int).length : Int) := of_decide_eq_false (Bool.eq_false_iff.mpr c)
        refine rest _ _ ⟨rfl, ?_⟩
        have e : gd = false := by
          rw [hgd]
          have : decide (1 ≤ n) = false := decide_eq_false (by omega)
          rw [this]
          rfl
        rw [e]
        rfl
end
end My

namespace My
open PySem L2
theorem all_mk {l : PySem.W.OpenLaw} {w : World} {K : PySem.W.Frag} {h : Heap} {mg : Str → Option Value} {fa f0 f1 f2 f3 f4 f5 f6 f7 f8 f9 : Addr} (X : K.In h) (G : h.Ns mainGlobals mg) (hfa : mg "law" = some (.ref fa))
    {od0 an0 od1 an1 od2 an2 od3 an3 od4 an4 od5 an5 od6 an6 od7 an7 od8 an8 od9 an9 : Option Addr} {sl0 sl1 sl2 sl3 sl4 sl5 sl6 sl7 sl8 sl9 : Array (Option Value)} {oc0 kV0 dc0 pm0 cd0 ct0 oc1 kV1 dc1 pm1 cd1 ct1 oc2 kV2 dc2 pm2 cd2 ct2 oc3 kV3 dc3 pm3 cd3 ct3 oc4 kV4 dc4 pm4 cd4 ct4 oc5 kV5 dc5 pm5 cd5 ct5 oc6 kV6 dc6 pm6 cd6 ct6 oc7 kV7 dc7 pm7 cd7 ct7 oc8 kV8 dc8 pm8 cd8 ct8 oc9 kV9 dc9 pm9 cd9 ct9 : Value}
    (a0 : PySem.W.nsIn K mainGlobals "check_lies" = some (some (.ref f0))) (l0 : K.lookup f0 = some ⟨oc0, od0, .func (PySem.W.fnOf "check_lies" "check_lies" (defArgs s_check_lies) (defBody s_check_lies) (defScope s_check_lies) .none kV0 dc0 pm0 an0 cd0 ct0), sl0⟩) (c0 : PySem.W.codeIn K cd0 "check_lies" = true) (k0 : PySem.W.keepIn K (.ref f0) = true)
    (a1 : PySem.W.nsIn K mainGlobals "_law_cell_at" = some (some (.ref f1))) (l1 : K.lookup f1 = some ⟨oc1, od1, .func (PySem.W.fnOf "_law_cell_at" "_law_cell_at" (defArgs s_l_cell_at) (defBody s_l_cell_at) (defScope s_l_cell_at) .none kV1 dc1 pm1 an1 cd1 ct1), sl1⟩) (c1 : PySem.W.codeIn K cd1 "_law_cell_at" = true) (k1 : PySem.W.keepIn K (.ref f1) = true)
    (a2 : PySem.W.nsIn K mainGlobals "_law_whole" = some (some (.ref f2))) (l2 : K.lookup f2 = some ⟨oc2, od2, .func (PySem.W.fnOf "_law_whole" "_law_whole" (defArgs s_l_whole) (defBody s_l_whole) (defScope s_l_whole) .none kV2 dc2 pm2 an2 cd2 ct2), sl2⟩) (c2 : PySem.W.codeIn K cd2 "_law_whole" = true) (k2 : PySem.W.keepIn K (.ref f2) = true)
    (a3 : PySem.W.nsIn K mainGlobals "_law_is_list" = some (some (.ref f3))) (l3 : K.lookup f3 = some ⟨oc3, od3, .func (PySem.W.fnOf "_law_is_list" "_law_is_list" (defArgs s_l_is_list) (defBody s_l_is_list) (defScope s_l_is_list) .none kV3 dc3 pm3 an3 cd3 ct3), sl3⟩) (c3 : PySem.W.codeIn K cd3 "_law_is_list" = true) (k3 : PySem.W.keepIn K (.ref f3) = true)
    (a4 : PySem.W.nsIn K mainGlobals "signs_by_mark" = some (some (.ref f4))) (l4 : K.lookup f4 = some ⟨oc4, od4, .func (PySem.W.fnOf "signs_by_mark" "signs_by_mark" (defArgs s_signs_by_mark) (defBody s_signs_by_mark) (defScope s_signs_by_mark) .none kV4 dc4 pm4 an4 cd4 ct4), sl4⟩) (c4 : PySem.W.codeIn K cd4 "signs_by_mark" = true) (k4 : PySem.W.keepIn K (.ref f4) = true)
    (a5 : PySem.W.nsIn K mainGlobals "mark_of" = some (some (.ref f5))) (l5 : K.lookup f5 = some ⟨oc5, od5, .func (PySem.W.fnOf "mark_of" "mark_of" (defArgs s_mark_of) (defBody s_mark_of) (defScope s_mark_of) .none kV5 dc5 pm5 an5 cd5 ct5), sl5⟩) (c5 : PySem.W.codeIn K cd5 "mark_of" = true) (k5 : PySem.W.keepIn K (.ref f5) = true)
    (a6 : PySem.W.nsIn K mainGlobals "read" = some (some (.ref f6))) (l6 : K.lookup f6 = some ⟨oc6, od6, .func (PySem.W.fnOf "read" "read" (defArgs s_read) (defBody s_read) (defScope s_read) .none kV6 dc6 pm6 an6 cd6 ct6), sl6⟩) (c6 : PySem.W.codeIn K cd6 "read" = true) (k6 : PySem.W.keepIn K (.ref f6) = true)
    (a7 : PySem.W.nsIn K mainGlobals "_law_word_of" = some (some (.ref f7))) (l7 : K.lookup f7 = some ⟨oc7, od7, .func (PySem.W.fnOf "_law_word_of" "_law_word_of" (defArgs s_l_word_of) (defBody s_l_word_of) (defScope s_l_word_of) .none kV7 dc7 pm7 an7 cd7 ct7), sl7⟩) (c7 : PySem.W.codeIn K cd7 "_law_word_of" = true) (k7 : PySem.W.keepIn K (.ref f7) = true)
    (a8 : PySem.W.nsIn K mainGlobals "_law_tried" = some (some (.ref f8))) (l8 : K.lookup f8 = some ⟨oc8, od8, .func (PySem.W.fnOf "_law_tried" "_law_tried" (defArgs s_l_tried) (defBody s_l_tried) (defScope s_l_tried) .none kV8 dc8 pm8 an8 cd8 ct8), sl8⟩) (c8 : PySem.W.codeIn K cd8 "_law_tried" = true) (k8 : PySem.W.keepIn K (.ref f8) = true)
    (a9 : PySem.W.nsIn K mainGlobals "law" = some (some (.ref f9))) (l9 : K.lookup f9 = some ⟨oc9, od9, .func (PySem.W.fnOf "law" "law" (defArgs s_law) (defBody s_law) (defScope s_law) .none kV9 dc9 pm9 an9 cd9 ct9), sl9⟩) (c9 : PySem.W.codeIn K cd9 "law" = true) (k9 : PySem.W.keepIn K (.ref f9) = true)
    (z0 : PySem.W.nsIn K mainGlobals "len" = some none)
    (z1 : PySem.W.nsIn K mainGlobals "isinstance" = some none)
    (z2 : PySem.W.nsIn K mainGlobals "bool" = some none)
    (z3 : PySem.W.nsIn K mainGlobals "int" = some none)
    (z4 : PySem.W.nsIn K mainGlobals "range" = some none)
    (z5 : PySem.W.nsIn K mainGlobals "list" = some none)
    (z6 : PySem.W.nsIn K mainGlobals "ValueError" = some none)
    (z7 : PySem.W.nsIn K mainGlobals "str" = some none)
    {gv0 : Value} (cn0 : PySem.W.nsIn K mainGlobals "MOST_LIES" = some (some gv0)) (cr0 : RelV (.int 2) gv0)
    {gv1 : Value} (cn1 : PySem.W.nsIn K mainGlobals "FIGURES" = some (some gv1)) (cr1 : RelV (.str "012") gv1)
    {gv2 : Value} (cn2 : PySem.W.nsIn K mainGlobals "OUT" = some (some gv2)) (cr2 : RelV (.str "x") gv2)
    {gv3 : Value} (cn3 : PySem.W.nsIn K mainGlobals "MOST_THINGS" = some (some gv3)) (cr3 : RelV (.int 8) gv3)
    {C_NoLies : Addr} (ac_NoLies : PySem.W.nsIn K mainGlobals "NoLies" = some (some (.ref C_NoLies)))
    {C_NoNote : Addr} (ac_NoNote : PySem.W.nsIn K mainGlobals "NoNote" = some (some (.ref C_NoNote)))
    {C_NoMany : Addr} (ac_NoMany : PySem.W.nsIn K mainGlobals "NoMany" = some (some (.ref C_NoMany)))
    {C_NoQuestion : Addr} (ac_NoQuestion : PySem.W.nsIn K mainGlobals "NoQuestion" = some (some (.ref C_NoQuestion)))
    {C_NoMarks : Addr} (ac_NoMarks : PySem.W.nsIn K mainGlobals "NoMarks" = some (some (.ref C_NoMarks)))
    {C_LieError : Addr} (ac_LieError : PySem.W.nsIn K mainGlobals "LieError" = some (some (.ref C_LieError)))
    (xc_NoLies : PySem.W.excIn K C_NoLies vBase "ValueError.__new__" = true)
    (ga_NoLies : PySem.W.findIn K (.ref C_NoLies) "__getattribute__" = some (some (.builtin "BaseException.__getattribute__")))
    (gt_NoLies : PySem.W.findIn K (.ref C_NoLies) "__getattr__" = some none)
    (gl_NoLies : PySem.W.findIn K (.ref C_NoLies) "__class__" = some (some (.builtin "object.__class__")))
    (ob_NoLies : PySem.W.mroIn K C_NoLies (.type "object") = some true)
    (be_NoLies : PySem.W.mroIn K C_NoLies (.type "BaseException") = some true)
    (cs_NoLies : (PySem.W.clsIn K C_NoLies).isSome = true)
    (t0_NoLies : PySem.W.kitOne K (.ref C_NoLies) (.ref C_NoLies) = some true)
    (t1_NoLies : PySem.W.kitOne K (.ref C_NoLies) (.ref C_NoMarks) = some false)
    (t2_NoLies : PySem.W.kitOne K (.ref C_NoLies) (.ref C_NoQuestion) = some false)
    (t3_NoLies : PySem.W.kitOne K (.ref C_NoLies) (.ref C_NoMany) = some false)
    (t4_NoLies : PySem.W.kitOne K (.ref C_NoLies) (.ref C_NoNote) = some false)
    (tv_NoLies : PySem.W.kitOne K (.ref C_NoLies) (.type "ValueError") = some true)
    (ex_NoLies : PySem.W.exmOne K (.ref C_NoLies) (.ref C_LieError) = some true)
    (xc_NoNote : PySem.W.excIn K C_NoNote vBase "ValueError.__new__" = true)
    (ga_NoNote : PySem.W.findIn K (.ref C_NoNote) "__getattribute__" = some (some (.builtin "BaseException.__getattribute__")))
    (gt_NoNote : PySem.W.findIn K (.ref C_NoNote) "__getattr__" = some none)
    (gl_NoNote : PySem.W.findIn K (.ref C_NoNote) "__class__" = some (some (.builtin "object.__class__")))
    (ob_NoNote : PySem.W.mroIn K C_NoNote (.type "object") = some true)
    (be_NoNote : PySem.W.mroIn K C_NoNote (.type "BaseException") = some true)
    (cs_NoNote : (PySem.W.clsIn K C_NoNote).isSome = true)
    (t0_NoNote : PySem.W.kitOne K (.ref C_NoNote) (.ref C_NoLies) = some false)
    (t1_NoNote : PySem.W.kitOne K (.ref C_NoNote) (.ref C_NoMarks) = some false)
    (t2_NoNote : PySem.W.kitOne K (.ref C_NoNote) (.ref C_NoQuestion) = some false)
    (t3_NoNote : PySem.W.kitOne K (.ref C_NoNote) (.ref C_NoMany) = some false)
    (t4_NoNote : PySem.W.kitOne K (.ref C_NoNote) (.ref C_NoNote) = some true)
    (tv_NoNote : PySem.W.kitOne K (.ref C_NoNote) (.type "ValueError") = some true)
    (ex_NoNote : PySem.W.exmOne K (.ref C_NoNote) (.ref C_LieError) = some true)
    : ∃ fd : FuncData, (∀ (s : Shared) (v : Value), BindsTo s fd ⟨[v], []⟩ [("script", v)]) ∧ ∀ base : Heap, K.In base → base.Ns mainGlobals mg → FnOk l.prog w K mg base CX0 4 fa fd ["script"] (sp_law K) := by
  have e := hfa.symm.trans (PySem.W.mg_of X G a9)
  cases e
  have F0 := fun_mk (st := s_check_lies) l0 c0 k0
  have b0 := F0.binds (ps := ["lies"]) fun _ _ _ _ _ _ us hl => match us, hl with | [_], _ => rfl
  have T0 : Tx K mg "check_lies" ["lies"] s_check_lies := ⟨_, _, F0, b0, PySem.W.mg_of X G a0⟩
  have F1 := fun_mk (st := s_l_cell_at) l1 c1 k1
  have b1 := F1.binds (ps := ["script", "k"]) fun _ _ _ _ _ _ us hl => match us, hl with | [_, _], _ => rfl
  have T1 : Tx K mg "_law_cell_at" ["script", "k"] s_l_cell_at := ⟨_, _, F1, b1, PySem.W.mg_of X G a1⟩
  have F2 := fun_mk (st := s_l_whole) l2 c2 k2
  have b2 := F2.binds (ps := ["found"]) fun _ _ _ _ _ _ us hl => match us, hl with | [_], _ => rfl
  have T2 : Tx K mg "_law_whole" ["found"] s_l_whole := ⟨_, _, F2, b2, PySem.W.mg_of X G a2⟩
  have F3 := fun_mk (st := s_l_is_list) l3 c3 k3
  have b3 := F3.binds (ps := ["found", "due"]) fun _ _ _ _ _ _ us hl => match us, hl with | [_, _], _ => rfl
  have T3 : Tx K mg "_law_is_list" ["found", "due"] s_l_is_list := ⟨_, _, F3, b3, PySem.W.mg_of X G a3⟩
  have F4 := fun_mk (st := s_signs_by_mark) l4 c4 k4
  have b4 := F4.binds (ps := ["lies"]) fun _ _ _ _ _ _ us hl => match us, hl with | [_], _ => rfl
  have T4 : Tx K mg "signs_by_mark" ["lies"] s_signs_by_mark := ⟨_, _, F4, b4, PySem.W.mg_of X G a4⟩
  have F5 := fun_mk (st := s_mark_of) l5 c5 k5
  have b5 := F5.binds (ps := ["sign", "signs"]) fun _ _ _ _ _ _ us hl => match us, hl with | [_, _], _ => rfl
  have T5 : Tx K mg "mark_of" ["sign", "signs"] s_mark_of := ⟨_, _, F5, b5, PySem.W.mg_of X G a5⟩
  have F6 := fun_mk (st := s_read) l6 c6 k6
  have b6 := F6.binds (ps := ["text", "lies"]) fun _ _ _ _ _ _ us hl => match us, hl with | [_, _], _ => rfl
  have T6 : Tx K mg "read" ["text", "lies"] s_read := ⟨_, _, F6, b6, PySem.W.mg_of X G a6⟩
  have F7 := fun_mk (st := s_l_word_of) l7 c7 k7
  have b7 := F7.binds (ps := ["e"]) fun _ _ _ _ _ _ us hl => match us, hl with | [_], _ => rfl
  have T7 : Tx K mg "_law_word_of" ["e"] s_l_word_of := ⟨_, _, F7, b7, PySem.W.mg_of X G a7⟩
  have F8 := fun_mk (st := s_l_tried) l8 c8 k8
  have b8 := F8.binds (ps := ["text", "lies"]) fun _ _ _ _ _ _ us hl => match us, hl with | [_, _], _ => rfl
  have T8 : Tx K mg "_law_tried" ["text", "lies"] s_l_tried := ⟨_, _, F8, b8, PySem.W.mg_of X G a8⟩
  have F9 := fun_mk (st := s_law) l9 c9 k9
  have b9 := F9.binds (ps := ["script"]) fun _ _ _ _ _ _ us hl => match us, hl with | [_], _ => rfl
  have T9 : Tx K mg "law" ["script"] s_law := ⟨_, _, F9, b9, PySem.W.mg_of X G a9⟩
  have m_len := PySem.W.mg_none_of X G z0
  have m_isinstance := PySem.W.mg_none_of X G z1
  have m_bool := PySem.W.mg_none_of X G z2
  have m_int := PySem.W.mg_none_of X G z3
  have m_range := PySem.W.mg_none_of X G z4
  have m_list := PySem.W.mg_none_of X G z5
  have m_ValueError := PySem.W.mg_none_of X G z6
  have m_str := PySem.W.mg_none_of X G z7
  have c_MOST_LIES : Cst mg "MOST_LIES" 2 := ⟨_, PySem.W.mg_of X G cn0, cr0⟩
  have c_FIGURES : CstS mg "FIGURES" "012" := ⟨_, PySem.W.mg_of X G cn1, cr1⟩
  have c_OUT : CstS mg "OUT" "x" := ⟨_, PySem.W.mg_of X G cn2, cr2⟩
  have c_MOST_THINGS : Cst mg "MOST_THINGS" 8 := ⟨_, PySem.W.mg_of X G cn3, cr3⟩
  have k_NoLies := PySem.W.mg_of X G ac_NoLies
  have k_NoNote := PySem.W.mg_of X G ac_NoNote
  have k_NoMany := PySem.W.mg_of X G ac_NoMany
  have k_NoQuestion := PySem.W.mg_of X G ac_NoQuestion
  have k_NoMarks := PySem.W.mg_of X G ac_NoMarks
  have k_LieError := PySem.W.mg_of X G ac_LieError
  have X_NoLies : ExcC K mg "NoLies" C_NoLies := ⟨k_NoLies, xc_NoLies⟩
  have R_NoLies : ErrC K C_NoLies C_NoLies C_NoMarks C_NoQuestion C_NoMany C_NoNote 0 := ⟨⟨ga_NoLies, gt_NoLies, gl_NoLies, ob_NoLies, be_NoLies⟩, cs_NoLies, t0_NoLies, t1_NoLies, t2_NoLies, t3_NoLies, t4_NoLies, tv_NoLies⟩
  have M_NoLies := ex_NoLies
  have X_NoNote : ExcC K mg "NoNote" C_NoNote := ⟨k_NoNote, xc_NoNote⟩
  have R_NoNote : ErrC K C_NoNote C_NoLies C_NoMarks C_NoQuestion C_NoMany C_NoNote 4 := ⟨⟨ga_NoNote, gt_NoNote, gl_NoNote, ob_NoNote, be_NoNote⟩, cs_NoNote, t0_NoNote, t1_NoNote, t2_NoNote, t3_NoNote, t4_NoNote, tv_NoNote⟩
  have M_NoNote := ex_NoNote
  refine ⟨PySem.W.fnOf "law" "law" (defArgs s_law) (defBody s_law) (defScope s_law) .none kV9 dc9 pm9 an9 cd9 ct9, fun s v => .of_eq rfl, fun base _ _ => ?_⟩
  have E_check_lies := ok_check_lies (P := l.prog) (w := w) (base := base) (n := 0) C_NoLies T0 c_MOST_LIES X_NoLies
  have E_l_cell_at := ok_l_cell_at (P := l.prog) (w := w) (base := base) (n := 0) T1 m_len
  have E_l_whole := ok_l_whole (P := l.prog) (w := w) (base := base) (n := 0) T2 m_isinstance m_bool m_int
  have E_l_is_list := ok_l_is_list (P := l.prog) (w := w) (base := base) (n := 1) T3 (E_l_whole.mono (by decide)) m_range m_len m_isinstance m_list
  have E_signs_by_mark := ok_signs_by_mark (P := l.prog) (w := w) (base := base) (n := 0) T4 c_FIGURES c_OUT
  have E_mark_of := ok_mark_of (P := l.prog) (w := w) (base := base) (n := 0) C_NoNote T5 X_NoNote
  have E_read := ok_read (P := l.prog) (w := w) (base := base) (n := 1) C_NoLies C_NoNote T6 (E_mark_of.mono (by decide)) (E_signs_by_mark.mono (by decide)) (E_check_lies.mono (by decide)) m_len c_MOST_THINGS X_NoNote
  have E_l_word_of := ok_l_word_of (P := l.prog) (w := w) (base := base) (n := 0) C_NoLies C_NoMarks C_NoQuestion C_NoMany C_NoNote T7 m_isinstance m_ValueError k_NoNote k_NoMany k_NoQuestion k_NoMarks k_NoLies
  have E_l_tried := ok_l_tried (P := l.prog) (w := w) (base := base) (n := 2) C_LieError C_NoLies C_NoMarks C_NoQuestion C_NoMany C_NoNote T8 (E_read.mono (by decide)) (E_l_word_of.mono (by decide)) k_LieError R_NoLies R_NoNote M_NoLies M_NoNote
  have E_law := ok_law (P := l.prog) (w := w) (base := base) (n := 3) T9 (E_l_is_list.mono (by decide)) (E_l_tried.mono (by decide)) (E_l_cell_at.mono (by decide)) m_len m_str m_range
  obtain ⟨f, fd, F, _, _, m, oc, od, osl, lk⟩ := E_law
  have e2 := m.symm.trans (PySem.W.mg_of X G a9)
  cases e2
  rw [l9] at lk
  cases lk
  exact F
theorem walk {l : PySem.W.OpenLaw} {q : Program} {loose : List Str} {XP : (Str → Option Value) → Heap → Prop} {YP : World → Heap → Prop} {d : DefRec} {K : Params → PySem.W.Frag} (hn : l.most = some 63) (hdf : d.params.defaults = [])
    (hY : ∀ (w : World) (h : Heap), YP w h → (K w.params).In h)
    (F : ∀ (w : World) (mg : Str → Option Value) (fa : Addr) (h : Heap), (K w.params).In h → h.Ns mainGlobals mg → mg d.name = some (.ref fa) →
      ∃ fd : FuncData, (∀ (s : Shared) (u : Value), BindsTo s fd ⟨[u], []⟩ [("script", u)]) ∧ ∀ base : Heap, (K w.params).In base → base.Ns mainGlobals mg → FnOk l.prog w (K w.params) mg base CX0 4 fa fd ["script"] (sp_law (K w.params))) :
    PySem.W.WalkO q loose XP YP l.row.toRowW d [] (fun f vs => PySem.call f vs) :=
  L2.walk_of (n := 63) (k := 4) (x := "script") (CX := fun _ => CX0) (sp := fun w => sp_law (K w.params)) hn (by decide) hdf ⟨rfl, by decide, by decide⟩ hY F (fun _ _ a ns hl _ hS => ⟨a, ns, rfl, hS, hl, fun _ => rfl⟩) fun _ _ _ _ _ z => z
end My
open PySem PySem.W PyProof.Rows
set_option maxRecDepth 100000 in
set_option maxHeartbeats 0 in
theorem PySem.Challenge.cw_lieask_k14_read_holds : PySem.Challenge.rw_lieask_k14_read.Holds := by
  w_on; o_law; k_head; (case hw => w_witness2)
  k_fill
  refine My.walk (l := PySem.Challenge.rw_lieask_k14_read) rfl rfl (fun w h Y => PySem.W.kIn_of Y) ?F
  case F =>
    intro w mg fa h KX G hmg
    refine' My.all_mk KX G hmg ?a0 ?l0 ?c0 ?k0 ?a1 ?l1 ?c1 ?k1 ?a2 ?l2 ?c2 ?k2 ?a3 ?l3 ?c3 ?k3 ?a4 ?l4 ?c4 ?k4 ?a5 ?l5 ?c5 ?k5 ?a6 ?l6 ?c6 ?k6 ?a7 ?l7 ?c7 ?k7 ?a8 ?l8 ?c8 ?k8 ?a9 ?l9 ?c9 ?k9 ?z0 ?z1 ?z2 ?z3 ?z4 ?z5 ?z6 ?z7 ?cn0 ?cr0 ?cn1 ?cr1 ?cn2 ?cr2 ?cn3 ?cr3 ?ac_NoLies ?ac_NoNote ?ac_NoMany ?ac_NoQuestion ?ac_NoMarks ?ac_LieError ?xc_NoLies ?ga_NoLies ?gt_NoLies ?gl_NoLies ?ob_NoLies ?be_NoLies ?cs_NoLies ?t0_NoLies ?t1_NoLies ?t2_NoLies ?t3_NoLies ?t4_NoLies ?tv_NoLies ?ex_NoLies ?xc_NoNote ?ga_NoNote ?gt_NoNote ?gl_NoNote ?ob_NoNote ?be_NoNote ?cs_NoNote ?t0_NoNote ?t1_NoNote ?t2_NoNote ?t3_NoNote ?t4_NoNote ?tv_NoNote ?ex_NoNote
    (case a0 => k_is)
    (case l0 => k_is)
    (case c0 => k_is)
    (case k0 => k_is)
    (case a1 => k_is)
    (case l1 => k_is)
    (case c1 => k_is)
    (case k1 => k_is)
    (case a2 => k_is)
    (case l2 => k_is)
    (case c2 => k_is)
    (case k2 => k_is)
    (case a3 => k_is)
    (case l3 => k_is)
    (case c3 => k_is)
    (case k3 => k_is)
    (case a4 => k_is)
    (case l4 => k_is)
    (case c4 => k_is)
    (case k4 => k_is)
    (case a5 => k_is)
    (case l5 => k_is)
    (case c5 => k_is)
    (case k5 => k_is)
    (case a6 => k_is)
    (case l6 => k_is)
    (case c6 => k_is)
    (case k6 => k_is)
    (case a7 => k_is)
    (case l7 => k_is)
    (case c7 => k_is)
    (case k7 => k_is)
    (case a8 => k_is)
    (case l8 => k_is)
    (case c8 => k_is)
    (case k8 => k_is)
    (case a9 => k_is)
    (case l9 => k_is)
    (case c9 => k_is)
    (case k9 => k_is)
    (case z0 => k_is)
    (case z1 => k_is)
    (case z2 => k_is)
    (case z3 => k_is)
    (case z4 => k_is)
    (case z5 => k_is)
    (case z6 => k_is)
    (case z7 => k_is)
    (case cn0 => k_is)
    (case cr0 => exact ⟨_, rfl⟩)
    (case cn1 => k_is)
    (case cr1 => exact ⟨_, rfl⟩)
    (case cn2 => k_is)
    (case cr2 => exact ⟨_, rfl⟩)
    (case cn3 => k_is)
    (case cr3 => exact ⟨_, rfl⟩)
    (case ac_NoLies => k_is)
    (case ac_NoNote => k_is)
    (case ac_NoMany => k_is)
    (case ac_NoQuestion => k_is)
    (case ac_NoMarks => k_is)
    (case ac_LieError => k_is)
    (case xc_NoLies => kernel_rfl)
    (case ga_NoLies => k_is)
    (case gt_NoLies => k_is)
    (case gl_NoLies => k_is)
    (case ob_NoLies => k_is)
    (case be_NoLies => k_is)
    (case cs_NoLies => kernel_rfl)
    (case t0_NoLies => kernel_rfl)
    (case t1_NoLies => kernel_rfl)
    (case t2_NoLies => kernel_rfl)
    (case t3_NoLies => kernel_rfl)
    (case t4_NoLies => kernel_rfl)
    (case tv_NoLies => kernel_rfl)
    (case ex_NoLies => kernel_rfl)
    (case xc_NoNote => kernel_rfl)
    (case ga_NoNote => k_is)
    (case gt_NoNote => k_is)
    (case gl_NoNote => k_is)
    (case ob_NoNote => k_is)
    (case be_NoNote => k_is)
    (case cs_NoNote => kernel_rfl)
    (case t0_NoNote => kernel_rfl)
    (case t1_NoNote => kernel_rfl)
    (case t2_NoNote => kernel_rfl)
    (case t3_NoNote => kernel_rfl)
    (case t4_NoNote => kernel_rfl)
    (case tv_NoNote => kernel_rfl)
    (case ex_NoNote => kernel_rfl)
#print axioms PySem.Challenge.cw_lieask_k14_read_holds
