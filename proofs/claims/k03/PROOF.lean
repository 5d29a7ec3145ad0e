import PyProof.Rows.All
import Wide.All
import OpenK.AllK
import Wide.FinOn
import Lean
import PyProof.EqAt
import PyProof.EqKinds
import PyProof.TupleCall
import PySem.Challenge.RW_lieask_k03_needs_of_few
set_option Elab.async false
set_option linter.all false
set_option maxRecDepth 100000
/-! THE HAND LAYER, for ints, bools, texts, own classes, LISTS and tuples (index, slices, in, append, pop ..), calls, loops. Paste it whole ahead of your own text; what your proof does not reach may be deleted. -/
namespace L2
open PySem PySem.Spec PyProof.Rows

/-- a key: an int or a str -/
abbrev Key := Sum Int Str
def keyIs : Key → Value → Bool
  | .inl k, v => Value.isInt k v
  | .inr x, v => Value.isStrOf x v
def keyH (w : World) : Key → Int
  | .inl k => hashInt k
  | .inr x => hashStr w x
theorem keyIs_shape : ∀ {k : Key} {v : Value}, keyIs k v = true → (∃ i t, k = Sum.inl i ∧ v = Value.int i t) ∨ (∃ x t, k = Sum.inr x ∧ v = Value.str x t)
  | .inl i, v, h => by
    obtain ⟨t, e⟩ := Value.isInt_shape (k := i) (v := v) h
    exact .inl ⟨i, t, rfl, e⟩
  | .inr x, v, h => by
    obtain ⟨t, e⟩ := Value.isStrOf_shape (x := x) (v := v) h
    exact .inr ⟨x, t, rfl, e⟩
theorem keyIs_int (i : Int) (t : Tok) : keyIs (.inl i) (.int i t) = true := by simp [keyIs, Value.isInt]
theorem keyIs_str (x : Str) (t : Tok) : keyIs (.inr x) (.str x t) = true := by simp [keyIs, Value.isStrOf]
theorem key_ll (a b : Int) : decide ((Sum.inl a : Key) = Sum.inl b) = (a == b) := by
  by_cases e : a = b
  · subst e; simp
  · have h : ¬ (Sum.inl a : Key) = Sum.inl b := fun q => e (Sum.inl.inj q)
    rw [decide_eq_false h]
    exact (beq_eq_false_iff_ne.mpr e).symm
theorem key_rr (a b : Str) : decide ((Sum.inr a : Key) = Sum.inr b) = decide (a = b) := by
  by_cases e : a = b
  · subst e; simp
  · have h : ¬ (Sum.inr a : Key) = Sum.inr b := fun q => e (Sum.inr.inj q)
    rw [decide_eq_false h, decide_eq_false e]
theorem key_lr (a : Int) (b : Str) : decide ((Sum.inl a : Key) = Sum.inr b) = false := decide_eq_false (fun q => nomatch q)
theorem key_rl (a : Str) (b : Int) : decide ((Sum.inr a : Key) = Sum.inl b) = false := decide_eq_false (fun q => nomatch q)

def mixKind (prog : Program) (w : World) : PySem.KeyKind prog w Key where
  is := keyIs
  hash := keyH w
  inj := fun v a b ha hb => by
    rcases keyIs_shape ha with ⟨i, t, rfl, rfl⟩ | ⟨x, t, rfl, rfl⟩
    · rcases keyIs_shape hb with ⟨j, u, rfl, e⟩ | ⟨y, u, rfl, e⟩
      · injection e with e1 _; rw [e1]
      · exact nomatch e
    · rcases keyIs_shape hb with ⟨j, u, rfl, e⟩ | ⟨y, u, rfl, e⟩
      · exact nomatch e
      · injection e with e1 _; rw [e1]
  byValue := fun k v h => by
    rcases keyIs_shape h with ⟨i, t, rfl, rfl⟩ | ⟨x, t, rfl, rfl⟩ <;> rfl
  pyHash := fun hv h => by
    rcases keyIs_shape hv with ⟨i, t, rfl, rfl⟩ | ⟨x, t, rfl, rfl⟩
    · exact wpAny_pyHash_int h
    · exact wpAny_pyHash_str h
  eqBool := fun hu hv h => by
    rcases keyIs_shape hu with ⟨i, t, rfl, rfl⟩ | ⟨x, t, rfl, rfl⟩
    · rcases keyIs_shape hv with ⟨j, u, rfl, rfl⟩ | ⟨y, u, rfl, rfl⟩
      · rw [key_ll] at h; exact wpAny_eqBool_int h
      · rw [key_lr] at h; exact SeqAt.EqAt.int_str i t y u _ _ _ _ h
    · rcases keyIs_shape hv with ⟨j, u, rfl, rfl⟩ | ⟨y, u, rfl, rfl⟩
      · rw [key_rl] at h; exact SeqAt.EqAt.str_int x t j u _ _ _ _ h
      · rw [key_rr] at h; exact wpAny_eqBool_str h
  «strs» := fun k x t v h => by
    rcases keyIs_shape h with ⟨i, u, rfl, e⟩ | ⟨y, u, rfl, e⟩
    · exact nomatch e
    · injection e with e1 _
      subst e1
      cases v <;> rfl

theorem mixKind_int (prog : Program) (w : World) (i : Int) (t : Tok) : (mixKind prog w).is (.inl i) (.int i t) = true := keyIs_int i t
theorem mixKind_str (prog : Program) (w : World) (x : Str) (t : Tok) : (mixKind prog w).is (.inr x) (.str x t) = true := keyIs_str x t
end L2

namespace L2
open PySem PySem.Spec PyProof.Rows

/-- a value, without the heap -/
inductive V where
  | non | bl (b : Bool) | int (i : Int) | str (x : Str) | byt (b : Array UInt8) | flt (b : UInt64) | ref (a : Addr) | ty (n : String)
  deriving DecidableEq

def RelV : V → Value → Prop
  | .non, u => u = Value.none
  | .bl b, u => u = Value.bool b
  | .int i, u => ∃ t, u = Value.int i t
  | .str x, u => ∃ t, u = Value.str x t
  | .byt b, u => ∃ t, u = Value.bytes b t
  | .flt b, u => ∃ t, u = Value.float b t
  | .ref a, u => u = Value.ref a
  | .ty n, u => u = Value.type n

abbrev Vals : List V → List Value → Prop := Paired RelV
theorem Vals.length {xs : List V} {us : List Value} (r : Vals xs us) : xs.length = us.length := Paired.length r
theorem Vals.get : ∀ {xs : List V} {us : List Value} {i : Nat} {x : V}, Vals xs us → xs[i]? = some x → ∃ u, us[i]? = some u ∧ RelV x u
  | _, _, _, _, .nil, e => by simp at e
  | _, _, 0, _, .cons r _, e => by simp at e; subst e; exact ⟨_, rfl, r⟩
  | _, _, i + 1, x, .cons _ t, e => by
    obtain ⟨u, h1, h2⟩ := Vals.get (i := i) (x := x) t (by simpa using e)
    exact ⟨u, by simpa using h1, h2⟩
theorem Vals.set {x : V} {u : Value} (r : RelV x u) : ∀ {xs : List V} {us : List Value} (i : Nat), Vals xs us → Vals (xs.set i x) (us.set i u)
  | _, _, _, .nil => .nil
  | _, _, 0, .cons _ t => .cons r t
  | _, _, i + 1, .cons q t => .cons q (Vals.set r i t)
theorem Vals.append : ∀ {xs ys : List V} {us ws : List Value}, Vals xs us → Vals ys ws → Vals (xs ++ ys) (us ++ ws)
  | _, _, _, _, .nil, s => s
  | _, _, _, _, .cons r t, s => .cons r (Vals.append t s)
theorem Vals.take : ∀ {xs : List V} {us : List Value} (n : Nat), Vals xs us → Vals (xs.take n) (us.take n)
  | _, _, 0, _ => .nil
  | _, _, _ + 1, .nil => .nil
  | _, _, n + 1, .cons r t => .cons r (Vals.take n t)
theorem Vals.drop : ∀ {xs : List V} {us : List Value} (n : Nat), Vals xs us → Vals (xs.drop n) (us.drop n)
  | _, _, 0, r => r
  | _, _, _ + 1, .nil => .nil
  | _, _, n + 1, .cons _ t => Vals.drop n t
def RelO : Option V → Option Value → Prop
  | some v, some u => RelV v u
  | none, none => True
  | _, _ => False
def KV {κ : Type} : List (κ × V) → List (κ × Value) → Prop := Paired fun (p : κ × V) (q : κ × Value) => p.1 = q.1 ∧ RelV p.2 q.2

/-- a key of a dict (00_mix): an int or a text -/
def kV : Key → V
  | .inl i => .int i
  | .inr x => .str x

/-! ### a key that is a pair: a tuple of ints, and an int -/
section
variable {prog : Program} {w : World} {A : Around} {E : Value → Shared → Prop} {s : Shared}
/-- v's hash is n, whatever was counted; it counts d more -/
def Hashes (prog : Program) (w : World) (A : Around) (s : Shared) (v : Value) (n : Int) (d : Nat) : Prop :=
  ∀ (E : Value → Shared → Prop) (Q : Int → Shared → Prop) (t : Nat), Q n { s with toks := t + d } → wpAny (model prog w) A (pyHash v) Q E { s with toks := t }
theorem Hashes.int (i : Int) (tk : Tok) : Hashes prog w A s (.int i tk) (hashInt i) 1 := fun _ _ _ h => wpAny_pyHash_int h
/-- a tuple whose items' hashes are known -/
theorem Hashes.tup {a : Addr} {vs : List Value} {ns : List (Int × Nat)} (hu : A.units < cLine) (ht : s.heap.IsTuple a vs.toArray) (hn : Paired (fun v p => Hashes prog w A.in1 s v p.1 p.2) vs ns) :
    Hashes prog w A s (.ref a) (reduceHash (Builtin.Tuple.tupleHashOf (ns.map (·.1)))) ((ns.map (·.2)).sum + 1) := by
  intro E Q t h
  obtain ⟨o, ho, hc, n, hd⟩ := ht
  refine PySem.W.pyHash_slot (s := { s with toks := t }) (T := "tuple") ⟨o, ho, hc⟩ F.slot_tuple_hash F.entry_tuple_hash (F.args_tuple_hash_1 _) (beq_builtin_none _) (.inr hu)
    (show wpAny _ A.in1 (Builtin.Tuple.tupleItemsOf (.ref a) >>= _) _ _ _ from wpAny_bind (wpAny_tupleItemsOf ho hd (wpAny_bind ?_)))
  rw [← Array.forIn_toList]
  refine wpAny_forIn_list _ (fun left (acc : Array Int) s1 => ∃ gone rest, ns = gone ++ rest ∧ Paired (fun v p => Hashes prog w A.in1 s v p.1 p.2) left rest ∧ acc.toList = gone.map (·.1) ∧ s1 = { s with toks := t + (gone.map (·.2)).sum }) _ ?_ ?_ _ _ ⟨[], ns, rfl, hn, rfl, rfl⟩
  · rintro v left acc s1 ⟨gone, rest, rfl, hp, ha, rfl⟩
    cases hp with
    | @cons _ p _ more h1 h2 =>
      have fin : ∃ g r, gone ++ p :: more = g ++ r ∧ Paired (fun v p => Hashes prog w A.in1 s v p.1 p.2) left r ∧ (acc.push p.1).toList = g.map (·.1) ∧ ({ s with toks := t + (gone.map (·.2)).sum + p.2 } : Shared) = { s with toks := t + (g.map (·.2)).sum } :=
        ⟨gone ++ [p], more, by simp, h2, by simp [ha], by simp [Nat.add_assoc]⟩
      refine wpAny_bind (h1 _ _ _ ?_)
      first
        | exact wpAny_pure fin
        | exact wpAny_bind (wpAny_pure (wpAny_pure fin))
  · rintro acc s1 ⟨gone, rest, rfl, hp, ha, rfl⟩
    cases hp
    refine wpAny_bind (wpAny_mkInt (wpAny_pure ⟨_, _, rfl, ?_⟩))
    rw [List.append_nil] at h
    rw [ha]
    exact h
/-- a tuple is quiet, one step deeper than its items -/
theorem quiet_tup {m : Nat} {a : Addr} {vs : List Value} {Q : Bool → Shared → Prop} (ht : s.heap.IsTuple a vs.toArray) (hq : ∀ v ∈ vs, ∀ R : Bool → Shared → Prop, R true s → wpAny (model prog w) A (eqIsQuiet m v) R E s) (h : Q true s) :
    wpAny (model prog w) A (eqIsQuiet (m + 1) (.ref a)) Q E s := by
  obtain ⟨o, ho, hc, n, hd⟩ := ht
  have ty : s.TypeIs (.ref a) "tuple" := ⟨o, ho, hc⟩
  unfold eqIsQuiet
  refine wpAny_bind (wpAny_specialOf ty F.slot_tuple_eq.lookup (wpAny_bind (wpAny_isInstance ty isSubtype_tuple_tuple ?_)))
  simp only [Bool.not_true, if_neg Bool.false_ne_true]
  refine wpAny_bind (wpAny_seqItems ho hd (wpAny_bind ?_))
  show wpAny _ _ (forIn vs.toArray _ _) _ E s
  rw [← Array.forIn_toList]
  refine wpAny_forIn_list _ (fun left r s1 => r.1 = none ∧ s1 = s ∧ ∀ v ∈ left, v ∈ vs) _ ?_ ?_ _ _ ⟨rfl, rfl, fun v hv => by simpa using hv⟩
  · rintro v left r s1 ⟨_, rfl, hl⟩
    refine wpAny_bind (hq v (hl v List.mem_cons_self) _ ?_)
    simp only [Bool.not_true, if_neg Bool.false_ne_true]
    exact wpAny_pure ⟨by first | exact rfl | trivial, by first | exact rfl | trivial, fun u hu => hl u (List.mem_cons_of_mem _ hu)⟩
  · rintro ⟨r1, r2⟩ s1 ⟨e, rfl, _⟩
    cases (show r1 = none from e)
    exact wpAny_pure h
end
/-- the tuple of these ints stands at b -/
def IntsTup (h : Heap) (ms : List Int) (b : Addr) : Prop := ∃ its : List Value, h.IsTuple b its.toArray ∧ Vals (ms.map V.int) its
/-- the tuple of a tuple of ints and an int stands at a -/
def PairTup (h : Heap) (p : List Int × Int) (a : Addr) : Prop := ∃ (b : Addr) (t : Tok), h.IsTuple a [Value.ref b, Value.int p.2 t].toArray ∧ IntsTup h p.1 b
theorem tup_one {h : Heap} {a : Addr} {x y : List Value} (hx : h.IsTuple a x.toArray) (hy : h.IsTuple a y.toArray) : x = y := by
  obtain ⟨o, e, _, n, d⟩ := hx
  obtain ⟨o2, e2, _, n2, d2⟩ := hy
  cases e.symm.trans e2
  have z := d.symm.trans d2
  injection z with z _
  simpa using congrArg Array.toList z
theorem tup_keeps {h h' : Heap} {a d : Addr} {o : Obj} {es ep} {x : Array Value} (hx : h.IsTuple a x) (ho : h.get? d = some o) (hd : o.data = .dict es ep) (hs : Heap.SameBut d h h') : h'.IsTuple a x := by
  obtain ⟨u, e, c, n, q⟩ := hx
  refine ⟨u, (hs.2 a fun z => ?_).trans e, c, n, q⟩
  rw [z, ho] at e
  cases e
  rw [hd] at q
  exact nomatch q
theorem ints_one : ∀ {x y : List Int} {us : List Value}, Vals (x.map V.int) us → Vals (y.map V.int) us → x = y
  | [], [], _, _, _ => rfl
  | [], _ :: _, _, r, q => by cases r; cases q
  | _ :: _, [], _, r, q => by cases q; cases r
  | i :: x, j :: y, _, r, q => by
    cases r with
    | cons r1 r2 =>
      cases q with
      | cons q1 q2 =>
        obtain ⟨t, rfl⟩ := r1
        obtain ⟨u, e⟩ := q1
        cases e
        rw [ints_one r2 q2]
section
variable {prog : Program} {w : World} {A : Around} {E : Value → Shared → Prop} {s : Shared}
def intsHash (ms : List Int) : Int := reduceHash (Builtin.Tuple.tupleHashOf (ms.map hashInt))
theorem ints_hash {ms : List Int} {b : Addr} (hu : A.units < cLine) (hb : IntsTup s.heap ms b) : Hashes prog w A s (.ref b) (intsHash ms) (ms.length + 1) := by
  obtain ⟨its, ht, r⟩ := hb
  have go : ∀ {xs : List Int} {us : List Value}, Vals (xs.map V.int) us → Paired (fun v (p : Int × Nat) => Hashes prog w A.in1 s v p.1 p.2) us (xs.map fun i => (hashInt i, 1)) := by
    intro xs
    induction xs with
    | nil => intro us r; cases r; exact .nil
    | cons i xs ih =>
      intro us r
      cases r with
      | cons r1 r2 =>
        obtain ⟨t, rfl⟩ := r1
        exact .cons (Hashes.int i t) (ih r2)
  have z := Hashes.tup hu ht (go r)
  have e1 : (ms.map fun i => (hashInt i, 1)).map (·.1) = ms.map hashInt := by rw [List.map_map]; rfl
  have e2 : ((ms.map fun i => (hashInt i, 1)).map (·.2)).sum = ms.length := by
    rw [List.map_map]
    clear z r e1
    induction ms with
    | nil => rfl
    | cons i r ih => rw [List.map_cons, List.sum_cons, ih, List.length_cons]; exact Nat.add_comm _ _
  rw [e1, e2] at z
  exact z
theorem ints_eq {x y : List Int} {a b : Addr} (hu : A.units < cLine) (hx : IntsTup s.heap x a) (hy : IntsTup s.heap y b) : SeqAt.EqAt A s (.ref a) (.ref b) (decide (x = y)) := by
  obtain ⟨us, h1, r1⟩ := hx
  obtain ⟨ws, h2, r2⟩ := hy
  by_cases ab : a = b
  · subst ab
    cases tup_one h1 h2
    rw [decide_eq_true (ints_one r1 r2)]
    exact SeqAt.EqAt.same _
  · have at' : ∀ {zs : List Int} {us : List Value} {j : Nat} (h : j < us.length), Vals (zs.map V.int) us → ∃ t, us[j] = Value.int (zs.getD j 0) t := by
      intro zs us j h r
      have hl := r.length
      rw [List.length_map] at hl
      obtain ⟨u, hu, ru⟩ := r.get (i := j) (x := .int (zs.getD j 0)) (by rw [List.getElem?_map, List.getD_eq_getElem?_getD, List.getElem?_eq_getElem (by omega)]; rfl)
      obtain ⟨t, rfl⟩ := ru
      exact ⟨t, Option.some.inj ((List.getElem?_eq_getElem h).symm.trans hu)⟩
    have z := SeqAt.EqAt.of_refs ab (SeqAt.RcAt.tuples (e := fun j => x.getD j 0 == y.getD j 0) h1 h2 hu fun j j1 j2 => by
      obtain ⟨t, e1⟩ := at' (by simpa using j1) r1
      obtain ⟨t', e2⟩ := at' (by simpa using j2) r2
      simp only [List.getElem_toArray, e1, e2]
      exact SeqAt.EqAt.int_int _ _ _ _)
    have l1 := r1.length
    have l2 := r2.length
    rw [List.length_map] at l1 l2
    have e : ((List.range (min us.toArray.size ws.toArray.size)).all (fun j => x.getD j 0 == y.getD j 0) && us.toArray.size == ws.toArray.size) = decide (x = y) := by
      simp only [List.size_toArray, ← l1, ← l2]
      by_cases xy : x = y
      · subst xy
        simp
      · rw [decide_eq_false xy]
        by_cases hl : x.length = y.length
        · rw [Bool.and_eq_false_iff]
          refine .inl (Bool.eq_false_iff.mpr fun hall => xy ?_)
          rw [List.all_eq_true] at hall
          refine List.ext_getElem hl fun j j1 j2 => ?_
          have q := hall j (List.mem_range.mpr (by omega))
          rw [List.getD_eq_getElem?_getD, List.getD_eq_getElem?_getD, List.getElem?_eq_getElem j1, List.getElem?_eq_getElem j2] at q
          simpa using q
        · simp [hl]
    rw [e] at z
    exact z
theorem ints_quiet {m : Nat} {ms : List Int} {b : Addr} {Q : Bool → Shared → Prop} (hb : IntsTup s.heap ms b) (h : Q true s) : wpAny (model prog w) A (eqIsQuiet (m + 1) (.ref b)) Q E s := by
  obtain ⟨its, ht, r⟩ := hb
  refine quiet_tup ht (fun v hv R hR => ?_) h
  obtain ⟨j, hj, e⟩ := List.getElem_of_mem hv
  obtain ⟨x, hx, rx⟩ : ∃ x, (ms.map V.int)[j]? = some x ∧ RelV x v := by
    have hl := r.length
    obtain ⟨u, h1, h2⟩ := r.get (i := j) (x := (ms.map V.int)[j]) (List.getElem?_eq_getElem (by omega))
    rw [List.getElem?_eq_getElem hj, e] at h1
    cases h1
    exact ⟨_, List.getElem?_eq_getElem (by omega), h2⟩
  rw [List.getElem?_map] at hx
  obtain ⟨i, _, rfl⟩ := Option.map_eq_some_iff.mp hx
  obtain ⟨t, rfl⟩ := rx
  rw [eqIsQuiet_byValue _ (by rfl)]
  exact wpAny_pure hR
theorem pair_hash {p : List Int × Int} {a : Addr} (hu : A.units + 1 < cLine) (hp : PairTup s.heap p a) : Hashes prog w A s (.ref a) (reduceHash (Builtin.Tuple.tupleHashOf [intsHash p.1, hashInt p.2])) (p.1.length + 3) := by
  obtain ⟨b, t, ht, hb⟩ := hp
  have z := Hashes.tup (ns := [(intsHash p.1, p.1.length + 1), (hashInt p.2, 1)]) (by omega) ht (.cons (ints_hash (A := A.in1) (prog := prog) (w := w) hu hb) (.cons (Hashes.int p.2 t) .nil))
  exact z
theorem pair_eq {x y : List Int × Int} {a b : Addr} (hu : A.units + 1 < cLine) (hx : PairTup s.heap x a) (hy : PairTup s.heap y b) : SeqAt.EqAt A s (.ref a) (.ref b) (decide (x = y)) := by
  obtain ⟨xa, xt, h1, r1⟩ := hx
  obtain ⟨ya, yt, h2, r2⟩ := hy
  by_cases ab : a = b
  · subst ab
    have e := tup_one h1 h2
    injection e with e1 e2
    injection e2 with e2 _
    injection e1 with e1
    injection e2 with e2 _
    subst e1
    obtain ⟨us, g1, q1⟩ := r1
    obtain ⟨ws, g2, q2⟩ := r2
    cases tup_one g1 g2
    rw [decide_eq_true (Prod.ext (ints_one q1 q2) e2)]
    exact SeqAt.EqAt.same _
  · have z := SeqAt.EqAt.of_refs ab (SeqAt.RcAt.tuples (e := fun j => if j = 0 then decide (x.1 = y.1) else x.2 == y.2) h1 h2 (Nat.lt_of_succ_lt hu) fun j j1 j2 => by
      match j, j1, j2 with
      | 0, _, _ => exact ints_eq (A := A.in1) hu r1 r2
      | 1, _, _ => exact SeqAt.EqAt.int_int _ _ _ _)
    have e : ((List.range (min [Value.ref xa, Value.int x.2 xt].toArray.size [Value.ref ya, Value.int y.2 yt].toArray.size)).all (fun j => if j = 0 then decide (x.1 = y.1) else x.2 == y.2) && [Value.ref xa, Value.int x.2 xt].toArray.size == [Value.ref ya, Value.int y.2 yt].toArray.size) = decide (x = y) := by
      show ((decide (x.1 = y.1) && ((x.2 == y.2) && true)) && true) = decide (x = y)
      have nf : ∀ {p : Prop}, (x = y → p) → ¬ p → decide (x = y) = false := fun f n => decide_eq_false fun z => n (f z)
      by_cases c1 : x.1 = y.1
      · by_cases c2 : x.2 = y.2
        · rw [decide_eq_true c1, decide_eq_true (Prod.ext c1 c2), beq_iff_eq.mpr c2]
          rfl
        · rw [nf (congrArg Prod.snd) c2, beq_eq_false_iff_ne.mpr c2, decide_eq_true c1]
          rfl
      · rw [nf (congrArg Prod.fst) c1, decide_eq_false c1]
        rfl
    rw [e] at z
    exact z
end
/-- the kind of such keys -/
def pairKind (prog : Program) (w : World) : HeapKind prog w (List Int × Int) where
  is := PairTup
  hash := fun p => reduceHash (Builtin.Tuple.tupleHashOf [intsHash p.1, hashInt p.2])
  draws := fun p => p.1.length + 3
  room := fun A => A.units + 1 < cLine
  inj := fun {h a x y} ⟨b, t, h1, us, g1, q1⟩ ⟨c, u, h2, ws, g2, q2⟩ => by
    have e := tup_one h1 h2
    injection e with e1 e2
    injection e2 with e2 _
    injection e1 with e1
    injection e2 with e2 _
    subst e1
    cases tup_one g1 g2
    exact Prod.ext (ints_one q1 q2) e2
  keeps := fun ⟨b, t, h1, us, g1, q1⟩ ho hd hs => ⟨b, t, tup_keeps h1 ho hd hs, us, tup_keeps g1 ho hd hs, q1⟩
  pyHash := fun {A E s k a Q} hu hk h => pair_hash hu hk E Q s.toks h
  eqBool := fun {A E s x y a b Q} hu hx hy h => pair_eq hu hx hy prog w E Q h
  quiet := fun {A E s k a Q} ⟨b, t, ht, hb⟩ h => quiet_tup ht (fun v hv R hR => by
    rcases List.mem_cons.mp hv with e | hv
    · rw [e]
      exact ints_quiet hb hR
    · rw [List.mem_singleton.mp hv, eqIsQuiet_byValue _ (by rfl)]
      exact wpAny_pure hR) h


/-- what stands at a tracked address -/
inductive HO where
  /-- a list -/
  | lst (xs : List V)
  /-- a tuple (never changes) -/
  | tup (xs : List V)
  /-- a dict whose keys are ints and texts; one whose keys are tuples of ints and texts (the empty one is both) -/
  | dK (kvs : List (Key × V)) | dT (kvs : List (List Key × V)) | dN (kvs : List ((List Int × Int) × V))
  /-- a set of ints: its members, its size -/
  | set (S : Int → Bool) (n : Nat)
  /-- an instance of the class at C, its dict at dx, its attributes -/
  | ins (C dx : Addr) (fs : List (Str × V))
  /-- the dict of the instance at x -/
  | own (x : Addr)
  /-- the dict of an exception -/
  | xd (fs : List (Str × V))
  /-- a bound method, f of x -/
  | met (f x : Addr)
  /-- a range object lo, lo + 1, .. below hi -/
  | rng (lo hi : Int)
  /-- a thing that is known to the object (the script; a dict while a loop walks it): read, never written while it is so -/
  | frz (o : Obj) (u : HO)
  /-- a code object's table -/
  | tbl (ps : Array Value)
  /-- any other thing, by what is true of its one object (a def of one's own: SetO a S n := HO.ext fun h => ..) -/
  | ext (φ : Heap → Prop)

abbrev Hp := Addr → Option HO
def upd (H : Hp) (a : Addr) (o : HO) : Hp := fun b => if b = a then some o else H b
theorem upd_same {H : Hp} {a : Addr} {o : HO} : upd H a o a = some o := by unfold upd; rw [if_pos rfl]
theorem upd_ne {H : Hp} {a b : Addr} {o : HO} (h : b ≠ a) : upd H a o b = H b := by unfold upd; rw [if_neg h]
/-- two objects of different content stand apart -/
theorem ne_of {H : Hp} {a b : Addr} {o u : HO} (h : H a = some o) (h' : H b = some u) (d : o ≠ u) : a ≠ b := by
  intro e; subst e; rw [h] at h'; exact d (Option.some.inj h')
theorem ne_of_none {H : Hp} {a b : Addr} {o : HO} (h : H a = some o) (h' : H b = none) : a ≠ b := by
  intro e; subst e; rw [h] at h'; cases h'

section
variable (P : Program) (w : World)
def ObjOk (H : Hp) (h : Heap) (a : Addr) : HO → Prop
  | .lst xs => xs.length ≤ sizeLine ∧ ∃ (its : List Value) (n : Nat), Vals xs its ∧ h.get? a = some { cls := .type "list", data := .seq its.toArray n }
  | .tup xs => xs.length ≤ sizeLine ∧ ∃ its : List Value, Vals xs its ∧ IsTup h a its.toArray
  | .dK kvs => kvs.length ≤ sizeLine ∧ (a == sysModules) = false ∧ ∃ vs, KV kvs vs ∧ h.DictOf (mixKind P w) a vs
  | .dT kvs => kvs.length ≤ sizeLine ∧ (a == sysModules) = false ∧ ∃ xs : List (List Key × Addr × Value),
      Paired (fun (p : List Key × V) (q : List Key × Addr × Value) => p.1 = q.1 ∧ H q.2.1 = some (.tup (p.1.map kV)) ∧ RelV p.2 q.2.2) kvs xs ∧
      ∃ o es ep, h.get? a = some o ∧ o.ExactDict ∧ o.data = .dict es ep ∧ es.toList = xs.map (entryOfKey (tupleKind (mixKind P w))) ∧ (xs.map (·.1)).Nodup
  | .dN kvs => kvs.length ≤ sizeLine ∧ (a == sysModules) = false ∧ ∃ xs : List ((List Int × Int) × Addr × Value),
      Paired (fun (p : (List Int × Int) × V) (q : (List Int × Int) × Addr × Value) => p.1 = q.1 ∧ (∃ b, H q.2.1 = some (.tup [.ref b, .int p.1.2]) ∧ H b = some (.tup (p.1.1.map V.int))) ∧ RelV p.2 q.2.2) kvs xs ∧
      ∃ o es ep, h.get? a = some o ∧ o.ExactDict ∧ o.data = .dict es ep ∧ es.toList = xs.map (entryOfKey (pairKind P w)) ∧ (xs.map (·.1)).Nodup
  | .set S n => h.SetOf (intKind P w) a S n
  | .ins C dx fs => H dx = some (.own a) ∧ fs.length ≤ 1000 ∧ dx ≠ a ∧ h.get? a = some (PySem.W.instObj C dx) ∧
      ∃ mA, h.Ns1 dx mA ∧ (∀ f, RelO (fs.lookup f) (mA f)) ∧ PySem.Within mA (fs.map (·.1))
  | .own _ => ∃ o, h.get? a = some o
  | .xd fs => ∃ mA, h.Ns1 a mA ∧ ∀ f, RelO (fs.lookup f) (mA f)
  | .rng lo hi => ∃ t u v, h.get? a = some { cls := .type "range", data := .fields #[.int lo t, .int hi u, .int 1 v] }
  | .frz o u => h.get? a = some o ∧ ObjOk H h a u
  | .tbl ps => h.get? a = some { cls := .none, data := .fields ps }
  | .met f x => h.get? a = some (PySem.W.methodObj (.ref f) (.ref x))
  | .ext φ => φ h ∧ (∃ o, h.get? a = some o) ∧ ∀ h1 h2 : Heap, φ h1 → (∀ o, h1.get? a = some o → h2.get? a = some o) → φ h2
/-- the abstract heap is held -/
def HOk (H : Hp) (h : Heap) : Prop := ∀ a o, H a = some o → ObjOk P w H h a o
end

section
variable {P : Program} {w : World} {H H' : Hp} {h h' : Heap} {a : Addr} {o : HO}
theorem ObjOk.lt (x : ObjOk P w H h a o) : a < h.objs.size := by
  cases o with
  | lst xs => obtain ⟨_, _, _, _, e⟩ := x; exact Heap.lt_size e
  | tup xs => obtain ⟨_, _, _, p⟩ := x; exact p.lt
  | dK kvs => obtain ⟨_, _, _, _, o, _, _, e, _⟩ := x; exact Heap.lt_size e
  | dT kvs => obtain ⟨_, _, _, _, o, _, _, e, _⟩ := x; exact Heap.lt_size e
  | dN kvs => obtain ⟨_, _, _, _, o, _, _, e, _⟩ := x; exact Heap.lt_size e
  | set S n => obtain ⟨o, _, _, _, e, _⟩ := x; exact Heap.lt_size e
  | ins C dx fs => obtain ⟨_, _, _, e, _⟩ := x; exact Heap.lt_size e
  | own y => obtain ⟨_, e⟩ := x; exact Heap.lt_size e
  | xd fs => obtain ⟨_, ⟨_, _, _, e, _⟩, _⟩ := x; exact Heap.lt_size e
  | rng lo hi => obtain ⟨_, _, _, e⟩ := x; exact Heap.lt_size e
  | frz ob u => obtain ⟨e, _⟩ := x; exact Heap.lt_size e
  | tbl ps => exact Heap.lt_size (show h.get? a = some _ from x)
  | met f y => exact Heap.lt_size (show h.get? a = some _ from x)
  | ext φ => obtain ⟨_, ⟨_, e⟩, _⟩ := x; exact Heap.lt_size e
theorem Paired.mapP {α β : Type} {F G : α → β → Prop} : ∀ {l₁ : List α} {l₂ : List β}, Paired F l₁ l₂ → (∀ a b, F a b → G a b) → Paired G l₁ l₂
  | _, _, .nil, _ => .nil
  | _, _, .cons r t, f => .cons (f _ _ r) (Paired.mapP t f)
/-- what an object's description leans on: its own object, its own dict, the tuples -/
theorem ObjOk.stay (x : ObjOk P w H h a o) (k : ∀ b u, (b = a ∨ H b = some (.own a)) → h.get? b = some u → h'.get? b = some u)
    (ho : ∀ b, H b = some (.own a) → H' b = some (.own a)) (ht : ∀ b xs, H b = some (.tup xs) → H' b = some (.tup xs)) : ObjOk P w H' h' a o := by
  induction o with
  | lst xs => obtain ⟨z, its, n, r, e⟩ := x; exact ⟨z, its, n, r, k _ _ (.inl rfl) e⟩
  | tup xs => obtain ⟨z, its, r, ob, e, c⟩ := x; exact ⟨z, its, r, ob, k _ _ (.inl rfl) e, c⟩
  | dK kvs => obtain ⟨z, y, vs, r, ob, es, ep, e, c⟩ := x; exact ⟨z, y, vs, r, ob, es, ep, k _ _ (.inl rfl) e, c⟩
  | dT kvs =>
    obtain ⟨z, y, xs, r, ob, es, ep, e, c⟩ := x
    exact ⟨z, y, xs, Paired.mapP r fun p q z => ⟨z.1, ht _ _ z.2.1, z.2.2⟩, ob, es, ep, k _ _ (.inl rfl) e, c⟩
  | dN kvs =>
    obtain ⟨z, y, xs, r, ob, es, ep, e, c⟩ := x
    exact ⟨z, y, xs, Paired.mapP r fun p q z => ⟨z.1, ⟨z.2.1.choose, ht _ _ z.2.1.choose_spec.1, ht _ _ z.2.1.choose_spec.2⟩, z.2.2⟩, ob, es, ep, k _ _ (.inl rfl) e, c⟩
  | set S n => obtain ⟨ob, es, ep, t, e, c⟩ := x; exact ⟨ob, es, ep, t, k _ _ (.inl rfl) e, c⟩
  | ins C dx fs =>
    obtain ⟨d, z, ne, e, mA, ⟨od, es, ep, e2, c⟩, r⟩ := x
    exact ⟨ho _ d, z, ne, k _ _ (.inl rfl) e, mA, ⟨od, es, ep, k _ _ (.inr d) e2, c⟩, r⟩
  | own y => obtain ⟨ob, e⟩ := x; exact ⟨ob, k _ _ (.inl rfl) e⟩
  | xd fs => obtain ⟨mA, ⟨od, es, ep, e, c⟩, r⟩ := x; exact ⟨mA, ⟨od, es, ep, k _ _ (.inl rfl) e, c⟩, r⟩
  | rng lo hi => obtain ⟨t, u, v, e⟩ := x; exact ⟨t, u, v, k _ _ (.inl rfl) e⟩
  | frz ob u ih => obtain ⟨e, q⟩ := x; exact ⟨k _ _ (.inl rfl) e, ih q⟩
  | tbl ps =>
    have e : h.get? a = some { cls := .none, data := .fields ps } := x
    show h'.get? a = some { cls := .none, data := .fields ps }
    exact k a _ (.inl rfl) e
  | met f y =>
    have e : h.get? a = some (PySem.W.methodObj (.ref f) (.ref y)) := x
    show h'.get? a = some (PySem.W.methodObj (.ref f) (.ref y))
    exact k a _ (.inl rfl) e
  | ext φ => obtain ⟨p, ⟨o, e⟩, st⟩ := x; exact ⟨st _ _ p fun o q => k _ _ (.inl rfl) q, ⟨o, k _ _ (.inl rfl) e⟩, st⟩
theorem HOk.lt (x : HOk P w H h) (e : H a = some o) : a < h.objs.size := (x a o e).lt
theorem HOk.fresh (x : HOk P w H h) (e : h.objs.size ≤ a) : H a = none := by
  cases q : H a with
  | none => rfl
  | some u => exact absurd (Nat.lt_of_lt_of_le (x.lt q) e) (Nat.lt_irrefl _)
/-- every object of the heap is kept -/
theorem HOk.kept (x : HOk P w H h) (k : ∀ b u, h.get? b = some u → h'.get? b = some u) : HOk P w H h' := fun a o e =>
  (x a o e).stay (fun b u _ q => k b u q) (fun _ q => q) fun _ _ q => q
/-- a new object is laid and tracked -/
theorem HOk.laid (x : HOk P w H h) (k : ∀ b u, h.get? b = some u → h'.get? b = some u) (hp : h.objs.size ≤ a) (new : ObjOk P w (upd H a o) h' a o) : HOk P w (upd H a o) h' := fun b u e => by
  have hn := x.fresh hp
  by_cases hb : b = a
  · subst hb; rw [upd_same] at e; cases e; exact new
  · rw [upd_ne hb] at e
    exact (x b u e).stay (fun c v _ q => k c v q) (fun c q => by rw [upd_ne (ne_of_none q hn)]; exact q) fun c xs q => by rw [upd_ne (ne_of_none q hn)]; exact q
end

/-- what may be read as u: it is u, or a known u -/
def Rd (H : Hp) (a : Addr) (u : HO) : Prop := H a = some u ∨ ∃ o, H a = some (.frz o u)
theorem Rd.of {H : Hp} {a : Addr} {u : HO} (h : H a = some u) : Rd H a u := .inl h
theorem Rd.ok {P : Program} {w : World} {H : Hp} {h : Heap} {a : Addr} {u : HO} (r : Rd H a u) (x : HOk P w H h) : ObjOk P w H h a u := by
  rcases r with r | ⟨o, r⟩
  · exact x a u r
  · obtain ⟨_, q⟩ := x a _ r
    exact q
/-- what may be written -/
def Mut : Option HO → Prop
  | some (.lst _) => True
  | some (.dK _) => True
  | some (.dT _) => True
  | some (.dN _) => True
  | some (.set _ _) => True
  | some (.ins _ _ _) => True
  | some (.ext _) => True
  | _ => False
section
variable {P : Program} {w : World} {H : Hp} {h h' : Heap} {x e : Addr} {o' : HO}
/-- the object at e is changed: x itself, or the dict of the instance x -/
theorem HOk.write (ok : HOk P w H h) (mu : Mut (H x)) (he : e = x ∨ H e = some (.own x)) (k : ∀ b u, b ≠ e → h.get? b = some u → h'.get? b = some u) (heo : ∃ u, h'.get? e = some u)
    (new : ObjOk P w (upd H x o') h' x o') : HOk P w (upd H x o') h' := fun b u q => by
  have nown : ∀ c y, H c = some (.own y) → c ≠ x := fun c y r z => by subst z; rw [r] at mu; exact mu
  have ntup : ∀ c xs, H c = some (.tup xs) → c ≠ x := fun c xs r z => by subst z; rw [r] at mu; exact mu
  by_cases hb : b = x
  · subst hb; rw [upd_same] at q; cases q; exact new
  · rw [upd_ne hb] at q
    by_cases hbe : b = e
    · have q' : H b = some (.own x) := by
        rcases he with z | z
        · exact absurd (hbe.trans z) hb
        · rw [hbe]; exact z
      rw [q] at q'; cases q'
      obtain ⟨v, hv⟩ := heo
      exact ⟨v, by rw [hbe]; exact hv⟩
    · refine (ok b u q).stay (fun c v hc r => k c v ?_ r) (fun c r => by rw [upd_ne (nown c b r)]; exact r) fun c xs r => by rw [upd_ne (ntup c xs r)]; exact r
      rcases hc with rfl | hc
      · exact hbe
      · rintro rfl
        rcases he with z | z
        · exact nown c b hc z
        · rw [hc] at z; cases z; exact hb rfl
end

/-! ### kept unless tracked; of the frames at fs (the callers') the slots may change (an exception that passes writes there); of the records at ex (iterators) nothing is said -/
structure Un (fs ex : List Addr) (H H' : Hp) (h h' : Heap) : Prop where
  keep : ∀ b o, h.get? b = some o → H b = none → b ∉ fs → b ∉ ex → h'.get? b = some o
  slot : ∀ b o, h.get? b = some o → H b = none → b ∈ fs → b ∉ ex → ∃ sl, h'.get? b = some { o with slots := sl }
  free : ∀ b o, h.get? b = some o → H b = none → b ∉ ex → H' b = none
  there : ∀ b o, h.get? b = some o → b ∉ ex → ∃ o', h'.get? b = some o'
  tups : ∀ b xs, H b = some (.tup xs) → H' b = some (.tup xs)
  frzs : ∀ b o u, H b = some (.frz o u) → H' b = some (.frz o u)
  tbls : ∀ b ps, H b = some (.tbl ps) → ∃ more, H' b = some (.tbl (ps ++ more))
section
variable {fs fs' ex ex' : List Addr} {H H1 H2 : Hp} {h h1 h2 h' : Heap} {a x e : Addr} {o : HO}
theorem Un.any (u : Un fs ex H H1 h h1) {b : Addr} {ob : Obj} (q : h.get? b = some ob) (n : H b = none) (hx : b ∉ ex) : ∃ sl, h1.get? b = some { ob with slots := sl } := by
  by_cases hb : b ∈ fs
  · exact u.slot b ob q n hb hx
  · exact ⟨ob.slots, u.keep b ob q n hb hx⟩
theorem Un.trans (a : Un fs ex H H1 h h1) (b : Un fs ex H1 H2 h1 h2) : Un fs ex H H2 h h2 where
  keep := fun c ob q n hc hx => b.keep c ob (a.keep c ob q n hc hx) (a.free c ob q n hx) hc hx
  slot := fun c ob q n hc hx => by
    obtain ⟨sl, e1⟩ := a.slot c ob q n hc hx
    obtain ⟨sl', e2⟩ := b.slot c _ e1 (a.free c ob q n hx) hc hx
    exact ⟨sl', e2⟩
  free := fun c ob q n hx => by
    obtain ⟨o', e1⟩ := a.there c ob q hx
    exact b.free c o' e1 (a.free c ob q n hx) hx
  there := fun c ob q hx => by
    obtain ⟨o', e1⟩ := a.there c ob q hx
    exact b.there c o' e1 hx
  tups := fun c xs q => b.tups c xs (a.tups c xs q)
  frzs := fun c ob xs q => b.frzs c ob xs (a.frzs c ob xs q)
  tbls := fun c ps q => by
    obtain ⟨m1, e1⟩ := a.tbls c ps q
    obtain ⟨m2, e2⟩ := b.tbls c _ e1
    exact ⟨m1 ++ m2, by rw [e2, Array.append_assoc]⟩
theorem Un.kept (k : ∀ b u, h.get? b = some u → h'.get? b = some u) : Un fs ex H H h h' :=
  ⟨fun b ob q _ _ _ => k b ob q, fun b ob q _ _ _ => ⟨ob.slots, k b ob q⟩, fun _ _ _ n _ => n, fun b ob q _ => ⟨ob, k b ob q⟩, fun _ _ q => q, fun _ _ _ q => q, fun _ ps q => ⟨#[], by rw [q]; simp⟩⟩
theorem Un.refl : Un fs ex H H h h := Un.kept fun _ _ q => q
theorem Un.laid (k : ∀ b u, h.get? b = some u → h'.get? b = some u) (hp : h.objs.size ≤ a) (hn : H a = none) : Un fs ex H (upd H a o) h h' where
  keep := fun b u q _ _ _ => k b u q
  slot := fun b u q _ _ _ => ⟨u.slots, k b u q⟩
  free := fun b u q n _ => by rw [upd_ne (Nat.ne_of_lt (Nat.lt_of_lt_of_le (Heap.lt_size q) hp))]; exact n
  there := fun b u q _ => ⟨u, k b u q⟩
  tups := fun b xs q => by rw [upd_ne (ne_of_none q hn)]; exact q
  frzs := fun b u xs q => by rw [upd_ne (ne_of_none q hn)]; exact q
  tbls := fun b ps q => ⟨#[], by rw [upd_ne (ne_of_none q hn), q]; simp⟩
theorem Un.write (mu : Mut (H x)) (he : e = x ∨ H e = some (.own x)) (k : ∀ b u, b ≠ e → h.get? b = some u → h'.get? b = some u) (heo : ∃ u, h'.get? e = some u) : Un fs ex H (upd H x o) h h' := by
  have hx : ∀ b, H b = none → b ≠ x := fun b n z => by subst z; rw [n] at mu; exact mu
  have hb : ∀ b, H b = none → b ≠ e := fun b n z => by
    subst z
    rcases he with r | r
    · exact hx b n r
    · rw [n] at r; cases r
  have hm : ∀ b u, H b = some u → ¬ Mut (some u) → b ≠ x := fun b u q nm z => by subst z; rw [q] at mu; exact nm mu
  refine ⟨fun b u q n _ _ => k b u (hb b n) q, fun b u q n _ _ => ⟨u.slots, k b u (hb b n) q⟩, fun b u q n _ => by rw [upd_ne (hx b n)]; exact n, fun b u q _ => ?_,
    fun b xs q => by rw [upd_ne (hm b _ q fun z => z)]; exact q, fun b u xs q => by rw [upd_ne (hm b _ q fun z => z)]; exact q, fun b ps q => ⟨#[], by rw [upd_ne (hm b _ q fun z => z), q]; simp⟩⟩
  by_cases hbe : b = e
  · subst hbe; exact heo
  · exact ⟨u, k b u hbe q⟩
theorem Un.mono (u : Un fs ex H H1 h h1) (hs : ∀ b ∈ fs, b ∈ fs') (hx : ∀ b ∈ ex, b ∈ ex') : Un fs' ex' H H1 h h1 :=
  ⟨fun b ob q n hb he => u.keep b ob q n (fun z => hb (hs b z)) fun z => he (hx b z), fun _ _ q n _ he => u.any q n fun z => he (hx _ z), fun b ob q n he => u.free b ob q n fun z => he (hx b z), fun b ob q he => u.there b ob q fun z => he (hx b z), u.tups, u.frzs, u.tbls⟩
end

/-! ### the heap without what is tracked -/
def trk (h : Heap) (H : Hp) : List Addr := (List.range h.objs.size).filter fun a => (H a).isSome
def hidT (h : Heap) (H : Hp) : Heap := PySem.W.hideAll h (trk h H)
theorem hidT_size (h : Heap) (H : Hp) : (hidT h H).objs.size = h.objs.size := PySem.W.hideAll_size _ _
theorem hidT_get {h : Heap} {H : Hp} {b : Addr} {o : Obj} (e : h.get? b = some o) (n : H b = none) : (hidT h H).get? b = some o :=
  PySem.W.hideAll_get _ e fun hm => by
    have q : (H b).isSome = true := (List.mem_filter.mp hm).2
    rw [n] at q; simp at q
theorem of_hidT {h : Heap} {H : Hp} {b : Addr} {o : Obj} (e : (hidT h H).get? b = some o) : h.get? b = some o ∧ H b = none := by
  have e' : h.get? b = some o := PySem.W.of_hideAll (trk h H) e
  refine ⟨e', ?_⟩
  cases q : H b with
  | none => rfl
  | some x =>
    have hm : b ∈ trk h H := List.mem_filter.mpr ⟨List.mem_range.mpr (Heap.lt_size e'), by simp [q]⟩
    have z : (hidT h H).get? b = none := PySem.W.hideAll_none (trk h H) hm
    rw [z] at e; cases e

/-! ### OpenK's ledger, filled with every new object but one -/
def allNews (g h : Heap) (L : Addr) : List (Addr × Obj) := (List.range h.objs.size).filterMap fun a => if a = L ∨ (g.get? a).isSome = true then none else (h.get? a).map fun o => (a, o)
def rest (g h : Heap) (L d : Addr) : List (Addr × Obj) := (allNews g h L).filter fun p => decide (p.1 ≠ d)
end L2

namespace L2
open PySem PySem.Spec PyProof.Rows

/-- the module's facts, over the base: the heap at the law's entry without what is tracked there -/
structure Mod (K : PySem.W.Frag) (mg : Str → Option Value) (base : Heap) : Prop where
  kin : K.In base
  glob : base.Ns mainGlobals mg
  blt : ∃ mb, base.Ns builtinsNs mb ∧ ∀ x : Str, x ≠ "__name__" → mb x = bootBuiltins x
  nolimit : base.NoLimit

/-- the context: a def's body (or a comprehension's block) running. base: fixed through the whole law; s₀, H₀: the entry; outer: the frames whose slots others may change (a def's callers); stack: all frames that run;
   ex: iterators that were made ahead of the entry and are walked here (a comprehension's); fn: the names whose cells were made at the entry (a def: all; a comprehension's block: its own); calm: not within an except suite; pn: pins that every state bears; xe: what is wanted of an exception that leaves the code -/
structure Cx where
  prog : Program
  w : World
  K : PySem.W.Frag
  mg : Str → Option Value
  base : Heap
  A : Around
  N : List Str
  s₀ : Shared
  H₀ : Hp
  env : Env
  outer : List Env
  stack : List Env
  ex : List Addr
  fn : Str → Bool
  calm : Bool
  pn : List (Addr × Obj)
  xe : Value → Shared → Prop
/-- the callers' frames -/
def frs (l : List Env) : List Addr := l.filterMap (·.frame)
abbrev Cx.fs (X : Cx) : List Addr := frs X.outer

def Vis (sc : Scope) (x : Str) : Prop := sc.names.lookup x = some .local ∨ sc.names.lookup x = some .cell ∨ sc.names.lookup x = some .free
def Loc (sc : Scope) (x : Str) : Prop := sc.names.lookup x = some .local ∨ sc.names.lookup x = some .cell
def Look (env : Env) (h : Heap) (m : Str → Option Value) (x : Str) (u : Value) : Prop :=
  (env.kindOf x = some .local ∧ m x = some u) ∨ ((env.kindOf x = some .cell ∨ env.kindOf x = some .free) ∧ ∃ c, env.cells.lookup x = some c ∧ h.IsCell c (some u))

structure Cx.Ok (X : Cx) : Prop where
  mod : Mod X.K X.mg X.base
  kind : X.env.scope.kind = .function
  glob : X.env.globals = mainGlobals
  blt : X.env.builtins = builtinsNs
  above : X.s₀.heap.objs.size ≤ X.env.locals
  inj : ∀ x y c, X.env.cells.lookup x = some c → X.env.cells.lookup y = some c → x = y
  has : ∀ x, (X.env.kindOf x = some .cell ∨ X.env.kindOf x = some .free) → ∃ c, X.env.cells.lookup x = some c
  cab : ∀ x c, X.fn x = true → X.env.cells.lookup x = some c → X.s₀.heap.objs.size ≤ c
  hd : X.calm = true → X.A.handled = none
  frames : X.A.frames = some X.stack
  stk : X.stack = X.outer ∨ (X.stack = X.env :: X.outer ∧ X.env.frame = some X.env.locals)
  exf : ∀ b ∈ X.ex, b ≠ X.env.locals ∧ ∀ x c, X.env.cells.lookup x = some c → c ≠ b
  bs : ∀ b o, X.base.get? b = some o → X.s₀.heap.get? b = some o ∧ X.H₀ b = none
  bsz : X.base.objs.size ≤ X.s₀.heap.objs.size
  noex : ∀ b o, X.base.get? b = some o → b ∉ X.ex
  exfs : ∀ b ∈ X.ex, b ∉ X.fs
  funs : X.s₀.heap.FunFrames X.base X.outer
  frf : ∀ b ∈ X.fs, X.H₀ b = none

structure Inv (X : Cx) (pins : List (Addr × Obj)) (σ : List (Option V)) (H : Hp) (s : Shared) : Prop where
  ok : X.Ok
  os : s.os = X.s₀.os
  bare : AllBare s.gens
  base : Un X.fs X.ex X.H₀ H X.s₀.heap s.heap
  loc : ∃ m, s.heap.Ns X.env.locals m ∧ ∀ (i : Nat) (x : Str) (v : V), X.N[i]? = some x → σ[i]? = some (some v) → Vis X.env.scope x → ∃ u, RelV v u ∧ Look X.env s.heap m x u
  cell : ∀ x c, X.env.cells.lookup x = some c → ∃ v, s.heap.IsCell c v
  free : H X.env.locals = none
  freeC : ∀ x c, X.env.cells.lookup x = some c → H c = none
  pin : ∀ p ∈ X.pn ++ pins, s.heap.get? p.1 = some p.2 ∧ H p.1 = none ∧ p.1 ≠ X.env.locals ∧ p.1 ∉ X.fs ∧ ∀ v, p.2.data ≠ .cell v
  hok : HOk X.prog X.w H s.heap
  len : σ.length = X.N.length

section
variable {X : Cx} {pins : List (Addr × Obj)} {σ : List (Option V)} {H H' : Hp} {s : Shared} {h' : Heap}

theorem Cx.Ok.nofr (ok : X.Ok) {b : Addr} {o : Obj} (e : X.base.get? b = some o) : b ∉ X.fs := fun hb => by
  have := (ok.funs.mem hb).1
  rw [e] at this; cases this
theorem Inv.bs (I : Inv X pins σ H s) : ∀ b o, X.base.get? b = some o → s.heap.get? b = some o ∧ H b = none := fun b o e =>
  ⟨I.base.keep b o (I.ok.bs b o e).1 (I.ok.bs b o e).2 (I.ok.nofr e) (I.ok.noex b o e), I.base.free b o (I.ok.bs b o e).1 (I.ok.bs b o e).2 (I.ok.noex b o e)⟩
theorem Inv.bk (I : Inv X pins σ H s) : ∀ b o, X.base.get? b = some o → s.heap.get? b = some o := fun b o e => (I.bs b o e).1
theorem Inv.mod (I : Inv X pins σ H s) : Mod X.K X.mg X.base := I.ok.mod
theorem Inv.kIn (I : Inv X pins σ H s) : X.K.In s.heap := I.ok.mod.kin.keeps I.bk
theorem Inv.nolimit (I : Inv X pins σ H s) : s.heap.NoLimit := I.ok.mod.nolimit.keeps I.bk
/-- the frame over the base: for OpenK's rules (K.In X.base is I.mod.kin) -/
theorem Inv.fr (I : Inv X pins σ H s) : ∃ m, Fr X.base X.env.locals s.heap m :=
  let ⟨m, hn, _⟩ := I.loc
  ⟨m, hn, I.bk, Nat.le_trans I.ok.bsz I.ok.above⟩
theorem Inv.lt (I : Inv X pins σ H s) : X.env.locals < s.heap.objs.size := let ⟨_, hn, _⟩ := I.loc; hn.lt
theorem Inv.sz (I : Inv X pins σ H s) : X.s₀.heap.objs.size ≤ s.heap.objs.size := Nat.le_trans I.ok.above (Nat.le_of_lt I.lt)
theorem Inv.nofs (I : Inv X pins σ H s) {a : Addr} (h : s.heap.objs.size ≤ a) : a ∉ X.fs := fun hb => by
  obtain ⟨_, o, ho, _⟩ := I.ok.funs.mem hb
  exact absurd (Nat.lt_of_lt_of_le (Heap.lt_size ho) (Nat.le_trans I.sz h)) (Nat.lt_irrefl _)
theorem Inv.cne (I : Inv X pins σ H s) : ∀ x c, X.env.cells.lookup x = some c → c ≠ X.env.locals := fun x c e z => by
  obtain ⟨v, o, ho, hd⟩ := I.cell x c e
  obtain ⟨m, ⟨o', es, ep, ho', hd', _⟩, _⟩ := I.loc
  rw [z, ho'] at ho; cases ho; rw [hd'] at hd; cases hd
theorem Inv.funs (I : Inv X pins σ H s) : s.heap.FunFrames X.base X.outer := by
  have all : ∀ (l : List Env), (∀ b ∈ frs l, b ∈ X.fs) → X.s₀.heap.FunFrames X.base l → s.heap.FunFrames X.base l := by
    intro l
    induction l with
    | nil => intro _ _; trivial
    | cons env r ih =>
      intro hs hl
      obtain ⟨hk, ⟨L, o, hf, hn, ho, hd⟩, hr⟩ := hl
      have hL : L ∈ X.fs := hs L (by unfold frs; rw [List.filterMap_cons, hf]; exact List.mem_cons_self)
      obtain ⟨sl, e⟩ := I.base.slot L o ho (I.ok.frf L hL) hL fun z => I.ok.exfs L z hL
      exact ⟨hk, ⟨L, _, hf, hn, e, hd⟩, ih (fun b hb => hs b (by unfold frs; rw [List.filterMap_cons, hf]; exact List.mem_cons_of_mem _ hb)) hr⟩
  exact all X.outer (fun _ hb => hb) I.ok.funs

/-- the frames that run, for a call -/
theorem Inv.stack (I : Inv X pins σ H s) : s.heap.FunFrames X.base X.stack := by
  rcases I.ok.stk with e | ⟨e, hf⟩
  · rw [e]; exact I.funs
  · rw [e]
    obtain ⟨m, hn, _⟩ := I.loc
    refine .cons (by rw [I.ok.kind]; decide) hf hn ?_ I.funs
    exact Heap.get?_none_of_le (Nat.le_trans I.ok.bsz I.ok.above)
theorem Inv.stkSub (I : Inv X pins σ H s) : ∀ b ∈ frs X.stack, b ∈ X.env.locals :: X.fs := fun b hb => by
  rcases I.ok.stk with e | ⟨e, hf⟩
  · rw [e] at hb; exact List.mem_cons_of_mem _ hb
  · rw [e] at hb
    unfold frs at hb
    rw [List.filterMap_cons, hf] at hb
    exact hb
theorem Inv.stkFree (I : Inv X pins σ H s) : ∀ b ∈ frs X.stack, H b = none := fun b hb => by
  rcases List.mem_cons.mp (I.stkSub b hb) with e | hb
  · rw [e]; exact I.free
  · obtain ⟨_, o, ho, _⟩ := I.ok.funs.mem hb
    exact I.base.free b o ho (I.ok.frf b hb) fun z => I.ok.exfs b z hb

/-- THE STEP: the untracked objects but the frame and the records at ch are kept (the callers' frames up to slots), the frame's map is kept, the new abstract heap is held -/
theorem Inv.step {g' : Array GenState} {t' : Nat} {d' : Drawn} {ch : List Addr} (I : Inv X pins σ H s)
    (hch : ∀ b ∈ ch, (b ∈ X.ex ∨ X.s₀.heap.objs.size ≤ b) ∧ b ≠ X.env.locals ∧ (∀ x c, X.env.cells.lookup x = some c → c ≠ b) ∧ ∀ p ∈ X.pn ++ pins, p.1 ≠ b)
    (keep : ∀ b o, b ≠ X.env.locals → b ∉ X.fs → b ∉ ch → s.heap.get? b = some o → H b = none → h'.get? b = some o)
    (slot : ∀ b o, b ≠ X.env.locals → b ∈ X.fs → b ∉ ch → s.heap.get? b = some o → H b = none → ∃ sl, h'.get? b = some { o with slots := sl }) (free : ∀ b o, b ∉ ch → s.heap.get? b = some o → H b = none → H' b = none)
    (there : ∀ b o, b ∉ ch → s.heap.get? b = some o → ∃ o', h'.get? b = some o')
    (tups : ∀ b xs, H b = some (.tup xs) → H' b = some (.tup xs)) (frzs : ∀ b o u, H b = some (.frz o u) → H' b = some (.frz o u)) (tbls : ∀ b ps, H b = some (.tbl ps) → ∃ more, H' b = some (.tbl (ps ++ more)))
    (ns : ∀ m, s.heap.Ns X.env.locals m → h'.Ns X.env.locals m) (hok : HOk X.prog X.w H' h') (hg : AllBare g') :
    Inv X pins σ H' { s with heap := h', gens := g', drawn := d', toks := t' } := by
  have neL : ∀ b o, X.s₀.heap.get? b = some o → b ≠ X.env.locals := fun b o e => Nat.ne_of_lt (Nat.lt_of_lt_of_le (Heap.lt_size e) I.ok.above)
  have neC : ∀ b o, X.s₀.heap.get? b = some o → b ∉ X.ex → b ∉ ch := fun b o e hx hb => by
    rcases (hch b hb).1 with z | z
    · exact hx z
    · exact absurd (Nat.lt_of_lt_of_le (Heap.lt_size e) z) (Nat.lt_irrefl _)
  have cellK : ∀ x c, X.env.cells.lookup x = some c → ∀ v, s.heap.IsCell c v → h'.IsCell c v := fun x c e v ⟨o, ho, hd⟩ => by
    have nch : c ∉ ch := fun z => (hch c z).2.2.1 x c e rfl
    by_cases hc : c ∈ X.fs
    · obtain ⟨sl, q⟩ := slot c o (I.cne x c e) hc nch ho (I.freeC x c e)
      exact ⟨_, q, hd⟩
    · exact ⟨o, keep c o (I.cne x c e) hc nch ho (I.freeC x c e), hd⟩
  refine ⟨I.ok, I.os, hg, ⟨fun b o e n hb hx => ?_, fun b o e n hb hx => ?_, fun b o e n hx => ?_, fun b o e hx => ?_, fun b xs e => tups b xs (I.base.tups b xs e), fun b o xs e => frzs b o xs (I.base.frzs b o xs e), fun b ps e => ?_⟩, ?_, fun x c e => ?_, ?_, fun x c e => ?_, fun p hp => ?_, hok, I.len⟩
  · exact keep b o (neL b o e) hb (neC b o e hx) (I.base.keep b o e n hb hx) (I.base.free b o e n hx)
  · obtain ⟨sl, e1⟩ := I.base.slot b o e n hb hx
    obtain ⟨sl', e2⟩ := slot b _ (neL b o e) hb (neC b o e hx) e1 (I.base.free b o e n hx)
    exact ⟨sl', e2⟩
  · obtain ⟨o', e1⟩ := I.base.there b o e hx
    exact free b o' (neC b o e hx) e1 (I.base.free b o e n hx)
  · obtain ⟨o', e1⟩ := I.base.there b o e hx
    exact there b o' (neC b o e hx) e1
  · obtain ⟨m1, e1⟩ := I.base.tbls b ps e
    obtain ⟨m2, e2⟩ := tbls b _ e1
    exact ⟨m1 ++ m2, by rw [e2, Array.append_assoc]⟩
  · obtain ⟨m, hn, hl⟩ := I.loc
    refine ⟨m, ns m hn, fun i x v e1 e2 e3 => ?_⟩
    obtain ⟨u, r, l⟩ := hl i x v e1 e2 e3
    refine ⟨u, r, ?_⟩
    rcases l with l | ⟨k, c, e, z⟩
    · exact .inl l
    · exact .inr ⟨k, c, e, cellK x c e _ z⟩
  · obtain ⟨v, z⟩ := I.cell x c e
    exact ⟨v, cellK x c e v z⟩
  · obtain ⟨m, ⟨o, _, _, ho, _⟩, _⟩ := I.loc
    exact free _ o (fun z => (hch _ z).2.1 rfl) ho I.free
  · obtain ⟨v, o, ho, hd⟩ := I.cell x c e
    exact free c o (fun z => (hch c z).2.2.1 x c e rfl) ho (I.freeC x c e)
  · obtain ⟨e, n, ne, nf, d⟩ := I.pin p hp
    have nch : p.1 ∉ ch := fun z => (hch p.1 z).2.2.2 p hp rfl
    exact ⟨keep p.1 p.2 ne nf nch e n, free p.1 p.2 nch e n, ne, nf, d⟩
/-- .. where the frame's own object is kept too -/
theorem Inv.un {t' : Nat} (I : Inv X pins σ H s) (u : Un X.fs [] H H' s.heap h') (hok : HOk X.prog X.w H' h') : Inv X pins σ H' { s with heap := h', toks := t' } := by
  obtain ⟨m, ⟨o, es, ep, ho, r⟩, _⟩ := id I.loc
  obtain ⟨sl, hL⟩ := u.any ho I.free (by simp)
  exact I.step (g' := s.gens) (d' := s.drawn) (ch := []) (fun _ z => nomatch z) (fun b o _ hb _ e n => u.keep b o e n hb (by simp)) (fun b o _ hb _ e n => u.slot b o e n hb (by simp)) (fun b o _ e n => u.free b o e n (by simp)) (fun b o _ e => u.there b o e (by simp)) u.tups u.frzs u.tbls (fun m' hm => by
    obtain ⟨o', es', ep', ho', r'⟩ := hm
    rw [ho] at ho'; cases ho'
    exact ⟨_, es', ep', hL, r'⟩) hok I.bare
/-- behind a call (or a comprehension's block): the slots of this frame may have changed too, the records at ch may have turned -/
theorem Inv.call {g' : Array GenState} {t' : Nat} {d' : Drawn} {ch : List Addr} (I : Inv X pins σ H s) (u : Un (frs X.stack) ch H H' s.heap h') (hok : HOk X.prog X.w H' h') (hg : AllBare g')
    (hch : ∀ b ∈ ch, (b ∈ X.ex ∨ X.s₀.heap.objs.size ≤ b) ∧ b ≠ X.env.locals ∧ (∀ x c, X.env.cells.lookup x = some c → c ≠ b) ∧ ∀ p ∈ X.pn ++ pins, p.1 ≠ b) :
    Inv X pins σ H' { s with heap := h', gens := g', drawn := d', toks := t' } := by
  obtain ⟨m, ⟨o, es, ep, ho, r⟩, _⟩ := id I.loc
  obtain ⟨sl, hL⟩ := u.any ho I.free fun z => (hch _ z).2.1 rfl
  exact I.step (ch := ch) hch (fun b o hL hb hc e n => u.keep b o e n (fun z => (List.mem_cons.mp (I.stkSub b z)).elim hL hb) hc) (fun b o _ _ hc e n => u.any e n hc) (fun b o hc e n => u.free b o e n hc) (fun b o hc e => u.there b o e hc) u.tups u.frzs u.tbls (fun m' hm => by
    obtain ⟨o', es', ep', ho', r'⟩ := hm
    rw [ho] at ho'; cases ho'
    exact ⟨_, es', ep', hL, r'⟩) hok hg
/-- an untracked record of ours (an iterator) has turned -/
theorem Inv.turned {t' : Nat} {it : Addr} (I : Inv X pins σ H s) (k : ∀ b o, b ≠ it → s.heap.get? b = some o → h'.get? b = some o) (hn : H it = none) (hL : it ≠ X.env.locals)
    (h1 : it ∈ X.ex ∨ X.s₀.heap.objs.size ≤ it) (h2 : ∀ x c, X.env.cells.lookup x = some c → c ≠ it) (h3 : ∀ p ∈ X.pn ++ pins, p.1 ≠ it) : Inv X pins σ H { s with heap := h', toks := t' } := by
  have nit : ∀ b u, H b = some u → b ≠ it := fun b u e z => by rw [z, hn] at e; cases e
  refine I.step (g' := s.gens) (d' := s.drawn) (ch := [it]) (fun b hb => ?_) (fun b o _ _ hc e _ => k b o (fun z => hc (by simp [z])) e) (fun b o _ _ hc e _ => ⟨o.slots, k b o (fun z => hc (by simp [z])) e⟩) (fun _ _ _ _ n => n)
    (fun b o hc e => ⟨o, k b o (fun z => hc (by simp [z])) e⟩) (fun _ _ e => e) (fun _ _ _ e => e) (fun b ps e => ⟨#[], by rw [e]; simp⟩) (fun m hm => ?_) (fun b u e => ?_) I.bare
  · have e : b = it := by simpa using hb
    subst e
    exact ⟨h1, hL, h2, h3⟩
  · obtain ⟨o, es, ep, ho, r⟩ := hm
    exact ⟨o, es, ep, k _ o (Ne.symm hL) ho, r⟩
  · refine (I.hok b u e).stay (fun c v hc q => k c v ?_ q) (fun _ q => q) fun _ _ q => q
    rcases hc with z | z
    · rw [z]; exact nit b u e
    · exact nit c _ z
theorem Inv.tok (I : Inv X pins σ H s) (t : Nat) : Inv X pins σ H { s with toks := t } := I.un (h' := s.heap) (t' := t) Un.refl I.hok
/-- all objects kept -/
theorem Inv.kept {t' : Nat} (I : Inv X pins σ H s) (k : ∀ b u, s.heap.get? b = some u → h'.get? b = some u) : Inv X pins σ H { s with heap := h', toks := t' } := I.un (Un.kept k) (I.hok.kept k)
/-- a new object laid and tracked -/
theorem Inv.laid {a : Addr} {o : HO} {t' : Nat} (I : Inv X pins σ H s) (k : ∀ b u, s.heap.get? b = some u → h'.get? b = some u) (hp : s.heap.objs.size ≤ a) (new : ObjOk X.prog X.w (upd H a o) h' a o) :
    Inv X pins σ (upd H a o) { s with heap := h', toks := t' } := I.un (Un.laid k hp (I.hok.fresh hp)) (I.hok.laid k hp new)
/-- an object written -/
theorem Inv.write {x e : Addr} {o : HO} {t' : Nat} (I : Inv X pins σ H s) (mu : Mut (H x)) (he : e = x ∨ H e = some (.own x)) (k : ∀ b u, b ≠ e → s.heap.get? b = some u → h'.get? b = some u) (heo : ∃ u, h'.get? e = some u)
    (new : ObjOk X.prog X.w (upd H x o) h' x o) : Inv X pins σ (upd H x o) { s with heap := h', toks := t' } := I.un (Un.write mu he k heo) (I.hok.write mu he k heo new)
theorem Inv.pins_of {pins' : List (Addr × Obj)} (I : Inv X pins σ H s) (h : ∀ p ∈ pins', s.heap.get? p.1 = some p.2 ∧ H p.1 = none ∧ p.1 ≠ X.env.locals ∧ p.1 ∉ X.fs ∧ ∀ v, p.2.data ≠ .cell v) : Inv X pins' σ H s :=
  ⟨I.ok, I.os, I.bare, I.base, I.loc, I.cell, I.free, I.freeC, fun p hp => (List.mem_append.mp hp).elim (fun z => I.pin p (List.mem_append_left _ z)) (h p), I.hok, I.len⟩

theorem nodup_ix {N : List Str} (hN : N.Nodup) {i j : Nat} {x : Str} (a : N[i]? = some x) (b : N[j]? = some x) : i = j := by
  obtain ⟨h1, e1⟩ := List.getElem?_eq_some_iff.mp a
  obtain ⟨h2, e2⟩ := List.getElem?_eq_some_iff.mp b
  exact (List.getElem_inj hN).mp (e1.trans e2.symm)

/-- a name is stored; what changed -/
theorem store_ok2 {M : Model} {A : Around} {E : Value → Shared → Prop} {i : Nat} {x : Str} {v : V} {u : Value} {Q : Unit → Shared → Prop} (I : Inv X pins σ H s) (hN : X.N.Nodup) (hi : X.N[i]? = some x) (hx : Loc X.env.scope x) (r : RelV v u)
    (h : ∀ s', Inv X pins (σ.set i (some v)) H s' → (∃ a, Heap.SameBut a s.heap s'.heap ∧ (a = X.env.locals ∨ X.env.cells.lookup x = some a)) → Q () s') (hf : X.fn x = true ∨ X.env.scope.names.lookup x = some .local := by first | exact .inl rfl | exact .inr rfl | assumption) : wpAny M A (storeName X.env x u) Q E s := by
  obtain ⟨m, hn, hl⟩ := id I.loc
  have hcls : (X.env.scope.kind == .class || (X.env.scope.kind == .module && X.env.locals != X.env.globals)) = false := by rw [I.ok.kind]; rfl
  have hiσ : i < σ.length := by rw [I.len]; exact (List.getElem?_eq_some_iff.mp hi).1
  have cne := I.cne
  have tracked : ∀ {a : Addr} {h' : Heap}, (∃ o, s.heap.get? a = some o ∧ H a = none) → Heap.SameBut a s.heap h' → HOk X.prog X.w H h' := fun {a h'} ha hs b ob e => by
    obtain ⟨_, _, hfree⟩ := ha
    refine (I.hok b ob e).stay (fun c w' hc q => (hs.2 c ?_).trans q) (fun _ q => q) fun _ _ q => q
    rintro rfl
    rcases hc with rfl | hc
    · rw [hfree] at e; cases e
    · rw [hfree] at hc; cases hc
  rcases hx with hk | hk
  · refine wpAny_storeName_local hk hn (fun h' hn' hs => ?_) hcls
    obtain ⟨oL, _, _, hoL, _⟩ := id hn
    refine h _ ⟨I.ok, I.os, I.bare, ⟨fun b o e n hb hx => ?_, fun b o e n hb hx => ?_, I.base.free, fun b o e hx => ?_, I.base.tups, I.base.frzs, I.base.tbls⟩, ⟨_, hn', fun j y v' e1 e2 e3 => ?_⟩, fun y c e => ?_, I.free, I.freeC, fun p hp => ?_, tracked ⟨oL, hoL, I.free⟩ hs, by simpa using I.len⟩ ⟨_, hs, .inl rfl⟩
    · exact (hs.2 b (Nat.ne_of_lt (Nat.lt_of_lt_of_le (Heap.lt_size e) I.ok.above))).trans (I.base.keep b o e n hb hx)
    · obtain ⟨sl, e1⟩ := I.base.slot b o e n hb hx
      exact ⟨sl, (hs.2 b (Nat.ne_of_lt (Nat.lt_of_lt_of_le (Heap.lt_size e) I.ok.above))).trans e1⟩
    · obtain ⟨o', e1⟩ := I.base.there b o e hx
      exact ⟨o', (hs.2 b (Nat.ne_of_lt (Nat.lt_of_lt_of_le (Heap.lt_size e) I.ok.above))).trans e1⟩
    · by_cases hj : j = i
      · subst hj
        rw [hi] at e1; cases e1
        rw [List.getElem?_set_self hiσ] at e2
        cases e2
        exact ⟨u, r, .inl ⟨hk, by simp⟩⟩
      · rw [List.getElem?_set_ne (Ne.symm hj)] at e2
        obtain ⟨u', r', q⟩ := hl j y v' e1 e2 e3
        refine ⟨u', r', ?_⟩
        rcases q with ⟨k, e⟩ | ⟨k, c, e, z⟩
        · refine .inl ⟨k, ?_⟩
          have : y ≠ x := fun e => hj (nodup_ix hN e1 (e ▸ hi))
          simp [this, e]
        · exact .inr ⟨k, c, e, z.sameBut hs (cne y c e)⟩
    · obtain ⟨w', z⟩ := I.cell y c e
      exact ⟨w', z.sameBut hs (cne y c e)⟩
    · obtain ⟨e, n, ne, nf, d⟩ := I.pin p hp
      exact ⟨(hs.2 p.1 ne).trans e, n, ne, nf, d⟩
  · have hfn : X.fn x = true := by
      rcases hf with z | z
      · exact z
      · rw [z] at hk; cases hk
    obtain ⟨c, hc⟩ := I.ok.has x (.inl hk)
    obtain ⟨w', z⟩ := I.cell x c hc
    refine wpAny_storeName_cell I.ok.kind hk hc z (fun h' hc' hs => ?_)
    obtain ⟨oc, hoc, hocd⟩ := id z
    refine h { s with heap := h' } ⟨I.ok, I.os, I.bare, ⟨fun b o e n hb hx => ?_, fun b o e n hb hx => ?_, I.base.free, fun b o e hx => ?_, I.base.tups, I.base.frzs, I.base.tbls⟩, ⟨m, hn.sameBut hs (Ne.symm (cne x c hc)), fun j y v' e1 e2 e3 => ?_⟩, fun y c' e => ?_, I.free, I.freeC, fun p hp => ?_, tracked ⟨oc, hoc, I.freeC x c hc⟩ hs, by simpa using I.len⟩ ⟨c, hs, .inr hc⟩
    · exact (hs.2 b (Nat.ne_of_lt (Nat.lt_of_lt_of_le (Heap.lt_size e) (I.ok.cab x c hfn hc)))).trans (I.base.keep b o e n hb hx)
    · obtain ⟨sl, e1⟩ := I.base.slot b o e n hb hx
      exact ⟨sl, (hs.2 b (Nat.ne_of_lt (Nat.lt_of_lt_of_le (Heap.lt_size e) (I.ok.cab x c hfn hc)))).trans e1⟩
    · obtain ⟨o', e1⟩ := I.base.there b o e hx
      exact ⟨o', (hs.2 b (Nat.ne_of_lt (Nat.lt_of_lt_of_le (Heap.lt_size e) (I.ok.cab x c hfn hc)))).trans e1⟩
    · by_cases hj : j = i
      · subst hj
        rw [hi] at e1; cases e1
        rw [List.getElem?_set_self hiσ] at e2
        cases e2
        exact ⟨u, r, .inr ⟨.inl hk, c, hc, hc'⟩⟩
      · rw [List.getElem?_set_ne (Ne.symm hj)] at e2
        obtain ⟨u', r', q⟩ := hl j y v' e1 e2 e3
        refine ⟨u', r', ?_⟩
        rcases q with q | ⟨k, c', e, z'⟩
        · exact .inl q
        · refine .inr ⟨k, c', e, z'.sameBut hs ?_⟩
          rintro rfl
          exact hj (nodup_ix hN e1 (I.ok.inj _ _ _ e hc ▸ hi))
    · by_cases hcc : c' = c
      · subst hcc; exact ⟨_, hc'⟩
      · obtain ⟨w2, z2⟩ := I.cell y c' e
        exact ⟨w2, z2.sameBut hs hcc⟩
    · obtain ⟨e, n, ne, nf, d⟩ := I.pin p hp
      refine ⟨(hs.2 p.1 ?_).trans e, n, ne, nf, d⟩
      intro q
      rw [q, hoc] at e
      have q' : oc = p.2 := Option.some.inj e
      exact d w' (by rw [← q']; exact hocd)
theorem store_ok {M : Model} {A : Around} {E : Value → Shared → Prop} {i : Nat} {x : Str} {v : V} {u : Value} {Q : Unit → Shared → Prop} (I : Inv X pins σ H s) (hN : X.N.Nodup) (hi : X.N[i]? = some x) (hx : Loc X.env.scope x) (r : RelV v u)
    (h : ∀ s', Inv X pins (σ.set i (some v)) H s' → Q () s') (hf : X.fn x = true ∨ X.env.scope.names.lookup x = some .local := by first | exact .inl rfl | exact .inr rfl | assumption) : wpAny M A (storeName X.env x u) Q E s :=
  store_ok2 I hN hi hx r (fun s' I' _ => h s' I') hf
/-- behind a call or a block, the state as it is -/
theorem Inv.call' {s' : Shared} {ch : List Addr} (I : Inv X pins σ H s) (ho : s'.os = s.os) (u : Un (frs X.stack) ch H H' s.heap s'.heap) (hok : HOk X.prog X.w H' s'.heap) (hg : AllBare s'.gens)
    (hch : ∀ b ∈ ch, (b ∈ X.ex ∨ X.s₀.heap.objs.size ≤ b) ∧ b ≠ X.env.locals ∧ (∀ x c, X.env.cells.lookup x = some c → c ≠ b) ∧ ∀ p ∈ X.pn ++ pins, p.1 ≠ b) : Inv X pins σ H' s' := by
  obtain ⟨h', g', d', t', o'⟩ := s'
  have e : o' = s.os := ho
  subst e
  exact I.call (g' := g') (t' := t') (d' := d') u hok hg hch
end

/-! ### the judgements -/
/-- an exception: its class, its own dict's address (where it has one), the abstract heap behind it -/
abbrev XK := Value → Option Addr → Hp → Prop
abbrev St := List (Option V)
abbrev VK := V → Hp → Prop
/-- an expression's reading; a test's; an argument list's -/
abbrev TE := St → Hp → VK → Prop
abbrev TT := St → Hp → (Bool → Hp → Prop) → Prop
abbrev TA := St → Hp → (List V → Hp → Prop) → Prop
/-- what is wanted behind a statement -/
structure Ends where
  nx : St → Hp → Prop
  rt : VK
  bk : St → Hp → Prop := fun _ _ => False
  ct : St → Hp → Prop := fun _ _ => False
abbrev TS := Ends → St → Hp → Prop

def EP (X : Cx) (pins : List (Addr × Obj)) (σ : St) (Q : VK) (u : Value) (s' : Shared) : Prop := ∃ v H', Inv X pins σ H' s' ∧ RelV v u ∧ Q v H'
def TP (X : Cx) (pins : List (Addr × Obj)) (σ : St) (Q : Bool → Hp → Prop) (b : Bool) (s' : Shared) : Prop := ∃ H', Inv X pins σ H' s' ∧ Q b H'
def AP (X : Cx) (pins : List (Addr × Obj)) (σ : St) (Q : List V → Hp → Prop) (us : List Value) (s' : Shared) : Prop := ∃ vs H', Inv X pins σ H' s' ∧ Vals vs us ∧ Q vs H'
def SP (X : Cx) (pins : List (Addr × Obj)) (D : Ends) (f : Flow) (s' : Shared) : Prop :=
  match f with
  | .next => ∃ σ' H', Inv X pins σ' H' s' ∧ D.nx σ' H'
  | .brk => ∃ σ' H', Inv X pins σ' H' s' ∧ D.bk σ' H'
  | .cont => ∃ σ' H', Inv X pins σ' H' s' ∧ D.ct σ' H'
  | .ret u => ∃ v σ' H', Inv X pins σ' H' s' ∧ RelV v u ∧ D.rt v H'

def PE (X : Cx) (e : Expr) (t : TE) : Prop :=
  ∀ (pins : List (Addr × Obj)) (s : Shared) (σ : St) (H : Hp) (Q : VK), Inv X pins σ H s → t σ H Q → wpAny (model X.prog X.w) X.A (eval e X.env) (EP X pins σ Q) X.xe s
def PT (X : Cx) (e : Expr) (t : TT) : Prop :=
  ∀ (pins : List (Addr × Obj)) (s : Shared) (σ : St) (H : Hp) (Q : Bool → Hp → Prop), Inv X pins σ H s → t σ H Q → wpAny (model X.prog X.w) X.A (isTrue e X.env (eval e X.env)) (TP X pins σ Q) X.xe s
/-- a test whatever its 'whole' is (and, or) -/
def PW (X : Cx) (e : Expr) (t : TT) : Prop :=
  ∀ (whole : Sem Value) (pins : List (Addr × Obj)) (s : Shared) (σ : St) (H : Hp) (Q : Bool → Hp → Prop), Inv X pins σ H s → t σ H Q → wpAny (model X.prog X.w) X.A (isTrue e X.env whole) (TP X pins σ Q) X.xe s
theorem PW.pt {X : Cx} {e : Expr} {t : TT} (h : PW X e t) : PT X e t := h _
/-- an argument list (no star), from the left -/
def PA (X : Cx) (es : List Expr) (t : TA) : Prop :=
  ∀ (pos : Pos) (pins : List (Addr × Obj)) (s : Shared) (σ : St) (H : Hp) (Q : List V → Hp → Prop), Inv X pins σ H s → t σ H Q → wpAny (model X.prog X.w) X.A (spliced (backTo pos (starEach es X.env))) (AP X pins σ Q) X.xe s
def PS (X : Cx) (st : Stmt) (t : TS) : Prop :=
  ∀ (pins : List (Addr × Obj)) (s : Shared) (σ : St) (H : Hp) (D : Ends), Inv X pins σ H s → t D σ H → wpAny (model X.prog X.w) X.A (exec st X.env) (SP X pins D) X.xe s
def PSs (X : Cx) (st : List Stmt) (t : TS) : Prop :=
  ∀ (pins : List (Addr × Obj)) (s : Shared) (σ : St) (H : Hp) (D : Ends), Inv X pins σ H s → t D σ H → wpAny (model X.prog X.w) X.A (execs st X.env) (SP X pins D) X.xe s
/-- weaken the end -/
theorem thn {α : Type} {t : Sem α} {Q Q' : α → Shared → Prop} {M : Model} {A : Around} {E : Value → Shared → Prop} {s : Shared} (h : wpAny M A t Q E s) (hQ : ∀ a s, Q a s → Q' a s) : wpAny M A t Q' E s := wpAny_mono h hQ fun _ _ x => x
end L2

namespace L2
open PySem PySem.Spec PyProof.Rows
section
variable {X : Cx}

/-! ### names and constants -/
def tVar (i : Nat) : TE := fun σ H Q => ∃ v, σ[i]? = some (some v) ∧ Q v H
def tC (v : V) : TE := fun _ H Q => Q v H
theorem pe_var {i : Nat} {x : Str} {pos : Pos} (hN : X.N[i]? = some x) (hv : Vis X.env.scope x) (hd : (x == ("__debug__" : Str)) = false := by decide) (hcd : (x == ("__classdict__" : Str)) = false := by decide) : PE X (.Name x pos) (tVar i) := by
  intro pins s σ H Q I h
  obtain ⟨v, e, h⟩ := h
  obtain ⟨m, hn, hl⟩ := I.loc
  obtain ⟨u, r, l⟩ := hl i x v hN e hv
  have fin : EP X pins σ Q u s := ⟨v, H, I, r, h⟩
  rcases l with ⟨hk, hm⟩ | ⟨hk, c, hc, hcell⟩
  · exact wpAny_Name (wpAny_loadName_local I.ok.kind hk hn hm fin) hd
  · rcases hk with hk | hk
    · exact wpAny_Name (wpAny_loadName_cell I.ok.kind hk hc hcell fin) hd
    · exact wpAny_Name (wpAny_loadName_free I.ok.kind hk hc hcell fin hcd) hd
theorem pe_int {i j pos} : PE X (.Constant (.int i) j pos) (tC (.int i)) := fun _ _ _ H _ I h => wpAny_Constant_int ⟨.int i, H, I.tok _, ⟨_, rfl⟩, h⟩
theorem pe_bl {b j pos} : PE X (.Constant (.bool b) j pos) (tC (.bl b)) := fun _ _ _ H _ I h => Constant_bool ⟨.bl b, H, I, rfl, h⟩
/-- a global name of the def -/
def Gl (X : Cx) (x : Str) : Prop := X.env.kindOf x = some .globalImplicit
theorem ld_glob {E : Value → Shared → Prop} {pins : List (Addr × Obj)} {s : Shared} {σ : St} {H : Hp} {x : Str} {u : Value} {pos : Pos} {Q : Value → Shared → Prop} (I : Inv X pins σ H s) (hg : Gl X x) (hm : X.mg x = some u) (h : Q u s)
    (hd : (x == ("__debug__" : Str)) = false := by decide) : wpAny (model X.prog X.w) X.A (eval (.Name x pos) X.env) Q E s :=
  Calls.Name_function_global I.ok.kind hg (Calls.loadGlobal_global (by rw [I.ok.glob]; exact I.mod.glob.keeps I.bk) hm h) hd
theorem ld_blt {E : Value → Shared → Prop} {pins : List (Addr × Obj)} {s : Shared} {σ : St} {H : Hp} {x : Str} {u : Value} {pos : Pos} {Q : Value → Shared → Prop} (I : Inv X pins σ H s) (hg : Gl X x) (hm : X.mg x = none) (hv : bootBuiltins x = some u) (h : Q u s)
    (hn : x ≠ "__name__" := by decide) (hd : (x == ("__debug__" : Str)) = false := by decide) : wpAny (model X.prog X.w) X.A (eval (.Name x pos) X.env) Q E s := by
  obtain ⟨mb, h1, h2⟩ := I.mod.blt
  exact Calls.Name_function_global I.ok.kind hg (Calls.loadGlobal_builtin (by rw [I.ok.glob]; exact I.mod.glob.keeps I.bk) hm (by rw [I.ok.blt]; exact h1.keeps I.bk) ((h2 x hn).trans hv) h) hd
/-- a module's constant, a class, a function, as a value -/
theorem pe_glob {x : Str} {v : V} {u : Value} {pos : Pos} (hg : Gl X x) (hm : X.mg x = some u) (r : RelV v u) (hd : (x == ("__debug__" : Str)) = false := by decide) : PE X (.Name x pos) (tC v) :=
  fun _ _ _ H _ I h => ld_glob I hg hm ⟨v, H, I, r, h⟩ hd
theorem pe_bltn {x : Str} {v : V} {u : Value} {pos : Pos} (hg : Gl X x) (hm : X.mg x = none) (hv : bootBuiltins x = some u) (r : RelV v u) (hn : x ≠ "__name__" := by decide) (hd : (x == ("__debug__" : Str)) = false := by decide) : PE X (.Name x pos) (tC v) :=
  fun _ _ _ H _ I h => ld_blt I hg hm hv ⟨v, H, I, r, h⟩ hn hd

/-! ### arithmetic -/
/-- two ints -/
def t2I (ta tb : TE) (k : Int → Int → Hp → Prop) : St → Hp → Prop := fun σ H => ta σ H fun x H1 => tb σ H1 fun y H2 => ∃ i j, x = .int i ∧ y = .int j ∧ k i j H2
def tAdd (ta tb : TE) : TE := fun σ H Q => t2I ta tb (fun i j H2 => Q (.int (i + j)) H2) σ H
def tSub (ta tb : TE) : TE := fun σ H Q => t2I ta tb (fun i j H2 => Q (.int (i - j)) H2) σ H
/-- the left factor below 2^64 -/
def tMul (ta tb : TE) : TE := fun σ H Q => t2I ta tb (fun i j H2 => (-(2 ^ 64) < i ∧ i < 2 ^ 64) ∧ Q (.int (i * j)) H2) σ H
variable {a b : Expr} {ta tb : TE} {pos : Pos}
/-! ### comparisons -/
def PC (X : Cx) (op : CmpOp) (a b : Expr) (t : TE) : Prop :=
  ∀ (pins : List (Addr × Obj)) (s : Shared) (σ : St) (H : Hp) (Q : VK), Inv X pins σ H s → t σ H Q →
    wpAny (model X.prog X.w) X.A (eval a X.env) (fun v s₁ => wpAny (model X.prog X.w) X.A (eval b X.env) (fun u s₂ => wpAny (model X.prog X.w) X.A (compareOp op v u) (EP X pins σ Q) X.xe s₂) X.xe s₁) X.xe s
theorem nobehind (b : Expr) {op : CmpOp} (h : op ≠ .In) (h2 : op ≠ .NotIn) : behindInMarks op b = false := by
  have e1 : (op == CmpOp.In) = false := by cases op <;> first | rfl | exact absurd rfl h
  have e2 : (op == CmpOp.NotIn) = false := by cases op <;> first | rfl | exact absurd rfl h2
  cases b <;> simp [behindInMarks, e1, e2]
def tCmp (p : Int → Int → Bool) (ta tb : TE) : TE := fun σ H Q => t2I ta tb (fun i j H2 => Q (.bl (p i j)) H2) σ H
abbrev tLt : TE → TE → TE := tCmp fun i j => decide (i < j)
abbrev tLe : TE → TE → TE := tCmp fun i j => decide (i ≤ j)
abbrev tGt : TE → TE → TE := tCmp fun i j => decide (j < i)
abbrev tGe : TE → TE → TE := tCmp fun i j => decide (j ≤ i)
abbrev tEqI : TE → TE → TE := tCmp fun i j => decide (i = j)
abbrev tNeI : TE → TE → TE := tCmp fun i j => !decide (i = j)
/-- is None -/
def tIsN (ta : TE) : TE := fun σ H Q => ta σ H fun x H1 => Q (.bl (decide (x = .non))) H1
def tNotN (ta : TE) : TE := fun σ H Q => ta σ H fun x H1 => Q (.bl (!decide (x = .non))) H1
/-- a comparison as a value, as a test -/
def tB (t : TE) : TT := fun σ H Q => t σ H fun x H1 => ∃ c, x = .bl c ∧ Q c H1
theorem pt_cmp {op : CmpOp} {t : TE} (h : PC X op a b t) (h1 : behindInMarks op b = false := by first | exact nobehind _ (by decide) (by decide) | rfl) : PT X (.Compare a [op] [b] pos) (tB t) := by
  intro pins s σ H Q I hw
  refine wpAny_isTrue_Compare1 (thn (h pins s σ H _ I hw) fun v s1 h1 => thn h1 fun u s2 h2 => thn h2 fun c s3 ⟨x, H1, I1, r1, q1⟩ => ?_) h1
  obtain ⟨d, rfl, q⟩ := q1
  cases r1
  exact wpAny_truthy_bool ⟨H1, I1, q⟩
/-! ### and, or, not -/
variable {tA tB' : TT} {rest : List Expr}
def tAnd (t u : TT) : TT := fun σ H Q => t σ H fun c H1 => if c = true then u σ H1 Q else Q false H1
def tOr (t u : TT) : TT := fun σ H Q => t σ H fun c H1 => if c = true then Q true H1 else u σ H1 Q
def tNot (t : TT) : TT := fun σ H Q => t σ H fun c H1 => Q (!c) H1
theorem pw_or1 (ha : PT X a tA) : PW X (.BoolOp .Or [a] pos) tA := by
  intro wh pins s σ H Q I h
  refine isTrue_or (thn (ha pins s σ H Q I h) fun c s1 e => ?_)
  cases c with
  | false => exact isTrue_or_nil e
  | true => exact e
theorem pw_or (ha : PT X a tA) (hb : PW X (.BoolOp .Or (b :: rest) pos) tB') : PW X (.BoolOp .Or (a :: b :: rest) pos) (tOr tA tB') := by
  intro wh pins s σ H Q I h
  refine isTrue_or (thn (ha pins s σ H _ I h) fun c s1 ⟨H1, I1, q1⟩ => ?_)
  cases c with
  | true => exact ⟨H1, I1, q1⟩
  | false => exact hb wh pins s1 σ H1 Q I1 q1
theorem pt_not (ha : PT X a tA) : PT X (.UnaryOp .Not a pos) (tNot tA) := by
  intro pins s σ H Q I h
  exact isTrue_not (ha pins s σ H (fun c H1 => Q (!c) H1) I h)
/-- .. as values (bools) -/
def tAndV (ta tb : TE) : TE := fun σ H Q => ta σ H fun x H1 => ∃ c, x = .bl c ∧ if c = true then tb σ H1 Q else Q (.bl false) H1
def tOrV (ta tb : TE) : TE := fun σ H Q => ta σ H fun x H1 => ∃ c, x = .bl c ∧ if c = true then Q (.bl true) H1 else tb σ H1 Q
def tNotV (ta : TE) : TE := fun σ H Q => ta σ H fun x H1 => ∃ c, x = .bl c ∧ Q (.bl (!c)) H1
theorem pe_one {op} {t : TE} (h : PE X a t) : PE X (.BoolOp op [a] pos) t := fun pins s σ H Q I hw => BoolOp_one (h pins s σ H Q I hw)
theorem pe_and (ha : PE X a ta) (hb : PE X (.BoolOp .And (b :: rest) pos) tb) : PE X (.BoolOp .And (a :: b :: rest) pos) (tAndV ta tb) := by
  intro pins s σ H Q I h
  refine BoolOp_and (thn (ha pins s σ H _ I h) fun v s1 ⟨x, H1, I1, r1, q1⟩ => ?_)
  obtain ⟨c, rfl, q1⟩ := q1
  cases r1
  refine wpAny_truthy_bool ?_
  cases c with
  | true => exact hb pins s1 σ H1 Q I1 q1
  | false => exact ⟨.bl false, H1, I1, rfl, q1⟩
theorem pe_not (ha : PE X a ta) : PE X (.UnaryOp .Not a pos) (tNotV ta) := by
  intro pins s σ H Q I h
  refine UnaryOp_ (thn (ha pins s σ H _ I h) fun v s1 ⟨x, H1, I1, r1, q1⟩ => ?_)
  obtain ⟨c, rfl, q1⟩ := q1
  cases r1
  exact not_of (wpAny_truthy_bool ⟨.bl (!c), H1, I1, rfl, q1⟩)
/-- a if t else b -/
def tIf (t : TT) (ta tb : TE) : TE := fun σ H Q => t σ H fun c H1 => if c = true then ta σ H1 Q else tb σ H1 Q
theorem pe_ifExp {c : Expr} (hc : PT X c tA) (ha : PE X a ta) (hb : PE X b tb) : PE X (.IfExp c a b pos) (tIf tA ta tb) := by
  intro pins s σ H Q I h
  refine wpAny_IfExp (thn (hc pins s σ H _ I h) fun d s1 ⟨H1, I1, q1⟩ => ?_)
  cases d with
  | true => exact ha pins s1 σ H1 Q I1 q1
  | false => exact hb pins s1 σ H1 Q I1 q1
end
end L2

namespace L2
open PySem PySem.Spec PyProof.Rows

/-! ### a list, a tuple that is read: tracked, frozen, or an object of the module -/
def SqL (K : PySem.W.Frag) (H : Hp) (a : Addr) (xs : List V) : Prop :=
  Rd H a (.lst xs) ∨
    ∃ (o : Obj) (its : Array Value) (n : Nat), K.lookup a = some o ∧ o.cls = .type "list" ∧ o.dict = none ∧ o.data = .seq its n ∧ its.size ≤ sizeLine ∧ Vals xs its.toList
def SqT (K : PySem.W.Frag) (H : Hp) (a : Addr) (xs : List V) : Prop :=
  Rd H a (.tup xs) ∨
    ∃ (o : Obj) (its : Array Value) (n : Nat), K.lookup a = some o ∧ o.cls = .type "tuple" ∧ o.data = .seq its n ∧ its.size ≤ sizeLine ∧ Vals xs its.toList
def absV : Value → Option V
  | .none => some .non
  | .bool b => some (.bl b)
  | .int i _ => some (.int i)
  | .str x _ => some (.str x)
  | .bytes b _ => some (.byt b)
  | .float b _ => some (.flt b)
  | .ref a => some (.ref a)
  | .type n => some (.ty n)
  | _ => none
theorem RelV.abs {x : V} {u : Value} (r : RelV x u) : absV u = some x := by
  cases x with
  | non => cases r; rfl
  | bl _ => cases r; rfl
  | int _ => obtain ⟨t, rfl⟩ := r; rfl
  | str _ => obtain ⟨t, rfl⟩ := r; rfl
  | byt _ => obtain ⟨t, rfl⟩ := r; rfl
  | flt _ => obtain ⟨t, rfl⟩ := r; rfl
  | ref _ => cases r; rfl
  | ty _ => cases r; rfl
theorem RelV.inj {x y : V} {u : Value} (r : RelV x u) (q : RelV y u) : x = y := Option.some.inj (r.abs.symm.trans q.abs)
theorem Vals.inj : ∀ {xs ys : List V} {us : List Value}, Vals xs us → Vals ys us → xs = ys
  | _, _, _, .nil, .nil => rfl
  | _, _, _, .cons r t, .cons r' t' => by rw [r.inj r', Vals.inj t t']
section
variable {X : Cx} {pins : List (Addr × Obj)} {σ : St} {H : Hp} {s : Shared} {a : Addr} {xs ys : List V}
theorem SqL.of {K : PySem.W.Frag} (h : H a = some (.lst xs)) : SqL K H a xs := .inl (.inl h)
theorem SqT.of {K : PySem.W.Frag} (h : H a = some (.tup xs)) : SqT K H a xs := .inl (.inl h)
theorem Inv.list (I : Inv X pins σ H s) (h : SqL X.K H a xs) : ∃ its : List Value, Vals xs its ∧ PlainL s.heap a its.toArray ∧ xs.length ≤ sizeLine := by
  rcases h with h | ⟨o, its, n, hk, hc, hd, hs, hz, r⟩
  · obtain ⟨z, its, n, r, e⟩ := h.ok I.hok
    exact ⟨its, r, ⟨_, n, e, rfl, rfl, rfl⟩, z⟩
  · refine ⟨its.toList, r, ⟨o, n, I.kIn a o hk, hc, hd, by simpa using hs⟩, ?_⟩
    have e := r.length
    simp only [Array.length_toList] at e
    omega
theorem Inv.tuple (I : Inv X pins σ H s) (h : SqT X.K H a xs) : ∃ its : List Value, Vals xs its ∧ IsTup s.heap a its.toArray ∧ xs.length ≤ sizeLine := by
  rcases h with h | ⟨o, its, n, hk, hc, hs, hz, r⟩
  · obtain ⟨z, its, r, p⟩ := h.ok I.hok
    exact ⟨its, r, p, z⟩
  · refine ⟨its.toList, r, ⟨o, I.kIn a o hk, hc, n, by simpa using hs⟩, ?_⟩
    have e := r.length
    simp only [Array.length_toList] at e
    omega
theorem Inv.list_inj (I : Inv X pins σ H s) (h : SqL X.K H a xs) (h' : SqL X.K H a ys) : xs = ys := by
  obtain ⟨its, r, ⟨o, n, e, _, _, d⟩, _⟩ := I.list h
  obtain ⟨its', r', ⟨o', n', e', _, _, d'⟩, _⟩ := I.list h'
  rw [e] at e'; cases e'
  rw [d] at d'
  injection d' with d1 _
  have : its = its' := by simpa using congrArg Array.toList d1
  subst this
  exact r.inj r'
theorem Inv.tuple_inj (I : Inv X pins σ H s) (h : SqT X.K H a xs) (h' : SqT X.K H a ys) : xs = ys := by
  obtain ⟨its, r, ⟨o, e, _, n, d⟩, _⟩ := I.tuple h
  obtain ⟨its', r', ⟨o', e', _, n', d'⟩, _⟩ := I.tuple h'
  rw [e] at e'; cases e'
  rw [d] at d'
  injection d' with d1 _
  have : its = its' := by simpa using congrArg Array.toList d1
  subst this
  exact r.inj r'
end

/-! ### another wish about exceptions -/
abbrev Cx.wish (X : Cx) (E : Value → Shared → Prop) : Cx := { X with xe := E }
/-- no exception leaves -/
abbrev Cx.nox (X : Cx) : Cx := X.wish fun _ _ => False
theorem Cx.Ok.wish {X : Cx} (ok : X.Ok) (E : Value → Shared → Prop) : (X.wish E).Ok :=
  ⟨ok.mod, ok.kind, ok.glob, ok.blt, ok.above, ok.inj, ok.has, ok.cab, ok.hd, ok.frames, ok.stk, ok.exf, ok.bs, ok.bsz, ok.noex, ok.exfs, ok.funs, ok.frf⟩
theorem Cx.Ok.unwish {X : Cx} {E : Value → Shared → Prop} (ok : (X.wish E).Ok) : X.Ok :=
  ⟨ok.mod, ok.kind, ok.glob, ok.blt, ok.above, ok.inj, ok.has, ok.cab, ok.hd, ok.frames, ok.stk, ok.exf, ok.bs, ok.bsz, ok.noex, ok.exfs, ok.funs, ok.frf⟩
section
variable {X : Cx} {pins : List (Addr × Obj)} {σ : St} {H : Hp} {s : Shared} {E : Value → Shared → Prop}
theorem Inv.wish (I : Inv X pins σ H s) (E : Value → Shared → Prop) : Inv (X.wish E) pins σ H s := ⟨I.ok.wish E, I.os, I.bare, I.base, I.loc, I.cell, I.free, I.freeC, I.pin, I.hok, I.len⟩
theorem Inv.unwish (I : Inv (X.wish E) pins σ H s) : Inv X pins σ H s := ⟨I.ok.unwish, I.os, I.bare, I.base, I.loc, I.cell, I.free, I.freeC, I.pin, I.hok, I.len⟩
theorem SP.unwish {D : Ends} {f : Flow} {s' : Shared} (h : SP (X.wish E) pins D f s') : SP X pins D f s' := by
  cases f with
  | next => obtain ⟨σ', H', I, q⟩ := h; exact ⟨σ', H', I.unwish, q⟩
  | brk => obtain ⟨σ', H', I, q⟩ := h; exact ⟨σ', H', I.unwish, q⟩
  | cont => obtain ⟨σ', H', I, q⟩ := h; exact ⟨σ', H', I.unwish, q⟩
  | ret u => obtain ⟨v, σ', H', I, r, q⟩ := h; exact ⟨v, σ', H', I.unwish, r, q⟩
theorem PE.nox {e : Expr} {t : TE} (h : PE X.nox e t) : PE X e t := fun pins s σ H Q I hw =>
  wpAny_mono (h pins s σ H Q (I.wish _) hw) (fun _ _ ⟨v, H', I', r, q⟩ => ⟨v, H', I'.unwish, r, q⟩) fun _ _ z => False.elim z
theorem PT.nox {e : Expr} {t : TT} (h : PT X.nox e t) : PT X e t := fun pins s σ H Q I hw =>
  wpAny_mono (h pins s σ H Q (I.wish _) hw) (fun _ _ ⟨H', I', q⟩ => ⟨H', I'.unwish, q⟩) fun _ _ z => False.elim z
theorem PSs.nox {st : List Stmt} {t : TS} (h : PSs X.nox st t) : PSs X st t := fun pins s σ H D I hw =>
  wpAny_mono (h pins s σ H D (I.wish _) hw) (fun _ _ q => q.unwish) fun _ _ z => False.elim z
end

/-! ### blocks and small statements -/
section
variable {X : Cx} {st : Stmt} {rest : List Stmt} {t u : TS} {e : Expr} {te : TE} {pos : Pos}
def tNext : TS := fun D σ H => D.nx σ H
def tSeq (t u : TS) : TS := fun D σ H => t { D with nx := u D } σ H
theorem pss_nil : PSs X [] tNext := fun _ _ σ H _ I h => wpAny_execs_nil ⟨σ, H, I, h⟩
theorem pss_cons (h1 : PS X st t) (h2 : PSs X rest u) : PSs X (st :: rest) (tSeq t u) := by
  intro pins s σ H D I h
  refine wpAny_execs_cons (thn (h1 pins s σ H { D with nx := u D } I h) fun f s1 q => ?_)
  cases f with
  | next =>
    obtain ⟨σ', H', I', q⟩ := q
    exact h2 pins s1 σ' H' D I' q
  | ret v => exact q
  | brk => exact q
  | cont => exact q
theorem pss_one (h1 : PS X st t) : PSs X [st] t := by
  intro pins s σ H D I h
  refine wpAny_execs_cons (thn (h1 pins s σ H D I h) fun f s1 q => ?_)
  cases f with
  | next => exact wpAny_execs_nil q
  | ret v => exact q
  | brk => exact q
  | cont => exact q
def tBreak : TS := fun D σ H => D.bk σ H
def tCont : TS := fun D σ H => D.ct σ H
/-- in a def's body nothing is shown -/
theorem Inv.quiet {pins : List (Addr × Obj)} {σ : St} {H : Hp} {s : Shared} (I : Inv X pins σ H s) : interactive X.env = false := by simp [interactive, I.ok.kind]
/-- an expression whose value is dropped -/
def tDrop (te : TE) : TS := fun D σ H => te σ H fun _ H1 => D.nx σ H1
theorem ps_expr (he : PE X e te) (hs : swapsWith e none pos.line X.env = pure false := by rfl) : PS X (.Expr e pos) (tDrop te) := by
  intro pins s σ H D I h
  exact wpAny_Expr_any (thn (he pins s σ H _ I h) fun v s1 ⟨x, H1, I1, r1, q1⟩ => ⟨σ, H1, I1, q1⟩) I.quiet hs
def tRet (te : TE) : TS := fun D σ H => te σ H D.rt
theorem ps_ret (he : PE X e te) : PS X (.Return (some e) pos) (tRet te) := by
  intro pins s σ H D I h
  exact wpAny_Return_some (thn (he pins s σ H _ I h) fun v s1 ⟨x, H1, I1, r1, q1⟩ => ⟨x, σ, H1, I1, r1, q1⟩)
def tRetN : TS := fun D _ H => D.rt .non H
def tIfS (c : TT) (t u : TS) : TS := fun D σ H => c σ H fun b H1 => if b = true then t D σ H1 else u D σ H1
theorem ps_if {c : Expr} {a b : List Stmt} {tc : TT} (hc : PT X c tc) (ha : PSs X a t) (hb : PSs X b u) : PS X (.If c a b pos) (tIfS tc t u) := by
  intro pins s σ H D I h
  refine wpAny_If (thn (hc pins s σ H _ I h) fun d s1 ⟨H1, I1, q1⟩ => ?_)
  cases d with
  | true => exact ha pins s1 σ H1 D I1 q1
  | false => exact hb pins s1 σ H1 D I1 q1
/-- code that the proof never comes to -/
def tNever : TS := fun _ _ _ => False
theorem ps_never : PS X st tNever := fun _ _ _ _ _ _ h => h.elim
end

/-! ### targets -/
abbrev TG := V → St → Hp → (St → Hp → Prop) → Prop
abbrev TGs := List V → St → Hp → (St → Hp → Prop) → Prop
def PG (X : Cx) (target : Expr) (t : TG) : Prop :=
  ∀ (pins : List (Addr × Obj)) (s : Shared) (σ : St) (H : Hp) (v : V) (u : Value) (Q : St → Hp → Prop), Inv X pins σ H s → RelV v u → t v σ H Q →
    wpAny (model X.prog X.w) X.A (assign target X.env u) (fun _ s' => ∃ σ' H', Inv X pins σ' H' s' ∧ Q σ' H') X.xe s
/-- several targets, one after another -/
def PGs (X : Cx) (ts : List Expr) (t : TGs) : Prop :=
  ∀ (pins : List (Addr × Obj)) (s : Shared) (σ : St) (H : Hp) (vs : List V) (us : List Value) (Q : St → Hp → Prop), Inv X pins σ H s → Vals vs us → t vs σ H Q →
    wpAny (model X.prog X.w) X.A (assignInOrder ((assignEach ts X.env).map (·.2)) us) (fun _ s' => ∃ σ' H', Inv X pins σ' H' s' ∧ Q σ' H') X.xe s
/-- o[i] = v, by values -/
abbrev TSet := V → V → V → Hp → (Hp → Prop) → Prop
def PSet (X : Cx) (t : TSet) : Prop :=
  ∀ (pins : List (Addr × Obj)) (s : Shared) (σ : St) (H : Hp) (o i v : V) (ov iv u : Value) (Q : Hp → Prop), Inv X pins σ H s → RelV o ov → RelV i iv → RelV v u → t o i v H Q →
    wpAny (model X.prog X.w) X.A (setItem ov iv u) (fun _ s' => ∃ H', Inv X pins σ H' s' ∧ Q H') X.xe s
/-- a op= b, by values -/
abbrev TIp := V → V → Hp → VK → Prop
def PIp (X : Cx) (op : Operator) (t : TIp) : Prop :=
  ∀ (pins : List (Addr × Obj)) (s : Shared) (σ : St) (H : Hp) (x y : V) (v u : Value) (Q : VK), Inv X pins σ H s → RelV x v → RelV y u → t x y H Q →
    wpAny (model X.prog X.w) X.A (inplaceOp op v u) (EP X pins σ Q) X.xe s
section
variable {X : Cx} {pos : Pos}
def gName (i : Nat) : TG := fun v σ H Q => Q (σ.set i (some v)) H
theorem pg_name {i : Nat} {x : Str} (hN : X.N.Nodup) (hi : X.N[i]? = some x) (hx : Loc X.env.scope x) (hf : X.fn x = true ∨ X.env.scope.names.lookup x = some .local := by first | exact .inl rfl | exact .inr rfl | assumption) : PG X (.Name x pos) (gName i) := by
  intro pins s σ H v u Q I r h
  exact wpAny_assign_Name (store_ok I hN hi hx r (fun s' I' => ⟨_, H, I', h⟩) hf)
def gNil : TGs := fun vs σ H Q => vs = [] ∧ Q σ H
def gCons (t : TG) (u : TGs) : TGs := fun vs σ H Q => ∃ v r, vs = v :: r ∧ t v σ H fun σ' H' => u r σ' H' Q
theorem pgs_nil : PGs X [] gNil := by
  intro pins s σ H vs us Q I r h
  obtain ⟨e, h⟩ := h
  subst e
  cases r
  exact assignInOrder_nil ⟨σ, H, I, h⟩
theorem pgs_cons {e : Expr} {es : List Expr} {t : TG} {u : TGs} (h1 : PG X e t) (h2 : PGs X es u)
    (hs : (assignEach (e :: es) X.env).map (·.2) = assign e X.env :: (assignEach es X.env).map (·.2) := by rfl) : PGs X (e :: es) (gCons t u) := by
  intro pins s σ H vs us Q I r h
  obtain ⟨v, vr, e1, h⟩ := h
  subst e1
  cases r with
  | cons r rr =>
    rw [hs]
    refine assignInOrder_cons (thn (h1 pins s σ H _ _ _ I r h) fun _ s1 ⟨σ1, H1, I1, q1⟩ => ?_)
    exact h2 pins s1 σ1 H1 _ _ Q I1 rr q1
/-- (a, b, ..) = a tuple of that length -/
def gTup (K : PySem.W.Frag) (n : Nat) (t : TGs) : TG := fun v σ H Q => ∃ a xs, v = .ref a ∧ SqT K H a xs ∧ xs.length = n ∧ t xs σ H Q
theorem pg_tup {es : List Expr} {k : Nat} {t : TGs} {n : Nat} (hc : X.calm = true) (h : PGs X es t)
    (hn : (assignEach es X.env).length = n := by rfl) (hst : (assignEach es X.env).findIdx? (·.1) = none := by rfl) : PG X (.Tuple es k pos) (gTup X.K n t) := by
  intro pins s σ H v u Q I r hw
  obtain ⟨a, xs, e1, hq, hl, hw⟩ := hw
  subst e1
  cases r
  obtain ⟨its, rv, ht, hz⟩ := I.tuple hq
  refine assign_Tuple_tuple (I.ok.hd hc) ht (by simp [hn, ← hl, rv.length]) hst fun h' hx => ?_
  have I1 : Inv X pins σ H { s with heap := h' } := I.kept (t' := s.toks) fun b o e => hx b o (Nat.ne_of_lt (Heap.lt_size e)) e
  exact h pins _ σ H xs _ Q I1 (by simpa using rv) hw
/-- o[i] = .. -/
def gSub (to ti : TE) (t : TSet) : TG := fun v σ H Q => to σ H fun o H1 => ti σ H1 fun i H2 => t o i v H2 fun H3 => Q σ H3
/-- target = value -/
def tAsg (te : TE) (g : TG) : TS := fun D σ H => te σ H fun x H1 => g x σ H1 D.nx
theorem ps_asg {tg e : Expr} {te : TE} {g : TG} (he : PE X e te) (hg : PG X tg g) (hs : swapsWithSole [tg] e pos.line X.env = pure false := by rfl) (hw : swappedStores [tg] e X.env = pure none := by rfl)
    (h1 : (assignEach [tg] X.env).map (·.2) = [assign tg X.env] := by rfl) : PS X (.Assign [tg] e pos) (tAsg te g) := by
  intro pins s σ H D I h
  refine wpAny_Assign_stores (thn (he pins s σ H _ I h) fun v s1 ⟨x, H1, I1, r1, q1⟩ => ?_) hs hw
  rw [h1]
  exact thn (hg pins s1 σ H1 x v _ I1 r1 q1) fun _ s2 q => q
/-- name = value -/
theorem ps_set {i : Nat} {x : Str} {e : Expr} {te : TE} {pos' : Pos} (hN : X.N.Nodup) (hi : X.N[i]? = some x) (hx : Loc X.env.scope x) (he : PE X e te) (hs : swapsWith e (some (.Name x pos')) pos.line X.env = pure false := by rfl) (hf : X.fn x = true ∨ X.env.scope.names.lookup x = some .local := by first | exact .inl rfl | exact .inr rfl | assumption) :
    PS X (.Assign [.Name x pos'] e pos) (tAsg te (gName i)) := by
  intro pins s σ H D I h
  refine wpAny_Assign_Name (thn (he pins s σ H _ I h) fun v s1 ⟨y, H1, I1, r1, q1⟩ => ?_) hs
  exact store_ok I1 hN hi hx r1 (fun s2 I2 => ⟨_, H1, I2, q1⟩) hf
/-- a, b = x, y with plain local names: stored from the right; the pair itself is not tracked (the opening rows as in PyProof/Rows/TupAssign.lean:23) -/
def tPar (i j : Nat) (ta : TA) : TS := fun D σ H => ta σ H fun vs H1 => ∃ v w, vs = [v, w] ∧ D.nx ((σ.set i (some v)).set j (some w)) H1
/-- name op= e -/
def tAug (i : Nat) (te : TE) (ti : TIp) : TS := fun D σ H => ∃ x, σ[i]? = some (some x) ∧ te σ H fun y H1 => ti x y H1 fun z H2 => D.nx (σ.set i (some z)) H2
/-- o[i] op= e -/
def tAugS (to ti te : TE) (tget : V → V → Hp → VK → Prop) (tip : TIp) (tset : TSet) : TS := fun D σ H => to σ H fun o H1 => ti σ H1 fun i H2 => tget o i H2 fun x H3 => te σ H3 fun y H4 => tip x y H4 fun z H5 => tset o i z H5 fun H6 => D.nx σ H6
/-- o[i], by values -/
def PGet (X : Cx) (t : V → V → Hp → VK → Prop) : Prop :=
  ∀ (pins : List (Addr × Obj)) (s : Shared) (σ : St) (H : Hp) (o i : V) (ov iv : Value) (Q : VK), Inv X pins σ H s → RelV o ov → RelV i iv → t o i H Q →
    wpAny (model X.prog X.w) X.A (getItem ov iv) (EP X pins σ Q) X.xe s
/-- ints -/
def ipI (f : Int → Int → Int) : TIp := fun x y H Q => ∃ i j, x = .int i ∧ y = .int j ∧ Q (.int (f i j)) H
end

/-! ### while -/
section
variable {X : Cx} {pos : Pos}
/-- the invariant W with its measure -/
def tWhile (c : TT) (tb : TS) : TS := fun D σ H => ∃ W : Nat → St → Hp → Prop, (∃ m, W m σ H) ∧ ∀ m σ H, W m σ H →
  c σ H fun b H1 => if b = true then ∃ N : St → Hp → Prop, (∀ σ' H', N σ' H' → ∃ m', m' < m ∧ W m' σ' H') ∧ tb { D with nx := N, ct := N, bk := D.nx } σ H1 else D.nx σ H1
theorem ps_while {c : Expr} {body : List Stmt} {tc : TT} {tb : TS} (hp : PassesOwn (model X.prog X.w) X.A X.env X.xe) (hc : PT X c tc) (hb : PSs X body tb) : PS X (.While c body [] pos) (tWhile tc tb) := by
  intro pins s σ H D I h
  obtain ⟨W, ⟨m0, w0⟩, turn⟩ := h
  refine wpAny_While (codeAny_whileLoop (fun n s' => ∃ σ' H', Inv X pins σ' H' s' ∧ W n σ' H') ?_ m0 ⟨σ, H, I, w0⟩)
  rintro n s1 ⟨σ1, H1, I1, w1⟩
  refine wpAny_passesOwn hp (thn (hc pins s1 σ1 H1 _ I1 (turn n σ1 H1 w1)) fun b s2 ⟨H2, I2, q2⟩ => ?_)
  cases b with
  | true =>
    obtain ⟨N, hN, q2⟩ := q2
    rw [if_pos rfl]
    refine wpAny_passesOwn hp (thn (hb pins s2 σ1 H2 _ I2 q2) fun f s3 q3 => ?_)
    cases f with
    | next =>
      obtain ⟨σ3, H3, I3, n3⟩ := q3
      obtain ⟨m', hm, w3⟩ := hN σ3 H3 n3
      exact ⟨m', hm, σ3, H3, I3, w3⟩
    | cont =>
      obtain ⟨σ3, H3, I3, n3⟩ := q3
      obtain ⟨m', hm, w3⟩ := hN σ3 H3 n3
      exact ⟨m', hm, σ3, H3, I3, w3⟩
    | brk => exact q3
    | ret v => exact q3
  | false =>
    rw [if_neg Bool.false_ne_true]
    exact wpAny_execs_nil ⟨σ1, H2, I2, q2⟩
end

/-! ### what a loop or a comprehension walks -/
/-- at turn i: it yields x (the heap may grow), or it stops -/
structure It where
  go : Nat → Hp → Prop
  yld : Nat → Hp → V → Hp → Prop
  stop : Nat → Hp → Prop
/-- the iterator's own objects may turn: they are not the frame's, not pinned, younger than the entry (or a comprehension's own) -/
def FpOk (X : Cx) (pins : List (Addr × Obj)) (H : Hp) (b : Addr) : Prop :=
  H b = none ∧ b ≠ X.env.locals ∧ b ∉ X.fs ∧ (b ∈ X.ex ∨ X.s₀.heap.objs.size ≤ b) ∧ (∀ x c, X.env.cells.lookup x = some c → c ≠ b) ∧ ∀ p ∈ X.pn ++ pins, p.1 ≠ b
theorem Inv.fpOk {X : Cx} {pins : List (Addr × Obj)} {σ : St} {H H' : Hp} {s : Shared} {b : Addr} (I : Inv X pins σ H s) (hb : s.heap.objs.size ≤ b) (hn : H' b = none) : FpOk X pins H' b := by
  refine ⟨hn, Nat.ne_of_gt (Nat.lt_of_lt_of_le I.lt hb), I.nofs hb, .inr (Nat.le_trans I.sz hb), fun x c e z => ?_, fun p hp z => ?_⟩
  · obtain ⟨v, q⟩ := I.cell x c e
    exact absurd (Nat.lt_of_lt_of_le q.lt (by rw [z]; exact hb)) (Nat.lt_irrefl _)
  · exact absurd (Nat.lt_of_lt_of_le (Heap.lt_size (I.pin p hp).1) (by rw [z]; exact hb)) (Nat.lt_irrefl _)
structure Turn (P : Program) (w : World) (K : PySem.W.Frag) (tg : Expr) (J : It) (fp : List Addr) (it : Addr) (tn : Nat → Heap → Prop) : Prop where
  mem : it ∈ fp
  obj : ∀ i h, tn i h → ∀ b ∈ fp, ∃ o, h.get? b = some o ∧ ∀ v, o.data ≠ .cell v
  keep : ∀ i h h', tn i h → (∀ b ∈ fp, ∀ o, h.get? b = some o → h'.get? b = some o) → tn i h'
  item : ∀ (X : Cx), X.prog = P → X.w = w → X.K = K → X.calm = true → ∀ (i : Nat) (pins : List (Addr × Obj)) (s : Shared) (σ : St) (H : Hp) (E : Value → Shared → Prop), Inv X pins σ H s → (∀ b ∈ fp, FpOk X pins H b) → tn i s.heap → J.go i H →
    wpAny (model P w) X.A (pyNext (.ref it)) (fun r s1 => ∃ u, r = some u ∧
      wpAny (model P w) X.A (letOwnedTupleGo tg (.ref it) u) (fun _ s2 => ∃ x H', Inv X pins σ H' s2 ∧ RelV x u ∧ J.yld i H x H' ∧ tn (i + 1) s2.heap ∧ ∀ b ∈ fp, H' b = none) E s1) E s
  done : ∀ (X : Cx), X.prog = P → X.w = w → X.K = K → X.calm = true → ∀ (i : Nat) (pins : List (Addr × Obj)) (s : Shared) (σ : St) (H : Hp) (E : Value → Shared → Prop), Inv X pins σ H s → (∀ b ∈ fp, FpOk X pins H b) → tn i s.heap → J.stop i H →
    wpAny (model P w) X.A (pyNext (.ref it)) (fun r s1 => r = none ∧ Inv X pins σ H s1) E s
  self : ∀ (A : Around) (i : Nat) (s : Shared) (Q : Value → Shared → Prop) (E : Value → Shared → Prop), tn i s.heap → Q (.ref it) s → wpAny (model P w) A (pyIter (.ref it)) Q E s
abbrev TI := St → Hp → (It → Hp → Prop) → Prop
/-- an iterator has come -/
def PIE (X : Cx) (pins : List (Addr × Obj)) (σ : St) (tg : Expr) (R : It → Hp → Prop) (itv : Value) (s2 : Shared) : Prop :=
  ∃ (it : Addr) (fp : List Addr) (tn : Nat → Heap → Prop) (J : It) (H' : Hp), itv = .ref it ∧ Inv X pins σ H' s2 ∧ Turn X.prog X.w X.K tg J fp it tn ∧ tn 0 s2.heap ∧ (∀ b ∈ fp, FpOk X pins H' b) ∧ R J H'
def PI (X : Cx) (tg iter : Expr) (wi : TI) : Prop :=
  ∀ (pins : List (Addr × Obj)) (s : Shared) (σ : St) (H : Hp) (R : It → Hp → Prop), Inv X pins σ H s → wi σ H R →
    wpAny (model X.prog X.w) X.A (eval iter X.env) (fun v s1 => wpAny (model X.prog X.w) X.A (pyIter v) (PIE X pins σ tg R) X.xe s1) X.xe s

/-- the step ahead of the store is nothing for an iterator that keeps no tuple -/
theorem go_of {M : Model} {A : Around} {E : Value → Shared → Prop} {s : Shared} {tg : Expr} {it : Addr} {u : Value} {o : Obj} {n : String} {vs : Array Value} {Q : Unit → Shared → Prop} (ho : s.heap.get? it = some o) (hc : o.cls = .type n) (hd : o.data = .fields vs)
    (hn : ["enumerate", "zip", "dict_itemiterator", "dict_reverseitemiterator", "odict_iterator", "itertools.zip_longest", "itertools.pairwise"].contains n = false) (hQ : Q () s) : wpAny M A (letOwnedTupleGo tg (.ref it) u) Q E s := by
  unfold letOwnedTupleGo
  cases tg <;> first
    | exact wpAny_pure hQ
    | (cases u <;> first
        | exact wpAny_pure hQ
        | (refine wpAny_bind (wpAny_load ho ?_)
           rw [hc, hd]
           show wpAny M A (if (["enumerate", "zip", "dict_itemiterator", "dict_reverseitemiterator", "odict_iterator", "itertools.zip_longest", "itertools.pairwise"].contains n && vs[0]? == some (rawInt _)) = true then _ else _) Q E s
           rw [if_neg (by intro h; rw [hn, Bool.false_and] at h; cases h)]
           exact wpAny_pure hQ))

/-- the list at a, as it stands at each turn (a loop may append to it) -/
def Itl (K : PySem.W.Frag) (a : Addr) : It :=
  ⟨fun i H => ∃ xs x, SqL K H a xs ∧ xs[i]? = some x, fun i H x H' => H' = H ∧ ∀ xs, SqL K H a xs → xs[i]? = some x, fun i H => ∃ xs, SqL K H a xs ∧ xs.length ≤ i⟩
def Itt (K : PySem.W.Frag) (a : Addr) : It :=
  ⟨fun i H => ∃ xs x, SqT K H a xs ∧ xs[i]? = some x, fun i H x H' => H' = H ∧ ∀ xs, SqT K H a xs → xs[i]? = some x, fun i H => ∃ xs, SqT K H a xs ∧ xs.length ≤ i⟩
/-- lo, lo + 1, .. (n of them) -/
def Itr (lo : Int) (n : Nat) : It := ⟨fun i _ => i < n, fun i H x H' => H' = H ∧ x = .int (lo + i), fun i _ => n ≤ i⟩
theorem turn_list {P : Program} {w : World} {K : PySem.W.Frag} {tg : Expr} (a it : Addr) : Turn P w K tg (Itl K a) [it] it (fun i h => h.IsListIter it a i) where
  mem := by simp
  obj := fun i h st b hb => by
    have e : b = it := by simpa using hb
    subst e
    obtain ⟨o, e, c, d⟩ := st
    exact ⟨o, e, fun v z => by rw [d] at z; cases z⟩
  keep := fun i h h' st k => st.at fun o e => k it (by simp) o e
  item := by
    intro X hP hw hK hc i pins s σ H E I hf st hg
    subst hP hw hK
    obtain ⟨xs, x, hq, hx⟩ := hg
    obtain ⟨its, rv, p, hz⟩ := I.list hq
    obtain ⟨u, hu, ru⟩ := rv.get hx
    obtain ⟨f0, f1, f2, f3, f4, f5⟩ := hf it (by simp)
    refine wpAny_pyNext_list_item st p.isList (x := u) (by simpa using hu) fun h' st' sb => ?_
    have I1 : Inv X pins σ H { s with heap := h' } := I.turned (t' := s.toks) (fun b o hb e => (sb.2 b hb).trans e) f0 f1 f3 f4 f5
    obtain ⟨o, e, c, d⟩ := id st'
    exact ⟨u, rfl, go_of (s := { s with heap := h' }) e c d (by decide) ⟨x, H, I1, ru, ⟨rfl, fun ys hy => by rw [I.list_inj hy hq]; exact hx⟩, st', fun b hb => (hf b hb).1⟩⟩
  done := by
    intro X hP hw hK hc i pins s σ H E I hf st hg
    subst hP hw hK
    obtain ⟨xs, hq, hx⟩ := hg
    obtain ⟨its, rv, p, hz⟩ := I.list hq
    obtain ⟨f0, f1, f2, f3, f4, f5⟩ := hf it (by simp)
    have hl := rv.length
    exact wpAny_pyNext_list_end (I.ok.hd hc) st p.isList (by simp; omega) fun h' eb => ⟨rfl, I.turned (t' := s.toks) (fun b o hb e => eb b o hb e) f0 f1 f3 f4 f5⟩
  self := fun _ _ _ _ _ st h => wpAny_pyIter_listiter st h
theorem turn_tuple {P : Program} {w : World} {K : PySem.W.Frag} {tg : Expr} (a it : Addr) : Turn P w K tg (Itt K a) [it] it (fun i h => h.IsTupleIter it a i) where
  mem := by simp
  obj := fun i h st b hb => by
    have e : b = it := by simpa using hb
    subst e
    obtain ⟨o, e, c, d⟩ := st
    exact ⟨o, e, fun v z => by rw [d] at z; cases z⟩
  keep := fun i h h' st k => st.at fun o e => k it (by simp) o e
  item := by
    intro X hP hw hK hc i pins s σ H E I hf st hg
    subst hP hw hK
    obtain ⟨xs, x, hq, hx⟩ := hg
    obtain ⟨its, rv, p, hz⟩ := I.tuple hq
    obtain ⟨u, hu, ru⟩ := rv.get hx
    obtain ⟨f0, f1, f2, f3, f4, f5⟩ := hf it (by simp)
    refine wpAny_pyNext_tuple_item st (show s.heap.IsTuple a its.toArray from p) (x := u) (by simpa using hu) fun h' st' sb => ?_
    have I1 : Inv X pins σ H { s with heap := h' } := I.turned (t' := s.toks) (fun b o hb e => (sb.2 b hb).trans e) f0 f1 f3 f4 f5
    obtain ⟨o, e, c, d⟩ := id st'
    exact ⟨u, rfl, go_of (s := { s with heap := h' }) e c d (by decide) ⟨x, H, I1, ru, ⟨rfl, fun ys hy => by rw [I.tuple_inj hy hq]; exact hx⟩, st', fun b hb => (hf b hb).1⟩⟩
  done := by
    intro X hP hw hK hc i pins s σ H E I hf st hg
    subst hP hw hK
    obtain ⟨xs, hq, hx⟩ := hg
    obtain ⟨its, rv, p, hz⟩ := I.tuple hq
    obtain ⟨f0, f1, f2, f3, f4, f5⟩ := hf it (by simp)
    have hl := rv.length
    exact wpAny_pyNext_tuple_end (I.ok.hd hc) st (show s.heap.IsTuple a its.toArray from p) (by simp; omega) fun h' eb => ⟨rfl, I.turned (t' := s.toks) (fun b o hb e => eb b o hb e) f0 f1 f3 f4 f5⟩
  self := fun _ _ _ _ _ st h => wpAny_pyIter_tupleiter st h
theorem turn_range {P : Program} {w : World} {K : PySem.W.Frag} {tg : Expr} (it : Addr) (lo : Int) (n : Nat) : Turn P w K tg (Itr lo n) [it] it (fun i h => IsRangeIter h it (lo + (i : Nat) * 1) ((n : Int) - (i : Nat)) 1) where
  mem := by simp
  obj := fun i h st b hb => by
    have e : b = it := by simpa using hb
    subst e
    exact ⟨_, st, fun v z => by
      have z' : Data.fields _ = Data.cell v := z
      cases z'⟩
  keep := fun i h h' st k => k it (by simp) _ st
  item := by
    intro X hP hw hK hc i pins s σ H E I hf st hg
    subst hP hw hK
    obtain ⟨f0, f1, f2, f3, f4, f5⟩ := hf it (by simp)
    have W := Walks.range (prog := X.prog) (w := X.w) (I.ok.hd hc) it lo 1 n
    refine W.item i s _ _ hg st fun v h' tk hv st' kk => ?_
    obtain ⟨t, rfl⟩ := hv
    have I1 : Inv X pins σ H { s with heap := h', toks := tk } := I.turned (fun b o hb e => kk b o (by simpa using hb) e) f0 f1 f3 f4 f5
    refine ⟨_, rfl, go_of (s := { s with heap := h', toks := tk }) (n := "range_iterator") st' rfl rfl (by decide) ⟨.int (lo + i), H, I1, ⟨t, ?_⟩, ⟨rfl, rfl⟩, st', fun b hb => (hf b hb).1⟩⟩
    rw [Int.mul_one]
  done := by
    intro X hP hw hK hc i pins s σ H E I hf st hg
    subst hP hw hK
    obtain ⟨f0, f1, f2, f3, f4, f5⟩ := hf it (by simp)
    exact wpAny_pyNext_range_end (I.ok.hd hc) st (by have : n ≤ i := hg; omega) fun h' eb => ⟨rfl, I.turned (t' := s.toks) (fun b o hb e => eb b o hb e) f0 f1 f3 f4 f5⟩
  self := fun _ _ _ _ _ st h => wpAny_pyIter_rangeiter st h
end L2

namespace L2
open PySem PySem.Spec PyProof.Rows
section
variable {X : Cx} {tg : Expr}
def iList (K : PySem.W.Frag) (tl : TE) : TI := fun σ H R => tl σ H fun x H1 => ∃ a, x = .ref a ∧ (∃ xs, SqL K H1 a xs) ∧ R (Itl K a) H1
def iTup (K : PySem.W.Frag) (tl : TE) : TI := fun σ H R => tl σ H fun x H1 => ∃ a, x = .ref a ∧ (∃ xs, SqT K H1 a xs) ∧ R (Itt K a) H1
theorem pi_list {l : Expr} {tl : TE} (hl : PE X l tl) : PI X tg l (iList X.K tl) := by
  intro pins s σ H R I h
  refine thn (hl pins s σ H _ I h) fun v s1 ⟨x, H1, I1, r1, q1⟩ => ?_
  obtain ⟨a, e, ⟨xs, hq⟩, q⟩ := q1
  subst e
  cases r1
  obtain ⟨its, rv, p, hz⟩ := I1.list hq
  refine wpAny_pyIter_list p.isList ?_
  refine ⟨s1.heap.objs.size, [s1.heap.objs.size], _, _, H1, rfl, I1.kept (t' := s1.toks) fun b o e => Heap.get?_push_of_some _ e, turn_list a _, ⟨_, Heap.get?_push_size _ rfl, rfl, rfl⟩, fun b hb => ?_, q⟩
  have e : b = s1.heap.objs.size := by simpa using hb
  subst e
  exact I1.fpOk (Nat.le_refl _) (I1.hok.fresh (Nat.le_refl _))
theorem pi_tup {l : Expr} {tl : TE} (hl : PE X l tl) : PI X tg l (iTup X.K tl) := by
  intro pins s σ H R I h
  refine thn (hl pins s σ H _ I h) fun v s1 ⟨x, H1, I1, r1, q1⟩ => ?_
  obtain ⟨a, e, ⟨xs, hq⟩, q⟩ := q1
  subst e
  cases r1
  obtain ⟨its, rv, p, hz⟩ := I1.tuple hq
  refine wpAny_pyIter_tuple (show s1.heap.IsTuple a its.toArray from p) ?_
  refine ⟨s1.heap.objs.size, [s1.heap.objs.size], _, _, H1, rfl, I1.kept (t' := s1.toks) fun b o e => Heap.get?_push_of_some _ e, turn_tuple a _, ⟨_, Heap.get?_push_size _ rfl, rfl, rfl⟩, fun b hb => ?_, q⟩
  have e : b = s1.heap.objs.size := by simpa using hb
  subst e
  exact I1.fpOk (Nat.le_refl _) (I1.hok.fresh (Nat.le_refl _))
/-- a range object just made, walked -/
theorem range_it {pins : List (Addr × Obj)} {σ : St} {H : Hp} {s : Shared} {R : It → Hp → Prop} {E : Value → Shared → Prop} {lo hi : Int} {t u v : Tok} {tk : Nat} (I : Inv X pins σ H s) (h1 : -(2 ^ 62) ≤ lo) (h2 : lo < 2 ^ 62) (h3 : -(2 ^ 62) ≤ hi) (h4 : hi < 2 ^ 62)
    (q : R (Itr lo (hi - lo).toNat) H) : wpAny (model X.prog X.w) X.A (pyIter (.ref s.heap.objs.size)) (PIE X pins σ tg R) E { s with heap := s.heap.push { cls := .type "range", data := .fields #[.int lo t, .int hi u, .int 1 v] }, toks := tk } := by
  refine wpAny_pyIter_range (IsRange.new ..) (small_one h1 h2 h3 h4) ?_
  have I1 : Inv X pins σ H { s with heap := s.heap.push { cls := .type "range", data := .fields #[.int lo t, .int hi u, .int 1 v] }, toks := tk } := I.kept fun b o e => Heap.get?_push_of_some _ e
  refine ⟨(s.heap.push { cls := .type "range", data := .fields #[.int lo t, .int hi u, .int 1 v] }).objs.size, [(s.heap.push { cls := .type "range", data := .fields #[.int lo t, .int hi u, .int 1 v] }).objs.size], _, _, H, rfl,
    I1.kept (t' := tk) fun b o e => Heap.get?_push_of_some _ e, turn_range _ lo (hi - lo).toNat, ?_, fun b hb => ?_, q⟩
  · have e1 : lo + ((0 : Nat) : Int) * 1 = lo := by simp
    have e2 : (((hi - lo).toNat : Nat) : Int) - ((0 : Nat) : Int) = Builtin.Range.rangeSize lo hi 1 := by rw [rangeSize_one]; split <;> omega
    show IsRangeIter _ _ (lo + ((0 : Nat) : Int) * 1) ((((hi - lo).toNat : Nat) : Int) - ((0 : Nat) : Int)) 1
    rw [e1, e2]
    exact Heap.get?_push_size _ rfl
  · have e : b = (s.heap.push { cls := .type "range", data := .fields #[.int lo t, .int hi u, .int 1 v] }).objs.size := by simpa using hb
    subst e
    exact I1.fpOk (Nat.le_refl _) (I1.hok.fresh (Nat.le_refl _))
def iRng1 (ta : TA) : TI := fun σ H R => ta σ H fun vs H1 => ∃ j : Int, vs = [.int j] ∧ -(2 ^ 62) ≤ j ∧ j < 2 ^ 62 ∧ R (Itr 0 j.toNat) H1
def iRng2 (ta : TA) : TI := fun σ H R => ta σ H fun vs H1 => ∃ i j : Int, vs = [.int i, .int j] ∧ (-(2 ^ 62) ≤ i ∧ i < 2 ^ 62 ∧ -(2 ^ 62) ≤ j ∧ j < 2 ^ 62) ∧ R (Itr i (j - i).toNat) H1
theorem pi_range1 {a : Expr} {ta : TA} {p pos : Pos} (hg : Gl X "range") (hm : X.mg "range" = none) (ha : PA X [a] ta) (hs : starEach [a] X.env = [(false, eval a X.env)] := by rfl) : PI X tg (.Call (.Name "range" p) [a] [] pos) (iRng1 ta) := by
  intro pins s σ H R I h
  refine Call_ (ld_blt I hg hm boot_range (PyProof.Rows.callWith_type1 (thn (ha pos pins s σ H _ I h) fun us s1 ⟨vs, H1, I1, r1, q1⟩ => ?_) hs rfl))
  obtain ⟨j, e, q1, q2, q⟩ := q1
  subst e
  cases r1 with
  | cons r rr =>
    cases rr
    obtain ⟨t, rfl⟩ := r
    exact call_range_1 (range_it I1 (by omega) (by omega) q1 q2 (by simpa using q))
/-! ### for -/
/-- W: the invariant by the turn and a measure; N: what the body is to reach -/
def tFor (wi : TI) (g : TG) (tb : TS) : TS := fun D σ H => wi σ H fun J H1 => ∃ W : Nat → Nat → St → Hp → Prop, (∃ m, W 0 m σ H1) ∧ ∀ i m σ H, W i m σ H →
  (J.stop i H ∧ D.nx σ H) ∨ (J.go i H ∧ ∃ N : St → Hp → Prop, (∀ σ' H', N σ' H' → ∃ m', m' < m ∧ W (i + 1) m' σ' H') ∧ ∀ x H', J.yld i H x H' → g x σ H' fun σ2 H2 => tb { D with nx := N, ct := N, bk := D.nx } σ2 H2)
/-- the records at fp as they stand -/
def pinsAt (fp : List Addr) (h : Heap) : List (Addr × Obj) := fp.filterMap fun b => (h.get? b).map fun o => (b, o)
theorem mem_pinsAt {fp : List Addr} {h : Heap} {b : Addr} {o : Obj} (hb : b ∈ fp) (e : h.get? b = some o) : (b, o) ∈ pinsAt fp h := List.mem_filterMap.mpr ⟨b, hb, by rw [e]; rfl⟩
theorem of_pinsAt {fp : List Addr} {h : Heap} {p : Addr × Obj} (hp : p ∈ pinsAt fp h) : p.1 ∈ fp ∧ h.get? p.1 = some p.2 := by
  obtain ⟨b, hb, e⟩ := List.mem_filterMap.mp hp
  cases q : h.get? b with
  | none => rw [q] at e; cases e
  | some o =>
    rw [q] at e
    have e' : (b, o) = p := Option.some.inj e
    subst e'
    exact ⟨hb, q⟩
theorem Inv.pinned {pins : List (Addr × Obj)} {σ : St} {H : Hp} {s : Shared} {fp : List Addr} (I : Inv X pins σ H s) (hf : ∀ b ∈ fp, FpOk X pins H b) (ho : ∀ b ∈ fp, ∃ o, s.heap.get? b = some o ∧ ∀ v, o.data ≠ .cell v) : Inv X (pins ++ pinsAt fp s.heap) σ H s :=
  I.pins_of fun p hp => (List.mem_append.mp hp).elim (fun z => I.pin p (List.mem_append_right _ z)) fun z => by
    obtain ⟨hb, e⟩ := of_pinsAt z
    obtain ⟨f0, f1, f2, _⟩ := hf p.1 hb
    obtain ⟨o, e', d⟩ := ho p.1 hb
    rw [e] at e'; cases e'
    exact ⟨e, f0, f1, f2, d⟩
theorem Inv.unpinned {pins pl : List (Addr × Obj)} {σ : St} {H : Hp} {s : Shared} (I : Inv X (pins ++ pl) σ H s) : Inv X pins σ H s := I.pins_of fun p hp => I.pin p (List.mem_append_right _ (List.mem_append_left _ hp))
theorem ps_for {iter : Expr} {body : List Stmt} {wi : TI} {g : TG} {tb : TS} {pos : Pos} (hp : PassesOwn (model X.prog X.w) X.A X.env X.xe) (hc : X.calm = true) (hi : PI X tg iter wi) (hg : PG X tg g) (hb : PSs X body tb)
    (hs : ∀ x, foldedSetIterable iter X.env x = pure x := by intro _; rfl) : PS X (.For tg iter body [] pos) (tFor wi g tb) := by
  intro pins s σ H D I h
  refine wpAny_For (thn (hi pins s σ H _ I h) fun v s1 h1 => thn h1 fun itv s2 h2 => ?_) hs
  obtain ⟨it, fp, tn, J, H2, e, I2, T, st2, f2, W, ⟨m0, w0⟩, turn⟩ := h2
  subst e
  -- what stays true of the iterator's objects through the loop
  have stat : ∀ {H' : Hp}, (∀ b ∈ fp, H' b = none) → ∀ b ∈ fp, FpOk X pins H' b := fun hn b hb => ⟨hn b hb, (f2 b hb).2⟩
  refine codeAny_forLoop_any (fun n s' => ∃ i σ' H', Inv X pins σ' H' s' ∧ tn i s'.heap ∧ (∀ b ∈ fp, H' b = none) ∧ W i n σ' H') ?_ m0 ⟨0, σ, H2, I2, st2, fun b hb => (f2 b hb).1, w0⟩
  rintro n s3 ⟨i, σ3, H3, I3, st3, fr3, w3⟩
  rcases turn i n σ3 H3 w3 with ⟨stop, qn⟩ | ⟨go, N, hN, step⟩
  · refine wpAny_passesOwn hp (thn (T.done X rfl rfl rfl hc i pins s3 σ3 H3 X.xe I3 (stat fr3) st3 stop) fun r s4 ⟨hr, I4⟩ => ?_)
    subst hr
    exact wpAny_execs_nil ⟨σ3, H3, I4, qn⟩
  · refine wpAny_passesOwn hp (thn (T.item X rfl rfl rfl hc i pins s3 σ3 H3 X.xe I3 (stat fr3) st3 go) fun r s4 ⟨u, hr, h4⟩ => ?_)
    subst hr
    refine wpAny_passesOwn hp (thn h4 fun _ s5 ⟨x, H5, I5, r5, y5, st5, fr5⟩ => ?_)
    have I5' := I5.pinned (stat fr5) (T.obj _ _ st5)
    refine wpAny_passesOwn hp (thn (hg _ s5 σ3 H5 x u _ I5' r5 (step x H5 y5)) fun _ s6 ⟨σ6, H6, I6, q6⟩ => ?_)
    refine wpAny_passesOwn hp (thn (hb _ s6 σ6 H6 _ I6 q6) fun f s7 q7 => ?_)
    have again : ∀ {σ7 : St} {H7 : Hp}, Inv X (pins ++ pinsAt fp s5.heap) σ7 H7 s7 → N σ7 H7 → ∃ m, m < n ∧ ∃ i σ' H', Inv X pins σ' H' s7 ∧ tn i s7.heap ∧ (∀ b ∈ fp, H' b = none) ∧ W i m σ' H' := fun {σ7 H7} I7 n7 => by
      obtain ⟨m', hm, w7⟩ := hN σ7 H7 n7
      refine ⟨m', hm, i + 1, σ7, H7, I7.unpinned, T.keep _ _ _ st5 fun b hb o e => (I7.pin (b, o) (List.mem_append_right _ (List.mem_append_right _ (mem_pinsAt hb e)))).1, fun b hb => ?_, w7⟩
      obtain ⟨o, e, d⟩ := T.obj _ _ st5 b hb
      exact (I7.pin (b, o) (List.mem_append_right _ (List.mem_append_right _ (mem_pinsAt hb e)))).2.1
    cases f with
    | next => obtain ⟨σ7, H7, I7, n7⟩ := q7; exact again I7 n7
    | cont => obtain ⟨σ7, H7, I7, n7⟩ := q7; exact again I7 n7
    | brk => obtain ⟨σ7, H7, I7, q7⟩ := q7; exact ⟨σ7, H7, I7.unpinned, q7⟩
    | ret v => obtain ⟨x7, σ7, H7, I7, r7, q7⟩ := q7; exact ⟨x7, σ7, H7, I7.unpinned, r7, q7⟩
end

/-! ### the forms one uses -/
/-- over a list that the body leaves as it is -/
theorem for_list {K : PySem.W.Frag} {a : Addr} {xs : List V} {g : TG} {tb : TS} {D : Ends} {σ : St} {H : Hp} (Pv : Nat → St → Hp → Prop) (h0 : Pv 0 σ H) (hl : ∀ i σ H, i ≤ xs.length → Pv i σ H → SqL K H a xs)
    (hs : ∀ i x σ H, xs[i]? = some x → Pv i σ H → g x σ H fun σ2 H2 => tb { D with nx := Pv (i + 1), ct := Pv (i + 1), bk := D.nx } σ2 H2) (hd : ∀ σ H, Pv xs.length σ H → D.nx σ H) :
    ∃ W : Nat → Nat → St → Hp → Prop, (∃ m, W 0 m σ H) ∧ ∀ i m σ H, W i m σ H →
      ((Itl K a).stop i H ∧ D.nx σ H) ∨ ((Itl K a).go i H ∧ ∃ N : St → Hp → Prop, (∀ σ' H', N σ' H' → ∃ m', m' < m ∧ W (i + 1) m' σ' H') ∧ ∀ x H', (Itl K a).yld i H x H' → g x σ H' fun σ2 H2 => tb { D with nx := N, ct := N, bk := D.nx } σ2 H2) := by
  refine ⟨fun i m σ H => m = xs.length - i ∧ i ≤ xs.length ∧ Pv i σ H, ⟨xs.length, by simp, Nat.zero_le _, h0⟩, ?_⟩
  rintro i m σ H ⟨rfl, hi, p⟩
  have q := hl i σ H hi p
  by_cases hlt : i < xs.length
  · refine .inr ⟨⟨xs, xs[i], q, by simp [hlt]⟩, Pv (i + 1), fun σ' H' p' => ⟨xs.length - (i + 1), by omega, rfl, hlt, p'⟩, fun x H' y => ?_⟩
    obtain ⟨e, y⟩ := y
    subst e
    exact hs i x σ _ (y xs q) p
  · have e : i = xs.length := by omega
    subst e
    exact .inl ⟨⟨xs, q, Nat.le_refl _⟩, hd σ H p⟩
theorem for_tup {K : PySem.W.Frag} {a : Addr} {xs : List V} {g : TG} {tb : TS} {D : Ends} {σ : St} {H : Hp} (Pv : Nat → St → Hp → Prop) (h0 : Pv 0 σ H) (hl : ∀ i σ H, i ≤ xs.length → Pv i σ H → SqT K H a xs)
    (hs : ∀ i x σ H, xs[i]? = some x → Pv i σ H → g x σ H fun σ2 H2 => tb { D with nx := Pv (i + 1), ct := Pv (i + 1), bk := D.nx } σ2 H2) (hd : ∀ σ H, Pv xs.length σ H → D.nx σ H) :
    ∃ W : Nat → Nat → St → Hp → Prop, (∃ m, W 0 m σ H) ∧ ∀ i m σ H, W i m σ H →
      ((Itt K a).stop i H ∧ D.nx σ H) ∨ ((Itt K a).go i H ∧ ∃ N : St → Hp → Prop, (∀ σ' H', N σ' H' → ∃ m', m' < m ∧ W (i + 1) m' σ' H') ∧ ∀ x H', (Itt K a).yld i H x H' → g x σ H' fun σ2 H2 => tb { D with nx := N, ct := N, bk := D.nx } σ2 H2) := by
  refine ⟨fun i m σ H => m = xs.length - i ∧ i ≤ xs.length ∧ Pv i σ H, ⟨xs.length, by simp, Nat.zero_le _, h0⟩, ?_⟩
  rintro i m σ H ⟨rfl, hi, p⟩
  have q := hl i σ H hi p
  by_cases hlt : i < xs.length
  · refine .inr ⟨⟨xs, xs[i], q, by simp [hlt]⟩, Pv (i + 1), fun σ' H' p' => ⟨xs.length - (i + 1), by omega, rfl, hlt, p'⟩, fun x H' y => ?_⟩
    obtain ⟨e, y⟩ := y
    subst e
    exact hs i x σ _ (y xs q) p
  · have e : i = xs.length := by omega
    subst e
    exact .inl ⟨⟨xs, q, Nat.le_refl _⟩, hd σ H p⟩
theorem for_range {lo : Int} {n : Nat} {g : TG} {tb : TS} {D : Ends} {σ : St} {H : Hp} (Pv : Nat → St → Hp → Prop) (h0 : Pv 0 σ H)
    (hs : ∀ i σ H, i < n → Pv i σ H → g (.int (lo + i)) σ H fun σ2 H2 => tb { D with nx := Pv (i + 1), ct := Pv (i + 1), bk := D.nx } σ2 H2) (hd : ∀ σ H, Pv n σ H → D.nx σ H) :
    ∃ W : Nat → Nat → St → Hp → Prop, (∃ m, W 0 m σ H) ∧ ∀ i m σ H, W i m σ H →
      ((Itr lo n).stop i H ∧ D.nx σ H) ∨ ((Itr lo n).go i H ∧ ∃ N : St → Hp → Prop, (∀ σ' H', N σ' H' → ∃ m', m' < m ∧ W (i + 1) m' σ' H') ∧ ∀ x H', (Itr lo n).yld i H x H' → g x σ H' fun σ2 H2 => tb { D with nx := N, ct := N, bk := D.nx } σ2 H2) := by
  refine ⟨fun i m σ H => m = n - i ∧ i ≤ n ∧ Pv i σ H, ⟨n, by simp, Nat.zero_le _, h0⟩, ?_⟩
  rintro i m σ H ⟨rfl, hi, p⟩
  by_cases hlt : i < n
  · refine .inr ⟨hlt, Pv (i + 1), fun σ' H' p' => ⟨n - (i + 1), by omega, rfl, hlt, p'⟩, fun x H' y => ?_⟩
    obtain ⟨e, y⟩ := y
    subst e y
    exact hs i σ _ hlt p
  · have e : i = n := by omega
    subst e
    exact .inl ⟨Nat.le_refl _, hd σ H p⟩
end L2

namespace L2
open PySem PySem.Spec PyProof.Rows

abbrev R2 := V → V → Hp → VK → Prop
/-- a two-place operation on values: f is binaryOp op, inplaceOp op or compareOp op -/
def OpR (X : Cx) (f : Value → Value → Sem Value) (r : R2) : Prop :=
  ∀ (pins : List (Addr × Obj)) (s : Shared) (σ : St) (H : Hp) (x y : V) (v u : Value) (Q : VK), Inv X pins σ H s → RelV x v → RelV y u → r x y H Q →
    wpAny (model X.prog X.w) X.A (f v u) (EP X pins σ Q) X.xe s
/-- a one-place operation -/
def UnR (X : Cx) (f : Value → Sem Value) (r : V → Hp → VK → Prop) : Prop :=
  ∀ (pins : List (Addr × Obj)) (s : Shared) (σ : St) (H : Hp) (x : V) (v : Value) (Q : VK), Inv X pins σ H s → RelV x v → r x H Q →
    wpAny (model X.prog X.w) X.A (f v) (EP X pins σ Q) X.xe s
/-- a call of a value that is known (a builtin, a type) with values -/
def CallR (X : Cx) (f : Value) (r : List V → Hp → VK → Prop) : Prop :=
  ∀ (pins : List (Addr × Obj)) (s : Shared) (σ : St) (H : Hp) (xs : List V) (us : List Value) (Q : VK), Inv X pins σ H s → Vals xs us → r xs H Q →
    wpAny (model X.prog X.w) X.A (call f us) (EP X pins σ Q) X.xe s
/-- a value's truth -/
def TruR (X : Cx) (r : V → Hp → (Bool → Hp → Prop) → Prop) : Prop :=
  ∀ (pins : List (Addr × Obj)) (s : Shared) (σ : St) (H : Hp) (x : V) (v : Value) (Q : Bool → Hp → Prop), Inv X pins σ H s → RelV x v → r x H Q →
    wpAny (model X.prog X.w) X.A (truthy v) (TP X pins σ Q) X.xe s

def tOp (r : R2) (ta tb : TE) : TE := fun σ H Q => ta σ H fun x H1 => tb σ H1 fun y H2 => r x y H2 Q
def tUn (r : V → Hp → VK → Prop) (ta : TE) : TE := fun σ H Q => ta σ H fun x H1 => r x H1 Q
/-- ints in, under C, and a value out -/
def rI (C : Int → Int → Prop) (g : Int → Int → V) : R2 := fun x y H Q => ∃ i j, x = .int i ∧ y = .int j ∧ C i j ∧ Q (g i j) H
def rI0 (g : Int → Int → V) : R2 := fun x y H Q => ∃ i j, x = .int i ∧ y = .int j ∧ Q (g i j) H
def rU (g : Int → V) : V → Hp → VK → Prop := fun x H Q => ∃ i, x = .int i ∧ Q (g i) H

section
variable {X : Cx} {a b c : Expr} {ta tb tc : TE} {pos : Pos}

theorem binT (ha : PE X a ta) (hb : PE X b tb) {pins : List (Addr × Obj)} {s : Shared} {σ : St} {H : Hp} {R : V → V → Hp → Prop} (I : Inv X pins σ H s)
    (h : ta σ H fun x H1 => tb σ H1 fun y H2 => R x y H2) {Q : Value → Shared → Prop} {f : Value → Value → Sem Value}
    (hf : ∀ v u s2 x y H2, Inv X pins σ H2 s2 → RelV x v → RelV y u → R x y H2 → wpAny (model X.prog X.w) X.A (f v u) Q X.xe s2) :
    wpAny (model X.prog X.w) X.A (eval a X.env) (fun v s₁ => wpAny (model X.prog X.w) X.A (eval b X.env) (fun u s₂ => wpAny (model X.prog X.w) X.A (f v u) Q X.xe s₂) X.xe s₁) X.xe s := by
  refine thn (ha pins s σ H _ I h) fun v s1 ⟨x, H1, I1, r1, q1⟩ => ?_
  refine thn (hb pins s1 σ H1 _ I1 q1) fun u s2 ⟨y, H2, I2, r2, q2⟩ => ?_
  exact hf v u s2 x y H2 I2 r1 r2 q2

theorem pe_op {op : Operator} {r : R2} (ho : OpR X (binaryOp op) r) (ha : PE X a ta) (hb : PE X b tb) : PE X (.BinOp a op b pos) (tOp r ta tb) := by
  intro pins s σ H Q I h
  exact wpAny_BinOp (binT ha hb I h fun v u s2 x y H2 I2 rx ry q => ho pins s2 σ H2 x y v u Q I2 rx ry q)
/-! ### ints -/
theorem opI {f : Value → Value → Sem Value} {C : Int → Int → Prop} {g : Int → Int → Int}
    (rule : ∀ (i j : Int) (t u : Tok) (s : Shared) (Q : Value → Shared → Prop) (E : Value → Shared → Prop), C i j → Q (.int (g i j) s.toks) { s with toks := s.toks + 1 } → wpAny (model X.prog X.w) X.A (f (.int i t) (.int j u)) Q E s) :
    OpR X f (rI C fun i j => .int (g i j)) := by
  intro pins s σ H x y v u Q I rx ry h
  obtain ⟨i, j, rfl, rfl, hc, q⟩ := h
  obtain ⟨t, rfl⟩ := rx
  obtain ⟨t', rfl⟩ := ry
  exact rule i j t t' s _ _ hc ⟨.int (g i j), H, I.tok _, ⟨_, rfl⟩, q⟩
theorem opI0 {f : Value → Value → Sem Value} {g : Int → Int → Int}
    (rule : ∀ (i j : Int) (t u : Tok) (s : Shared) (Q : Value → Shared → Prop) (E : Value → Shared → Prop), Q (.int (g i j) s.toks) { s with toks := s.toks + 1 } → wpAny (model X.prog X.w) X.A (f (.int i t) (.int j u)) Q E s) :
    OpR X f (rI0 fun i j => .int (g i j)) := by
  intro pins s σ H x y v u Q I rx ry h
  obtain ⟨i, j, rfl, rfl, q⟩ := h
  obtain ⟨t, rfl⟩ := rx
  obtain ⟨t', rfl⟩ := ry
  exact rule i j t t' s _ _ ⟨.int (g i j), H, I.tok _, ⟨_, rfl⟩, q⟩
theorem opB0 {f : Value → Value → Sem Value} {g : Int → Int → Bool}
    (rule : ∀ (i j : Int) (t u : Tok) (s : Shared) (Q : Value → Shared → Prop) (E : Value → Shared → Prop), Q (.bool (g i j)) s → wpAny (model X.prog X.w) X.A (f (.int i t) (.int j u)) Q E s) :
    OpR X f (rI0 fun i j => .bl (g i j)) := by
  intro pins s σ H x y v u Q I rx ry h
  obtain ⟨i, j, rfl, rfl, q⟩ := h
  obtain ⟨t, rfl⟩ := rx
  obtain ⟨t', rfl⟩ := ry
  exact rule i j t t' s _ _ ⟨.bl (g i j), H, I, rfl, q⟩

def CDiv (i j : Int) : Prop := 0 < j ∧ j < 1073741824
def CDivN (i j : Int) : Prop := j ≠ 0 ∧ j.natAbs < 1073741824
def CPow (i j : Int) : Prop := 0 ≤ j ∧ j ≤ 1000000 ∧ i.natAbs < 2 ^ 64
def CMul (i j : Int) : Prop := (-(2 ^ 64) < i ∧ i < 2 ^ 64) ∨ (-(2 ^ 64) < j ∧ j < 2 ^ 64)
theorem CMul.ok {i j : Int} (h : CMul i j) : IntMulOk i j := by
  rcases h with ⟨h1, h2⟩ | ⟨h1, h2⟩
  · exact .of_left (intBits_le_64 h1 h2)
  · exact .of_right (intBits_le_64 h1 h2)
theorem op_add : OpR X (binaryOp .Add) (rI0 fun i j => .int (i + j)) := opI0 fun _ _ _ _ _ _ _ q => add_int q
theorem op_sub : OpR X (binaryOp .Sub) (rI0 fun i j => .int (i - j)) := opI0 fun _ _ _ _ _ _ _ q => sub_int q
theorem op_mul : OpR X (binaryOp .Mult) (rI CMul fun i j => .int (i * j)) := opI fun _ _ _ _ _ _ _ hc q => mul_int q hc.ok
/-- // by a positive divisor -/
theorem op_fdiv : OpR X (binaryOp .FloorDiv) (rI CDiv fun i j => .int (i / j)) := opI fun i j _ _ _ _ _ hc q => by
  have h1 : (0 : Int) < j := hc.1
  have h2 : j < 1073741824 := hc.2
  exact floordiv_int (by omega) (by rw [Int.fdiv_eq_ediv_of_nonneg i (by omega)]; exact q) (.inl (PyProof.noPylong_small (by omega)))
/-- % by a positive divisor of any size -/
theorem op_mod : OpR X (binaryOp .Mod) (rI (fun _ j => 0 < j) fun i j => .int (i % j)) := opI fun i j _ _ _ _ _ hc q => by
  have h1 : (0 : Int) < j := hc
  exact mod_int' (by omega) (by rw [Int.fmod_eq_emod_of_nonneg i (by omega)]; exact q)
/-! ### bools among ints: n += (a < b) -/
end

/-! ### comparisons -/
/-- the scalars that == tells apart as data does -/
def scal : V → V → Bool
  | .non, .non => true | .non, .int _ => true | .int _, .non => true | .non, .bl _ => true | .bl _, .non => true | .non, .str _ => true | .str _, .non => true
  | .int _, .int _ => true | .bl _, .bl _ => true | .str _, .str _ => true | .byt _, .byt _ => true
  | .int _, .str _ => true | .str _, .int _ => true | .bl _, .str _ => true | .str _, .bl _ => true
  | _, _ => false
def rEq : R2 := fun x y H Q => scal x y = true ∧ Q (.bl (decide (x = y))) H
def rNe : R2 := fun x y H Q => scal x y = true ∧ Q (.bl (!decide (x = y))) H

theorem dec_int {i j : Int} : decide (V.int i = V.int j) = (i == j) := by
  rw [Bool.eq_iff_iff]
  simp
theorem dec_bl {i j : Bool} : decide (V.bl i = V.bl j) = (i == j) := by
  rw [Bool.eq_iff_iff]
  simp
theorem dec_str {i j : Str} : decide (V.str i = V.str j) = (i == j) := by
  rw [Bool.eq_iff_iff]
  simp
theorem dec_byt {i j : Array UInt8} : decide (V.byt i = V.byt j) = (i.toList == j.toList) := by
  rw [Bool.eq_iff_iff]
  cases i
  cases j
  simp

section
variable {X : Cx} {a b c : Expr} {ta tb tc : TE} {pos : Pos}
theorem fin_bl {pins : List (Addr × Obj)} {σ : St} {H : Hp} {s : Shared} {Q : VK} {k k' : Bool} (I : Inv X pins σ H s) (q : Q (.bl k) H) (e : k = k') : EP X pins σ Q (.bool k') s := by
  subst e
  exact ⟨.bl k, H, I, rfl, q⟩
theorem op_eq : OpR X (compareOp .Eq) rEq := by
  intro pins s σ H x y v u Q I rx ry h
  obtain ⟨hs, q⟩ := h
  cases x with
  | non =>
    cases rx
    cases y with
    | non => cases ry; exact PySem.EqNone.eq_none_none (fin_bl I q (by simp))
    | bl j => cases ry; exact PySem.EqNone.eq_none_bool (fin_bl I q (by simp))
    | int j => obtain ⟨t', rfl⟩ := ry; exact PySem.EqNone.eq_none_int (fin_bl I q (by simp))
    | str j => obtain ⟨t', rfl⟩ := ry; exact PySem.EqNone.eq_none_str (fin_bl I q (by simp))
    | _ => exact absurd (show false = true from hs) Bool.false_ne_true
  | bl i =>
    cases rx
    cases y with
    | non => cases ry; exact PySem.EqNone.eq_bool_none (fin_bl I q (by simp))
    | bl j => cases ry; exact eq_bool (fin_bl I q dec_bl)
    | str j => obtain ⟨t', rfl⟩ := ry; exact PySem.EqMixed.eq_bool_str (fin_bl I q (by simp))
    | _ => exact absurd (show false = true from hs) Bool.false_ne_true
  | int i =>
    obtain ⟨t, rfl⟩ := rx
    cases y with
    | non => cases ry; exact PySem.EqNone.eq_int_none (fin_bl I q (by simp))
    | int j => obtain ⟨t', rfl⟩ := ry; exact eq_int (fin_bl I q dec_int)
    | str j => obtain ⟨t', rfl⟩ := ry; exact PySem.EqMixed.eq_int_str (fin_bl I q (by simp))
    | _ => exact absurd (show false = true from hs) Bool.false_ne_true
  | str i =>
    obtain ⟨t, rfl⟩ := rx
    cases y with
    | non => cases ry; exact PySem.EqNone.eq_str_none (fin_bl I q (by simp))
    | bl j => cases ry; exact PySem.EqMixed.eq_str_bool (fin_bl I q (by simp))
    | int j => obtain ⟨t', rfl⟩ := ry; exact PySem.EqMixed.eq_str_int (fin_bl I q (by simp))
    | str j => obtain ⟨t', rfl⟩ := ry; exact eq_str (fin_bl I q dec_str)
    | _ => exact absurd (show false = true from hs) Bool.false_ne_true
  | byt i =>
    obtain ⟨t, rfl⟩ := rx
    cases y with
    | byt j => obtain ⟨t', rfl⟩ := ry; exact PySem.W.eq_bytes (fin_bl I q dec_byt)
    | _ => exact absurd (show false = true from hs) Bool.false_ne_true
  | _ => cases y <;> exact absurd (show false = true from hs) Bool.false_ne_true
theorem op_lt : OpR X (compareOp .Lt) (rI0 fun i j => .bl (decide (i < j))) := opB0 fun _ _ _ _ _ _ _ q => lt_int q
theorem op_le : OpR X (compareOp .LtE) (rI0 fun i j => .bl (decide (i ≤ j))) := opB0 fun _ _ _ _ _ _ _ q => le_int q
theorem op_gt : OpR X (compareOp .Gt) (rI0 fun i j => .bl (decide (j < i))) := opB0 fun _ _ _ _ _ _ _ q => gt_int q
/-- is, is not of two objects that are tracked lists or instances -/
def isObj : HO → Bool
  | .lst _ => true
  | .ins _ _ _ => true
  | _ => false
theorem nomark (b : Expr) {op : CmpOp} (h : op ≠ .In := by decide) (h2 : op ≠ .NotIn := by decide) : behindInMarks op b = false := by
  have e1 : (op == CmpOp.In) = false := by cases op <;> first | rfl | exact absurd rfl h
  have e2 : (op == CmpOp.NotIn) = false := by cases op <;> first | rfl | exact absurd rfl h2
  cases b <;> simp [behindInMarks, e1, e2]
/-- a comparison as a value; hm: nomark b, or (for in, not in) by with_unfolding_all rfl -/
theorem pe_cmpR {op : CmpOp} {r : R2} (ho : OpR X (compareOp op) r) (ha : PE X a ta) (hb : PE X b tb) (hm : behindInMarks op b = false) : PE X (.Compare a [op] [b] pos) (tOp r ta tb) := by
  intro pins s σ H Q I h
  exact wpAny_Compare1 (binT ha hb I h fun v u s2 x y H2 I2 rx ry q => ho pins s2 σ H2 x y v u Q I2 rx ry q) hm
/-- a reading of a value as a test -/
def tTest (t : TE) : TT := fun σ H Q => t σ H fun x H' => ∃ k, x = .bl k ∧ Q k H'
theorem pt_cmpR {op : CmpOp} {r : R2} (ho : OpR X (compareOp op) r) (ha : PE X a ta) (hb : PE X b tb) (hm : behindInMarks op b = false) : PT X (.Compare a [op] [b] pos) (tTest (tOp r ta tb)) := by
  intro pins s σ H Q I h
  refine wpAny_isTrue_Compare1 (thn (ha pins s σ H _ I h) fun v s1 ⟨x, H1, I1, r1, q1⟩ => thn (hb pins s1 σ H1 _ I1 q1) fun u s2 ⟨y, H2, I2, r2, q2⟩ =>
    thn (ho pins s2 σ H2 x y v u _ I2 r1 r2 q2) fun c s3 ⟨z, H3, I3, r3, k, e, q3⟩ => ?_) hm
  subst e
  cases r3
  exact wpAny_truthy_bool ⟨H3, I3, q3⟩
/-- a op1 b op2 c -/
def tChain (r r' : R2) (ta tb tc : TE) : TE := fun σ H Q => ta σ H fun x H1 => tb σ H1 fun y H2 => r x y H2 fun z H3 => ∃ k, z = .bl k ∧
  (if k = true then tc σ H3 fun w' H4 => r' y w' H4 Q else Q (.bl false) H3)
theorem pt_chain {op op' : CmpOp} {r r' : R2} (ho : OpR X (compareOp op) r) (ho' : OpR X (compareOp op') r') (ha : PE X a ta) (hb : PE X b tb) (hc : PE X c tc)
    (hm : lastMarks [op, op'] [b, c] = false := by with_unfolding_all rfl) : PT X (.Compare a [op, op'] [b, c] pos) (tTest (tChain r r' ta tb tc)) := by
  intro pins s σ H Q I h
  refine isTrue_chain (thn (ha pins s σ H _ I h) fun v s1 ⟨x, H1, I1, r1, q1⟩ => test_link (thn (hb pins s1 σ H1 _ I1 q1) fun u s2 ⟨y, H2, I2, r2, q2⟩ =>
    thn (ho pins s2 σ H2 x y v u _ I2 r1 r2 q2) fun d s3 ⟨z, H3, I3, r3, k, e, q3⟩ => ?_)) hm
  subst e
  cases r3
  refine wpAny_truthy_bool ?_
  cases k with
  | false =>
    obtain ⟨k', e', q'⟩ := q3
    cases e'
    exact ite_ff ⟨H3, I3, q'⟩
  | true =>
    refine ite_tt (test_last (thn (hc pins s3 σ H3 _ I3 q3) fun w' s4 ⟨z', H4, I4, r4, q4⟩ => thn (ho' pins s4 σ H4 y z' u w' _ I4 r2 r4 q4) fun d' s5 ⟨z2, H5, I5, r5, k2, e2, q5⟩ => ?_))
    subst e2
    cases r5
    exact wpAny_truthy_bool ⟨H5, I5, q5⟩

/-! ### truth -/
/-- a value's truth by the abstract heap -/
def TruV (K : PySem.W.Frag) (x : V) (H : Hp) (k : Bool) : Prop :=
  match x with
  | .non => k = false
  | .bl b => k = b
  | .int i => k = (i != 0)
  | .str y => y.length ≤ sizeLine ∧ k = ((y.length : Int) != 0)
  | .byt y => y.size ≤ sizeLine ∧ k = ((y.size : Int) != 0)
  | .ref p => (∃ xs, SqL K H p xs ∧ k = !xs.isEmpty) ∨ (∃ xs, SqT K H p xs ∧ k = !xs.isEmpty) ∨ ∃ kvs, H p = some (.dK kvs) ∧ k = !kvs.isEmpty
  | _ => False
theorem isEmpty_kv {κ : Type} {kvs : List (κ × V)} {vs : List (κ × Value)} (r : KV kvs vs) : (!vs.isEmpty) = !kvs.isEmpty := by
  cases r <;> rfl
theorem isEmpty_of {xs : List V} {its : List Value} (r : Vals xs its) : (!its.toArray.isEmpty) = !xs.isEmpty := by
  cases r <;> simp
theorem line63 : (sizeLine : Nat) < 2 ^ 63 := by rw [sizeLine_eq]; decide
theorem tru_ok : TruR X (fun x H Q => ∃ k, TruV X.K x H k ∧ Q k H) := by
  intro pins s σ H x v Q I rx h
  obtain ⟨k, e, q⟩ := h
  have hl := line63
  have hs : sizeLine = 16777216 := sizeLine_eq
  cases x with
  | non =>
    cases rx
    have e' : k = false := e
    subst e'
    exact truthy_none ⟨H, I, q⟩
  | bl b =>
    cases rx
    have e' : k = b := e
    subst e'
    exact wpAny_truthy_bool ⟨H, I, q⟩
  | int i =>
    obtain ⟨t, rfl⟩ := rx
    have e' : k = (i != 0) := e
    subst e'
    exact PySem.P.truthy_int ⟨H, I, q⟩
  | str y =>
    obtain ⟨t, rfl⟩ := rx
    obtain ⟨hy, e'⟩ : y.length ≤ sizeLine ∧ k = ((y.length : Int) != 0) := e
    subst e'
    exact PySem.P.truthy_str (by omega) ⟨H, I.tok _, q⟩
  | byt y =>
    obtain ⟨t, rfl⟩ := rx
    obtain ⟨hy, e'⟩ : y.size ≤ sizeLine ∧ k = ((y.size : Int) != 0) := e
    subst e'
    exact PySem.W.truthy_bytes (by omega) ⟨H, I.tok _, q⟩
  | ref p =>
    cases rx
    have e' : (∃ xs, SqL X.K H p xs ∧ k = !xs.isEmpty) ∨ (∃ xs, SqT X.K H p xs ∧ k = !xs.isEmpty) ∨ ∃ kvs, H p = some (.dK kvs) ∧ k = !kvs.isEmpty := e
    rcases e' with ⟨xs, hx, e'⟩ | ⟨xs, hx, e'⟩ | ⟨kvs, hx, e'⟩
    · subst e'
      obtain ⟨its, r, pl, hz⟩ := I.list hx
      have hlen := r.length
      exact wpAny_truthy_list pl.isList (by simp only [List.size_toArray]; omega) ⟨H, I.tok _, by rw [isEmpty_of r]; exact q⟩
    · subst e'
      obtain ⟨its, r, pl, hz⟩ := I.tuple hx
      have hlen := r.length
      exact truthy_tuple pl (by simp only [List.size_toArray]; omega) ⟨H, I.tok _, by rw [isEmpty_of r]; exact q⟩
    · subst e'
      obtain ⟨hz, hS, vs, r, m⟩ : kvs.length ≤ sizeLine ∧ (p == sysModules) = false ∧ ∃ vs, KV kvs vs ∧ s.heap.DictOf (mixKind X.prog X.w) p vs := I.hok p _ hx
      have hlen : kvs.length = vs.length := Paired.length r
      exact wpAny_truthy_dict hS m (by omega) ⟨H, I.tok _, by rw [isEmpty_kv r]; exact q⟩
  | _ => exact (show False from e).elim
/-- any expression whose test is its value's truth (a name, a call, a subscript, a field ..: he by fun _ => rfl) -/
theorem pt_truth (ha : PE X a ta) (he : ∀ whole, isTrue a X.env whole = (do let v ← whole; standAt a.pos; holding [v] (truthy v))) :
    PT X a (fun σ H Q => ta σ H fun x H' => ∃ k, TruV X.K x H' k ∧ Q k H') := by
  intro pins s σ H Q I h
  exact isTrue_plain (thn (ha pins s σ H _ I h) fun v s1 ⟨x, H1, I1, r1, q1⟩ => tru_ok pins s1 σ H1 x v Q I1 r1 q1) (he _)

/-! ### strs and bytes -/
def PlainIxT (b : Expr) : Prop := ∀ o i, subscripted b false o i = operate [o, i] (getItem o i)
/-! ### scalar builtins, by CallR -/
theorem vals1 {x : V} {us : List Value} (r : Vals [x] us) : ∃ u, us = [u] ∧ RelV x u := by
  cases r with
  | cons r1 r2 => cases r2; exact ⟨_, rfl, r1⟩
theorem vals2 {x y : V} {us : List Value} (r : Vals [x, y] us) : ∃ u w', us = [u, w'] ∧ RelV x u ∧ RelV y w' := by
  cases r with
  | cons r1 r2 =>
    cases r2 with
    | cons r3 r4 => cases r4; exact ⟨_, _, rfl, r1, r3⟩
theorem call_max2 (hc : X.calm = true) : CallR X (.builtin "max") (fun xs H Q => ∃ i j, xs = [.int i, .int j] ∧ Q (.int (if j > i then j else i)) H) := by
  intro pins s σ H xs us Q I r h
  obtain ⟨i, j, rfl, q⟩ := h
  obtain ⟨u, w', rfl, ⟨t, rfl⟩, ⟨t', rfl⟩⟩ := vals2 r
  refine max_two_ints (I.ok.hd hc) fun h' tk k => ⟨_, H, I.kept k, ?_, q⟩
  by_cases hj : j > i
  · rw [if_pos hj, if_pos hj]; exact ⟨_, rfl⟩
  · rw [if_neg hj, if_neg hj]; exact ⟨_, rfl⟩
/-- len of a str, a bytes, a list, a tuple -/
def LenV (K : PySem.W.Frag) (x : V) (H : Hp) (n : Nat) : Prop :=
  match x with
  | .str y => y.length ≤ sizeLine ∧ n = y.length
  | .byt y => y.size ≤ sizeLine ∧ n = y.size
  | .ref p => (∃ xs, SqL K H p xs ∧ n = xs.length) ∨ ∃ xs, SqT K H p xs ∧ n = xs.length
  | _ => False
end
end L2

namespace L2
open PySem PySem.Spec PyProof.Rows

/-! ### an instance, its attributes a map -/
structure ObjM (h : Heap) (x dx C : Addr) (mA : Str → Option Value) : Prop where
  obj : h.get? x = some (PySem.W.instObj C dx)
  ns : h.Ns1 dx mA
  ne : dx ≠ x

theorem lookIn_ns {h : Heap} {dx : Addr} {mA : Str → Option Value} (n : h.Ns1 dx mA) : ∃ od, h.get? dx = some od ∧ ∀ name, PySem.W.lookIn name od = some (mA name) := by
  obtain ⟨o, es, ep, ho, hd, hk, _, hm⟩ := n
  refine ⟨o, ho, fun name => ?_⟩
  have e := hm name
  unfold nsFind findBy at e
  rw [← Array.find?_toList] at e
  unfold PySem.W.lookIn
  rw [hd]
  dsimp only
  split
  · rename_i y q
    rw [q] at e
    exact congrArg some e
  · rename_i q
    rw [q] at e
    have a : es.toList.any (·.refKey) = false := by
      rw [List.any_eq_false]
      intro y hy
      obtain ⟨z, t, hkey⟩ := hk y (Array.mem_toList_iff.mp hy)
      simp [DictEntry.refKey, hkey]
    have a' : ¬ es.toList.any (·.refKey) = true := by rw [a]; exact Bool.false_ne_true
    rw [if_neg a']
    exact congrArg some e

theorem ObjM.look {h : Heap} {x dx C : Addr} {mA : Str → Option Value} (I : ObjM h x dx C mA) : ∃ od, PySem.W.InstAt h x (PySem.W.instObj C dx) C (some od) ∧ ∀ name, PySem.W.lookIn name od = some (mA name) :=
  let ⟨od, ho, hl⟩ := lookIn_ns I.ns
  ⟨od, ⟨I.obj, rfl, rfl, ho⟩, hl⟩

section
variable {prog : Program} {w : World} {A : Around} {E : Value → Shared → Prop} {s : Shared} {K : PySem.W.Frag} {x dx C f : Addr} {mA : Str → Option Value} {name : Str} {v : Value}

end

/-! ### the attributes as a list of pairs -/
def putF (f : Str) (v : V) : List (Str × V) → List (Str × V)
  | [] => [(f, v)]
  | (g, x) :: r => if g = f then (g, v) :: r else (g, x) :: putF f v r
theorem RelO.some_of {v : V} {o : Option Value} (r : RelO (some v) o) : ∃ u, o = some u ∧ RelV v u := by
  cases o with
  | none => exact (show False from r).elim
  | some u => exact ⟨u, rfl, r⟩
section
variable {P : Program} {w : World} {H H' : Hp} {h h' : Heap} {a C dx : Addr} {fs fs' : List (Str × V)}
theorem ins_get (hok : HOk P w H h) (e : H a = some (.ins C dx fs)) : ∃ mA, ObjM h a dx C mA ∧ (∀ f, RelO (fs.lookup f) (mA f)) ∧ PySem.Within mA (fs.map (·.1)) ∧ fs.length ≤ 1000 ∧ H dx = some (.own a) := by
  obtain ⟨d, z, ne, ob, mA, n, r, q⟩ := (show ObjOk P w H h a (.ins C dx fs) from hok a _ e)
  exact ⟨mA, ⟨ob, n, ne⟩, r, q, z, d⟩
end

/-! ### what of the text a class must have -/
structure Cls (K : PySem.W.Frag) (C : Addr) : Prop where
  pg : PySem.W.plainGet K C Str.empty = true
  hd : PySem.W.hasDictIn K C = true
  po : PySem.W.plainOver K C = true
  sa : PySem.W.findIn K (.ref C) "__setattr__" = some (some (.builtin "object.__setattr__"))
theorem Cls.get {K : PySem.W.Frag} {C : Addr} (c : Cls K C) (f : Str) : PySem.W.plainGet K C f = true := c.pg
/-- no class of it has the name -/
def NoAttr (K : PySem.W.Frag) (C : Addr) (f : Str) : Prop := PySem.W.findIn K (.ref C) f = some none
/-- a constant of the class -/
structure Con (K : PySem.W.Frag) (C : Addr) (f : Str) (v : V) (u : Value) : Prop where
  at_ : PySem.W.findIn K (.ref C) f = some (some u)
  rel : RelV v u
  get : PySem.W.specialIn K u "__get__" = some none
  cp : PySem.W.copiedNames.contains f = false
/-- a method: a plain def of the class or of one above it -/
structure Meth (K : PySem.W.Frag) (C : Addr) (m : Str) (f : Addr) : Prop where
  at_ : PySem.W.findIn K (.ref C) m = some (some (.ref f))
  fn : PySem.W.isFn K (.ref f) = true
  kp : PySem.W.keepIn K (.ref f) = true

section
variable {X : Cx} {pins : List (Addr × Obj)} {σ : St} {H : Hp} {s : Shared} {a C dx : Addr} {fs : List (Str × V)} {f : Str} {v : V} {A : Around} {E : Value → Shared → Prop}

end

/-! ### readings and rules -/
/-- e.f, an attribute of the instance -/
def tFld (K : PySem.W.Frag) (ta : TE) (f : Str) : TE := fun σ H Q => ta σ H fun x H1 => ∃ a C dx fs v, x = .ref a ∧ H1 a = some (.ins C dx fs) ∧ Cls K C ∧ NoAttr K C f ∧ fs.lookup f = some v ∧ Q v H1
/-- e.f, a constant of the class -/
def tCon (K : PySem.W.Frag) (ta : TE) (f : Str) : TE := fun σ H Q => ta σ H fun x H1 => ∃ a C dx fs v u, x = .ref a ∧ H1 a = some (.ins C dx fs) ∧ Cls K C ∧ Con K C f v u ∧ fs.lookup f = none ∧ Q v H1
/-- e.f = value -/
def sFld (K : PySem.W.Frag) (ta tv : TE) (f : Str) : TS := fun D σ H => tv σ H fun y H1 => ta σ H1 fun x H2 => ∃ a C dx fs, x = .ref a ∧ H2 a = some (.ins C dx fs) ∧ Cls K C ∧ NoAttr K C f ∧ fs.length < 1000 ∧
  D.nx σ (upd H2 a (.ins C dx (putF f y fs)))
/-- an augmented operator on two values -/
def InOp (X : Cx) (op : Operator) (rd : V → V → Hp → VK → Prop) : Prop :=
  ∀ (pins : List (Addr × Obj)) (s : Shared) (σ : St) (H : Hp) (x y : V) (u v : Value) (Q : VK), Inv X pins σ H s → RelV x u → RelV y v → rd x y H Q → wpAny (model X.prog X.w) X.A (inplaceOp op u v) (EP X pins σ Q) X.xe s
/-- e.f op= value -/
def sFldAug (K : PySem.W.Frag) (ta tv : TE) (rd : V → V → Hp → VK → Prop) (f : Str) : TS := fun D σ H => ta σ H fun x H1 => ∃ a C dx fs v, x = .ref a ∧ H1 a = some (.ins C dx fs) ∧ Cls K C ∧ NoAttr K C f ∧ fs.lookup f = some v ∧
  tv σ H1 fun y H2 => rd v y H2 fun z H3 => ∃ dx' fs', H3 a = some (.ins C dx' fs') ∧ fs'.length < 1000 ∧ D.nx σ (upd H3 a (.ins C dx' (putF f z fs')))

section
variable {X : Cx} {o e value : Expr} {f : Str} {pos pos' tpos : Pos} {ta tv : TE}
def rAdd : V → V → Hp → VK → Prop := fun x y H Q => ∃ i j, x = .int i ∧ y = .int j ∧ Q (.int (i + j)) H
def rSub : V → V → Hp → VK → Prop := fun x y H Q => ∃ i j, x = .int i ∧ y = .int j ∧ Q (.int (i - j)) H
end

/-! ### isinstance -/
section
variable {X : Cx} {pins : List (Addr × Obj)} {σ : St} {H : Hp} {s : Shared} {A : Around} {E : Value → Shared → Prop} {Q : Value → Shared → Prop} {c : Value} {b : Bool}
/-- the type of a value, as the fragment's deciders take it; for an instance its class -/
inductive TyOf (K : PySem.W.Frag) (H : Hp) : V → Value → Prop where
  | non : TyOf K H .non (.type "NoneType")
  | bl (x : Bool) : TyOf K H (.bl x) (.type "bool")
  | int (i : Int) : TyOf K H (.int i) (.type "int")
  | str (x : Str) : TyOf K H (.str x) (.type "str")
  | flt (x : UInt64) : TyOf K H (.flt x) (.type "float")
  | lst {a : Addr} {xs : List V} (e : H a = some (.lst xs)) : TyOf K H (.ref a) (.type "list")
  | frz {a : Addr} {o : Obj} {xs : List V} (e : H a = some (.frz o (.lst xs))) : TyOf K H (.ref a) (.type "list")
  | tup {a : Addr} {xs : List V} (e : H a = some (.tup xs)) : TyOf K H (.ref a) (.type "tuple")
  | dK {a : Addr} {kvs : List (Key × V)} (e : H a = some (.dK kvs)) : TyOf K H (.ref a) (.type "dict")
  | dT {a : Addr} {kvs : List (List Key × V)} (e : H a = some (.dT kvs)) : TyOf K H (.ref a) (.type "dict")
  | ins {a C dx : Addr} {fs : List (Str × V)} (e : H a = some (.ins C dx fs)) (cl : Cls K C) (ha : PySem.W.findIn K (.ref C) "__class__" = some (some (.builtin "object.__class__")))
      (hn : PySem.W.specialIn K (.builtin "object.__class__") "__get__" = some (some (.builtin "getset_descriptor.__get__"))) (htk : PySem.W.takesIn K (.builtin "object.__class__") = some true)
      (hm : PySem.W.mroIn K C (.type "object") = some true) : TyOf K H (.ref a) (.ref C)
/-- isinstance(x, c) for one class c, a built-in or an own one: kitOne's answer -/
theorem isinst_ok {x : V} {u t : Value} (I : Inv X pins σ H s) (rx : RelV x u) (ty : TyOf X.K H x t) (e : PySem.W.kitOne X.K t c = some b) (h : ∀ tk, Q (.bool b) { s with toks := tk }) :
    wpAny (model X.prog X.w) A (call (.builtin "isinstance") [u, c]) Q E s := by
  cases ty with
  | non => cases (show u = Value.none from rx); exact PySem.W.kia_one PySem.W.kitx_none I.kIn True.intro e (fun z => nomatch z) h
  | bl y => cases (show u = Value.bool y from rx); exact PySem.W.kia_one PySem.W.kitx_bool I.kIn True.intro e (fun z => nomatch z) h
  | int i => obtain ⟨t, q⟩ := (show ∃ t, u = Value.int i t from rx); cases q; exact PySem.W.kia_one PySem.W.kitx_int I.kIn True.intro e (fun z => nomatch z) h
  | str y => obtain ⟨t, q⟩ := (show ∃ t, u = Value.str y t from rx); cases q; exact PySem.W.kia_one PySem.W.kitx_str I.kIn True.intro e (fun z => nomatch z) h
  | flt y => obtain ⟨t, q⟩ := (show ∃ t, u = Value.float y t from rx); cases q; exact PySem.W.kia_one PySem.W.kitx_float I.kIn True.intro e (fun z => nomatch z) h
  | @lst a xs ea =>
    cases (show u = Value.ref a from rx)
    obtain ⟨_, _, n, _, h1⟩ := (show ObjOk X.prog X.w H s.heap a (.lst xs) from I.hok a _ ea)
    exact PySem.W.kia_one PySem.W.kitx_list I.kIn ⟨_, h1, rfl⟩ e (fun z => nomatch z) h
  | @frz a ob xs ea =>
    cases (show u = Value.ref a from rx)
    obtain ⟨_, _, _, n, _, h1⟩ := (show ObjOk X.prog X.w H s.heap a (.frz ob (.lst xs)) from I.hok a _ ea)
    exact PySem.W.kia_one PySem.W.kitx_list I.kIn ⟨_, h1, rfl⟩ e (fun z => nomatch z) h
  | @tup a xs ea =>
    cases (show u = Value.ref a from rx)
    obtain ⟨_, _, _, p⟩ := (show ObjOk X.prog X.w H s.heap a (.tup xs) from I.hok a _ ea)
    obtain ⟨o, h1, h2, _⟩ := p
    exact PySem.W.kia_one PySem.W.kitx_tuple I.kIn ⟨o, h1, h2⟩ e (fun z => nomatch z) h
  | @dK a kvs ea =>
    cases (show u = Value.ref a from rx)
    obtain ⟨_, _, vs, _, p⟩ := (show ObjOk X.prog X.w H s.heap a (.dK kvs) from I.hok a _ ea)
    obtain ⟨o, es, ep, h1, h2, _⟩ := p
    exact PySem.W.kia_one PySem.W.kitx_dict I.kIn ⟨o, h1, h2.1⟩ e (fun z => nomatch z) h
  | @dT a kvs ea =>
    cases (show u = Value.ref a from rx)
    obtain ⟨_, _, xs, _, o, es, ep, h1, h2, _⟩ := (show ObjOk X.prog X.w H s.heap a (.dT kvs) from I.hok a _ ea)
    exact PySem.W.kia_one PySem.W.kitx_dict I.kIn ⟨o, h1, h2.1⟩ e (fun z => nomatch z) h
  | @ins a C dx fs ea cl ha hn htk hm =>
    cases (show u = Value.ref a from rx)
    obtain ⟨mA, O, _⟩ := ins_get I.hok ea
    obtain ⟨od, J, _⟩ := O.look
    exact PySem.W.kia_one (PySem.W.kitx_own (cl.get _) cl.hd ha hn htk hm) I.kIn J e (fun z => nomatch z) h
end
end L2

namespace L2
open PySem PySem.Spec PyProof.Rows

/-! ### room -/
structure Room (k : Nat) (A : Around) : Prop where
  hd : A.handled = none
  dp : A.depth + 3 * k + 5 < recursionLimit
  un : A.units + 16 * k + 200 < cLine
theorem Room.mono {j k : Nat} {A : Around} (r : Room k A) (h : j ≤ k) : Room j A := ⟨r.hd, by have := r.dp; omega, by have := r.un; omega⟩
theorem Room.deeper {k : Nat} {A : Around} (r : Room (k + 1) A) (env : Env) : Room k (A.deeper env) :=
  ⟨r.hd, by have := r.dp; show A.depth + 1 + 3 * k + 5 < _; omega, by have := r.un; show A.units + 3 + 16 * k + 200 < _; omega⟩
theorem Room.in1 {k : Nat} {A : Around} (r : Room (k + 1) A) : Room k A.in1 :=
  ⟨r.hd, by have := r.dp; show A.depth + 3 * k + 5 < _; omega, by have := r.un; show A.units + 1 + 16 * k + 200 < _; omega⟩
theorem Room.depth {k : Nat} {A : Around} (r : Room k A) : A.depth < recursionLimit := by have := r.dp; omega
theorem Room.units {k : Nat} {A : Around} (r : Room k A) : A.units + 64 < cLine := by have := r.un; omega
/-! ### argument lists and displays -/
def tNil : TA := fun _ H Q => Q [] H
def tCons (ta : TE) (tr : TA) : TA := fun σ H Q => ta σ H fun x H1 => tr σ H1 fun xs H2 => Q (x :: xs) H2
section
variable {X : Cx} {e : Expr} {es : List Expr} {te : TE} {t : TA} {pos : Pos}
theorem pa_nil : PA X [] tNil := fun _ _ _ _ H Q I h => Calls.spliced_nil ⟨[], H, I, .nil, h⟩
theorem pa_cons (ha : PE X e te) (hr : PA X es t) (hs : starEach (e :: es) X.env = (false, eval e X.env) :: starEach es X.env := by rfl) : PA X (e :: es) (tCons te t) := by
  intro pos pins s σ H Q I h
  rw [hs]
  show wpAny _ _ (spliced ((false, eval e X.env) :: backTo pos (starEach es X.env))) _ _ s
  refine Calls.spliced_cons (thn (ha pins s σ H _ I h) fun u s1 ⟨x, H1, I1, r1, q1⟩ => ?_)
  exact thn (hr pos pins s1 σ H1 _ I1 q1) fun us s2 ⟨xs, H2, I2, r2, q2⟩ => ⟨x :: xs, H2, I2, .cons r1 r2, q2⟩

/-- a tuple, a list of written items -/
def tTup (t : TA) : TE := fun σ H Q => t σ H fun xs H1 => xs.length ≤ sizeLine ∧ ∀ p, H1 p = none → Q (.ref p) (upd H1 p (.tup xs))
def tLst (t : TA) : TE := fun σ H Q => t σ H fun xs H1 => xs.length ≤ sizeLine ∧ ∀ p, H1 p = none → Q (.ref p) (upd H1 p (.lst xs))
theorem pe_tup {x1} (h : PA X es t) : PE X (.Tuple es x1 pos) (tTup t) := by
  intro pins s σ H Q I hq
  refine wpAny_Tuple_spliced (thn (h pos pins s σ H _ I hq) fun us s1 ⟨xs, H1, I1, r, z, q⟩ => ⟨by rw [← r.length]; exact z, ?_⟩)
  have hf : H1 s1.heap.objs.size = none := I1.hok.fresh (Nat.le_refl _)
  refine ⟨.ref s1.heap.objs.size, upd H1 s1.heap.objs.size (.tup xs), I1.laid (t' := s1.toks) (fun b u e => Heap.get?_push_of_some _ e) (Nat.le_refl _) ?_, rfl, q _ hf⟩
  exact ⟨z, us, r, ⟨_, Heap.get?_push_size _ rfl, rfl, _, rfl⟩⟩
theorem pe_lst (h : PA X es t) : PE X (.List es pos) (tLst t) := by
  intro pins s σ H Q I hq
  refine wpAny_List_spliced (thn (h pos pins s σ H _ I hq) fun us s1 ⟨xs, H1, I1, r, z, q⟩ => ⟨by rw [← r.length]; exact z, ?_⟩)
  have hf : H1 s1.heap.objs.size = none := I1.hok.fresh (Nat.le_refl _)
  refine ⟨.ref s1.heap.objs.size, upd H1 s1.heap.objs.size (.lst xs), I1.laid (t' := s1.toks) (fun b u e => Heap.get?_push_of_some _ e) (Nat.le_refl _) ?_, rfl, q _ hf⟩
  exact ⟨z, us, 0, r, Heap.get?_push_size _ rfl⟩
end

/-! ### what a def promises -/
/-- a def's promise: the bound arguments in the parameters' order, the heap, the wanted end, the wanted exception -/
abbrev Sp := List V → Hp → VK → XK → Prop
/-- how an exception lies behind a call (file 08 gives it): the callers' frames, abstract heap and state ahead of the call, the wish, the exception, the state -/
abbrev CXT := List Env → Hp → Shared → XK → Value → Shared → Prop

/-- the state at a call -/
structure Env0 (P : Program) (w : World) (K : PySem.W.Frag) (mg : Str → Option Value) (base : Heap) (A : Around) (outer : List Env) (s : Shared) (H : Hp) : Prop where
  frames : A.frames = some outer
  mod : Mod K mg base
  bs : ∀ b o, base.get? b = some o → s.heap.get? b = some o ∧ H b = none
  bsz : base.objs.size ≤ s.heap.objs.size
  funs : s.heap.FunFrames base outer
  frf : ∀ b ∈ frs outer, H b = none
  hok : HOk P w H s.heap
  bare : AllBare s.gens
/-- a call's end -/
def CE (outer : List Env) (P : Program) (w : World) (H : Hp) (s : Shared) (Q : VK) (u : Value) (s' : Shared) : Prop :=
  ∃ v H', s'.os = s.os ∧ AllBare s'.gens ∧ Un (frs outer) [] H H' s.heap s'.heap ∧ HOk P w H' s'.heap ∧ RelV v u ∧ Q v H'
def CR (CX : CXT) (outer : List Env) (P : Program) (w : World) (H : Hp) (s : Shared) (Q : VK) (E : XK) (r : Result) (s' : Shared) : Prop :=
  match r with
  | .ok (.ret u) => CE outer P w H s Q u s'
  | .ok _ => False
  | .error e => CX outer H s E e s'
structure FnOk (P : Program) (w : World) (K : PySem.W.Frag) (mg : Str → Option Value) (base : Heap) (CX : CXT) (k : Nat) (f : Addr) (fd : FuncData) (ps : List Str) (sp : Sp) : Prop where
  len : ∀ vs H Q E, sp vs H Q E → vs.length = ps.length
  run : ∀ (A : Around) (outer : List Env) (s : Shared) (H : Hp) (args : Args) (us : List Value) (vs : List V) (Q : VK) (E : XK), Room k A → Env0 P w K mg base A outer s H → BindsTo s fd args (ps.zip us) → Vals vs us → sp vs H Q E →
    codeAny (model P w) A (.call (.ref f) args) (CR CX outer P w H s Q E) s
theorem FnOk.mono {P : Program} {w : World} {K : PySem.W.Frag} {mg : Str → Option Value} {base : Heap} {CX : CXT} {j k : Nat} {f : Addr} {fd : FuncData} {ps : List Str} {sp : Sp} (F : FnOk P w K mg base CX j f fd ps sp) (h : j ≤ k) :
    FnOk P w K mg base CX k f fd ps sp := ⟨F.len, fun A outer s H args us vs Q E hr => F.run A outer s H args us vs Q E (hr.mono h)⟩
theorem Env0.in1 {P : Program} {w : World} {K : PySem.W.Frag} {mg : Str → Option Value} {base : Heap} {A : Around} {outer : List Env} {s : Shared} {H : Hp} (e : Env0 P w K mg base A outer s H) :
    Env0 P w K mg base A.in1 outer s H := ⟨e.frames, e.mod, e.bs, e.bsz, e.funs, e.frf, e.hok, e.bare⟩

section
variable {X : Cx} {pins : List (Addr × Obj)} {σ : St} {H : Hp} {s s' : Shared}
/-- from a body: what a callee wants -/
theorem Inv.env0 (I : Inv X pins σ H s) : Env0 X.prog X.w X.K X.mg X.base X.A X.stack s H :=
  ⟨I.ok.frames, I.ok.mod, I.bs, Nat.le_trans I.ok.bsz I.sz, I.stack, I.stkFree, I.hok, I.bare⟩
/-- behind a call -/
theorem Inv.after {Q : VK} {u : Value} (I : Inv X pins σ H s) (h : CE X.stack X.prog X.w H s Q u s') : EP X pins σ Q u s' := by
  obtain ⟨v, H', os, bare, un, hok, r, q⟩ := h
  obtain ⟨hh, g, d, t, os'⟩ := s'
  obtain rfl : os' = s.os := os
  exact ⟨v, H', I.call (h' := hh) (g' := g) (d' := d) (t' := t) (ch := []) un hok bare (fun b z => absurd z (by simp)), r, q⟩
end

/-! ### calls -/
/-- f(..): the written arguments, then the defaults dvs; E: what is wanted of an exception -/
def tCall (sp : Sp) (dvs : List V) (E : XK) (t : TA) : TE := fun σ H Q => t σ H fun vs H1 => sp (vs ++ dvs) H1 Q E
/-- o.m(..) of an instance of the class at C -/
def tMeth (C : Addr) (m : Str) (sp : Sp) (dvs : List V) (E : XK) (ta : TE) (t : TA) : TE := fun σ H Q => ta σ H fun x H1 => ∃ a dx fs, x = .ref a ∧ H1 a = some (.ins C dx fs) ∧ fs.lookup m = none ∧
  t σ H1 fun vs H2 => sp (x :: (vs ++ dvs)) H2 Q E
/-- C(..): a new instance and its dict, then __init__ -/
def tMake (C : Addr) (sp : Sp) (dvs : List V) (E : XK) (t : TA) : TE := fun σ H Q => t σ H fun vs H1 => ∀ x dx, H1 x = none → H1 dx = none → dx ≠ x →
  sp (.ref x :: (vs ++ dvs)) (upd (upd H1 dx (.own x)) x (.ins C dx [])) (fun v H2 => v = .non ∧ Q (.ref x) H2) E

/-- how the parameters are bound: us the positional arguments, kw the keywords' values by name, ds the defaults that fill up -/
def Binds (K : PySem.W.Frag) (fd : FuncData) (ps : List Str) (ds : List Value) : Prop :=
  ∀ (s : Shared) (us : List Value), K.In s.heap → (us ++ ds).length = ps.length → BindsTo s fd ⟨us, []⟩ (ps.zip (us ++ ds))
/-- every parameter is given -/
theorem Binds.all {K : PySem.W.Frag} {fd : FuncData} {ps : List Str} (h : ∀ us : List Value, us.length = ps.length → bindArgs fd ⟨us, []⟩ = pure (ps.zip us)) : Binds K fd ps [] := fun s us _ hl => by
  rw [List.append_nil] at hl ⊢
  exact .of_eq (h us hl)

/-- an exception of a callee reaches what this body wants of exceptions -/
def Passes (CX : CXT) (X : Cx) (E : XK) : Prop := ∀ (pins : List (Addr × Obj)) (σ : St) (H : Hp) (s : Shared) (e : Value) (s' : Shared), Inv X pins σ H s → CX X.stack H s E e s' → X.xe e s'

section
variable {X : Cx} {CX : CXT} {k : Nat} {f C : Addr} {fd : FuncData} {ps : List Str} {sp : Sp} {dvs : List V} {ds : List Value} {E : XK} {x m : Str} {p pos apos : Pos} {e o : Expr} {es : List Expr} {ta : TE} {t : TA}

/-- the callee runs -/
theorem run_fn {pins : List (Addr × Obj)} {σ : St} {H : Hp} {s : Shared} {Q : VK} {us : List Value} {vs : List V} (F : FnOk X.prog X.w X.K X.mg X.base CX k f fd ps sp) (hr : Room k X.A) (hb : Binds X.K fd ps ds) (hd : Vals dvs ds) (hx : Passes CX X E)
    (I : Inv X pins σ H s) (r : Vals vs us) (h : sp (vs ++ dvs) H Q E) : wpAny (model X.prog X.w) X.A (call (.ref f) us) (EP X pins σ Q) X.xe s := by
  have r2 : Vals (vs ++ dvs) (us ++ ds) := r.append hd
  have hl : (us ++ ds).length = ps.length := by rw [← r2.length]; exact F.len _ _ _ _ h
  refine wpAny_call (codeAny_mono (F.run X.A X.stack s H ⟨us, []⟩ (us ++ ds) (vs ++ dvs) Q E hr I.env0 (hb s us I.kIn hl) r2 h) fun r s' hq => ?_)
  cases r with
  | error e => exact hx pins σ H s e s' I hq
  | ok fl =>
    cases fl with
    | ret u => exact I.after hq
    | next => exact False.elim hq
    | brk => exact False.elim hq
    | cont => exact False.elim hq

theorem pe_call (F : FnOk X.prog X.w X.K X.mg X.base CX k f fd ps sp) (hr : Room k X.A) (hg : Gl X x) (hm : X.mg x = some (.ref f)) (hk : PySem.W.keepIn X.K (.ref f) = true) (hb : Binds X.K fd ps ds) (hd : Vals dvs ds) (hx : Passes CX X E)
    (ha : PA X (e :: es) t) (hdb : (x == ("__debug__" : Str)) = false := by decide) (he : starEach (e :: es) X.env = (false, eval e X.env) :: starEach es X.env := by rfl) (hpl : (backTo pos (starEach es X.env)).any (·.1) = false := by rfl) :
    PE X (.Call (.Name x p) (e :: es) [] pos) (tCall sp dvs E t) := by
  intro pins s σ H Q I h
  refine wpAny_Call_Name_kw (ld_glob I hg hm ?_ hdb)
  refine PySem.W.callWith_K (h₀ := X.base) I.ok.mod.kin hk (thn (ha pos pins s σ H _ I h) fun us s1 ⟨vs, H1, I1, r, q⟩ => ⟨I1.kIn, ?_⟩) he hpl
  exact run_fn F hr hb hd hx I1 r q
/-- what a class must have to be made -/
structure Mk (K : PySem.W.Frag) (C f : Addr) : Prop where
  makes : PySem.W.makesIn K C = true
  init : PySem.W.findIn K (.ref C) "__init__" = some (some (.ref f))
  fn : PySem.W.isFn K (.ref f) = true
  kp : PySem.W.keepIn K (.ref C) = true

end

/-! ### keywords -/
/-- the values of the keywords, from the left -/
def PK (X : Cx) (kws : List Keyword) (t : TA) : Prop :=
  ∀ (pos : Pos) (pins : List (Addr × Obj)) (s : Shared) (σ : St) (H : Hp) (Q : List V → Hp → Prop), Inv X pins σ H s → t σ H Q → wpAny (model X.prog X.w) X.A (evalAll ((backToKw pos (keywordEach kws X.env)).map (·.2))) (AP X pins σ Q) X.xe s
section
variable {X : Cx} {CX : CXT} {k : Nat} {f C : Addr} {fd : FuncData} {ps ks : List Str} {sp : Sp} {E : XK} {x m : Str} {p pos apos kpos : Pos} {e o : Expr} {es : List Expr} {kws : List Keyword} {te ta : TE} {t tk : TA} {nm : Option Str}
/-- how a call with keywords binds: g puts the positional values us and the keywords' values ws (names ks) in the parameters' order, defaults among them -/
structure KBinds (K : PySem.W.Frag) (fd : FuncData) (ps ks : List Str) (g : List Value → List Value → List Value) (gV : List V → List V → List V) : Prop where
  to : ∀ (s : Shared) (us ws : List Value), K.In s.heap → (g us ws).length = ps.length → BindsTo s fd ⟨us, ks.zip ws⟩ (ps.zip (g us ws))
  rel : ∀ {vs : List V} {us : List Value} {zs : List V} {ws : List Value}, Vals vs us → Vals zs ws → Vals (gV vs zs) (g us ws)
def tCallK (sp : Sp) (gV : List V → List V → List V) (E : XK) (t tk : TA) : TE := fun σ H Q => t σ H fun vs H1 => tk σ H1 fun zs H2 => sp (gV vs zs) H2 Q E
variable {g : List Value → List Value → List Value} {gV : List V → List V → List V}
end

/-! ### a def's body keeps its promise -/
/-- names: the parameters first -/
structure FnScope (N P : List Str) (sc : Scope) : Prop where
  kind : sc.kind = .function
  co : sc.isCoroutine = false
  gen : sc.isGenerator = false
  nd : N.Nodup
  pre : N.take P.length = P
  par : ∀ x ∈ P, sc.names.lookup x = some .local ∨ sc.names.lookup x = some .cell
  nofree : ∀ y ∈ sc.names, y.2 ≠ .free

theorem bindL_out {kindOf : Str → Option NameKind} {x : Str} : ∀ {binds : List (Str × Value)} {m : Str → Option Value}, (∀ v, (x, v) ∉ binds) → bindL kindOf binds m x = m x
  | [], _, _ => rfl
  | (n, v) :: r, m, h => by
    unfold bindL
    rw [bindL_out fun w hw => h w (List.mem_cons_of_mem _ hw)]
    split
    · have : x ≠ n := by rintro rfl; exact h v List.mem_cons_self
      simp [this]
    · rfl
theorem bindC_out {kindOf : Str → Option NameKind} {x : Str} : ∀ {binds : List (Str × Value)} {m : Str → Option Value}, (∀ v, (x, v) ∉ binds) → bindC kindOf binds m x = m x
  | [], _, _ => rfl
  | (n, v) :: r, m, h => by
    unfold bindC
    rw [bindC_out fun w hw => h w (List.mem_cons_of_mem _ hw)]
    split
    · rfl
    · have : x ≠ n := by rintro rfl; exact h v List.mem_cons_self
      simp [this]
theorem bindL_get {kindOf : Str → Option NameKind} {x : Str} {v : Value} : ∀ {P : List Str} {vs : List Value} {i : Nat} {m : Str → Option Value}, P.Nodup → P[i]? = some x → vs[i]? = some v → kindOf x = some .local →
    bindL kindOf (P.zip vs) m x = some v
  | [], _, _, _, _, h, _, _ => by simp at h
  | _ :: _, [], _, _, _, _, h, _ => by simp at h
  | p :: P, w :: vs, 0, m, nd, h1, h2, hk => by
    simp at h1 h2; subst h1; subst h2
    show bindL kindOf ((p, w) :: P.zip vs) m p = _
    unfold bindL
    rw [bindL_out fun v hv => (List.nodup_cons.mp nd).1 (List.of_mem_zip hv).1, if_pos hk]
    simp
  | p :: P, w :: vs, i + 1, m, nd, h1, h2, hk => by
    show bindL kindOf ((p, w) :: P.zip vs) m x = _
    unfold bindL
    exact bindL_get (i := i) (List.nodup_cons.mp nd).2 (by simpa using h1) (by simpa using h2) hk
theorem bindC_get {kindOf : Str → Option NameKind} {x : Str} {v : Value} : ∀ {P : List Str} {vs : List Value} {i : Nat} {m : Str → Option Value}, P.Nodup → P[i]? = some x → vs[i]? = some v → kindOf x ≠ some .local →
    bindC kindOf (P.zip vs) m x = some v
  | [], _, _, _, _, h, _, _ => by simp at h
  | _ :: _, [], _, _, _, _, h, _ => by simp at h
  | p :: P, w :: vs, 0, m, nd, h1, h2, hk => by
    simp at h1 h2; subst h1; subst h2
    show bindC kindOf ((p, w) :: P.zip vs) m p = _
    unfold bindC
    rw [bindC_out fun v hv => (List.nodup_cons.mp nd).1 (List.of_mem_zip hv).1, if_neg hk]
    simp
  | p :: P, w :: vs, i + 1, m, nd, h1, h2, hk => by
    show bindC kindOf ((p, w) :: P.zip vs) m x = _
    unfold bindC
    exact bindC_get (i := i) (List.nodup_cons.mp nd).2 (by simpa using h1) (by simpa using h2) hk

/-- the names' values at the entry -/
def start (N : List Str) (vs : List V) : St := vs.map some ++ List.replicate (N.length - vs.length) none

/-- the context of a def's body, at its entry; an exception leaves the frame, then lies as CX says -/
def cxOf (CX : CXT) (P : Program) (w : World) (K : PySem.W.Frag) (mg : Str → Option Value) (base : Heap) (N : List Str) (qual : Str) (scope : Scope) (f : Addr) (cd : Value) (A : Around) (outer : List Env) (s : Shared) (H : Hp) (E : XK) : Cx where
  prog := P
  w := w
  K := K
  mg := mg
  base := base
  A := A.deeper (envOfC qual scope s.heap.objs.size f cd)
  N := N
  s₀ := s
  H₀ := H
  env := envOfC qual scope s.heap.objs.size f cd
  outer := outer
  stack := envOfC qual scope s.heap.objs.size f cd :: outer
  ex := []
  calm := true
  fn := fun _ => true
  pn := []
  xe := fun e s' => wpAny (model P w) (A.deeper (envOfC qual scope s.heap.objs.size f cd)) (leaving (envOfC qual scope s.heap.objs.size f cd) e) (fun _ s'' => CX outer H s E e s'') (fun e' s'' => CX outer H s E e' s'') s'

theorem cell_has {sc : Scope} {n : Nat} {x : Str} (h : sc.names.lookup x = some .cell) : ∃ c, (cellsFrom n sc.names []).lookup x = some c := by
  have q := PySem.W.cellsFrom_some sc.names n [] (.inl h)
  exact Option.isSome_iff_exists.mp q

theorem inv_start {CX : CXT} {P : Program} {w : World} {K : PySem.W.Frag} {mg : Str → Option Value} {base : Heap} {N ps : List Str} {qual : Str} {scope : Scope} {f : Addr} {cd : Value} {A : Around} {outer : List Env} {s s1 : Shared} {H : Hp} {E : XK} {us : List Value} {vs : List V}
    (S : FnScope N ps scope) (hd : A.handled = none) (e0 : Env0 P w K mg base A outer s H) (hl : vs.length = ps.length) (r : Vals vs us)
    (x : InCallC s s.heap.objs.size (bindL (envOfC qual scope s.heap.objs.size f cd).kindOf (ps.zip us) fun _ => none) (cellsFrom (s.heap.objs.size + 1) scope.names []) (bindC (envOfC qual scope s.heap.objs.size f cd).kindOf (ps.zip us) fun _ => none) s1) :
    Inv (cxOf CX P w K mg base N qual scope f cd A outer s H E) [] (start N vs) H s1 := by
  have hpl : ps.length ≤ N.length := by have := congrArg List.length S.pre; rw [List.length_take] at this; omega
  obtain ⟨h1, tk, rfl, hk⟩ := x.done
  have noA : ∀ b : Addr, b ∉ (cxOf CX P w K mg base N qual scope f cd A outer s H E).ex := fun b z => absurd (show b ∈ ([] : List Addr) from z) (by simp)
  refine ⟨⟨e0.mod, S.kind, rfl, rfl, Nat.le_refl _, fun y z c h1 h2 => ?_, fun y hy => ?_, fun y c _ h => ?_, fun _ => hd, Around.frames_deeper e0.frames, .inr ⟨rfl, rfl⟩, fun b z => absurd z (noA b), e0.bs, e0.bsz, fun b _ _ => noA b, fun b z => absurd z (noA b), e0.funs, e0.frf⟩,
    rfl, e0.bare, Un.kept hk, ⟨_, x.toInCall.ns, fun i y v h1 h2 h3 => ?_⟩, fun y c h => ⟨_, x.cell y c h⟩, e0.hok.fresh (Nat.le_refl _), fun y c h => ?_, fun p hp => absurd (show p ∈ ([] : List (Addr × Obj)) from hp) (by simp), e0.hok.kept hk, ?_⟩
  · exact name_of_addr x.apart (PySem.mem_of_lookup h1) (PySem.mem_of_lookup h2)
  · have hy : scope.names.lookup y = some .cell ∨ scope.names.lookup y = some .free := hy
    rcases hy with hy | hy
    · exact cell_has hy
    · exact absurd rfl (S.nofree _ (PySem.mem_of_lookup hy))
  · exact Nat.le_of_lt (x.above y c (PySem.mem_of_lookup h))
  · have hi : i < vs.length := by
      unfold start at h2
      by_cases hi : i < vs.length
      · exact hi
      · rw [List.getElem?_append_right (by simpa using hi)] at h2
        rw [List.getElem?_replicate] at h2
        split at h2 <;> cases h2
    have ha : vs[i]? = some v := by
      unfold start at h2
      rw [List.getElem?_append_left (by simpa using hi), List.getElem?_map] at h2
      cases e : vs[i]? with
      | none => rw [e] at h2; cases h2
      | some a => rw [e] at h2; cases h2; rfl
    obtain ⟨u, hu, rv⟩ := r.get ha
    have hp : ps[i]? = some y := by
      rw [← S.pre, List.getElem?_take_of_lt (by omega)]; exact h1
    have ndP : ps.Nodup := by rw [← S.pre]; exact S.nd.sublist (List.take_sublist _ _)
    refine ⟨u, rv, ?_⟩
    rcases S.par y (List.mem_of_getElem? hp) with k | k
    · exact .inl ⟨k, bindL_get ndP hp hu k⟩
    · obtain ⟨c, e⟩ := cell_has (n := s.heap.objs.size + 1) k
      refine .inr ⟨.inl k, c, e, ?_⟩
      have q := x.cell y c e
      rw [bindC_get ndP hp hu (by show scope.names.lookup y ≠ _; rw [k]; decide)] at q
      exact q
  · exact e0.hok.fresh (Nat.le_of_lt (x.above y c (PySem.mem_of_lookup h)))
  · unfold start
    show _ = N.length
    rw [List.length_append, List.length_map, List.length_replicate]
    omega

/-- THE RULE: a def (or a method) of the text, by its body. The body's reading t is chosen for each entry; it is run at the parameters' values -/
theorem fn_of {CX : CXT} {P : Program} {w : World} {K : PySem.W.Frag} {mg : Str → Option Value} {base : Heap} {k : Nat} {f : Addr} {name qual : Str} {params : Arguments} {body : List Stmt} {scope : Scope} {dV kV doc pm cdv ct oc : Value} {an od : Option Addr}
    {osl : Array (Option Value)} {N ps : List Str} {sp : Sp} (lk : K.lookup f = some ⟨oc, od, .func (PySem.W.fnOf name qual params body scope dV kV doc pm an cdv ct), osl⟩) (hcd : PySem.W.codeIn K cdv qual = true) (S : FnScope N ps scope)
    (len : ∀ vs H Q E, sp vs H Q E → vs.length = ps.length)
    (hbody : ∀ (A : Around) (outer : List Env) (s : Shared) (H : Hp) (vs : List V) (Q : VK) (E : XK), Room k (A.deeper (envOfC qual scope s.heap.objs.size f cdv)) → sp vs H Q E →
      ∃ t, PSs (cxOf CX P w K mg base N qual scope f cdv A outer s H E) body t ∧ t { nx := fun _ H' => Q .non H', rt := Q } (start N vs) H) :
    FnOk P w K mg base CX (k + 1) f (PySem.W.fnOf name qual params body scope dV kV doc pm an cdv ct) ps sp := by
  refine ⟨len, fun A outer s H args us vs Q E hr e0 hb r hsp => ?_⟩
  have hl := len _ _ _ _ hsp
  have KX : K.In s.heap := e0.mod.kin.keeps fun b o e => (e0.bs b o e).1
  have lim : s.heap.NoLimit := e0.mod.nolimit.keeps fun b o e => (e0.bs b o e).1
  have hkind : ∀ y ∈ ps.zip us, scope.names.lookup y.1 = some .local ∨ (scope.names.lookup y.1 = some .cell ∧ ((cellsFrom (s.heap.objs.size + 1) scope.names []).lookup y.1).isSome = true) := fun ⟨n, v⟩ hy => by
    rcases S.par n (List.of_mem_zip hy).1 with q | q
    · exact .inl q
    · exact .inr ⟨q, PySem.W.cellsFrom_some _ _ _ (.inl q)⟩
  refine codeAny_call_function hr.depth (KX _ _ lk) rfl S.co S.gen rfl (PySem.W.codeRec_of KX hcd) (hb _ _ _ _ ?_)
  refine wpAny_newFunctionEnv_cells S.kind hkind fun env he s1 x => ?_
  subst he
  refine ⟨lim.keeps x.toInCall.keep, codeAny_func ?_⟩
  obtain ⟨t, ht, hq⟩ := hbody A outer s H vs Q E (hr.deeper _) hsp
  have I : Inv (cxOf CX P w K mg base N qual scope f cdv A outer s H E) [] (start N vs) H s1 := inv_start S hr.hd e0 hl r x
  refine wpAny_mono (ht [] s1 (start N vs) H _ I hq) (fun fl s' hs => ?_) fun e s' hs => hs
  have fin : ∀ {σ' : St} {H' : Hp} {v : V} {u : Value}, Inv (cxOf CX P w K mg base N qual scope f cdv A outer s H E) [] σ' H' s' → RelV v u → Q v H' → CE outer P w H s Q u s' :=
    fun {σ' H' v u} J rv q => ⟨v, H', J.os, J.bare, J.base, J.hok, rv, q⟩
  cases fl with
  | ret u =>
    obtain ⟨v, σ', H', J, rv, q⟩ := hs
    exact fin J rv q
  | next =>
    obtain ⟨σ', H', J, q⟩ := hs
    exact fin (v := V.non) (u := Value.none) J rfl q
  | brk =>
    obtain ⟨_, _, _, q⟩ := hs
    exact False.elim q
  | cont =>
    obtain ⟨_, _, _, q⟩ := hs
    exact False.elim q
end L2

namespace L2
open PySem PySem.Spec PyProof.Rows
section
variable {X : Cx} {x : Str} {p pos : Pos} {e : Expr} {es : List Expr} {t : TA} {id T : String} {r : List V → Hp → VK → Prop}

def tCB (r : List V → Hp → VK → Prop) (t : TA) : TE := fun σ H Q => t σ H fun vs H1 => r vs H1 Q
/-- f(e, ..), f a built-in function -/
theorem pe_callB (hc : CallR X (.builtin id) r) (hg : Gl X x) (hm : X.mg x = none) (hv : bootBuiltins x = some (.builtin id)) (ha : PA X (e :: es) t) (hn : x ≠ "__name__" := by decide) (hdb : (x == ("__debug__" : Str)) = false := by decide)
    (he : starEach (e :: es) X.env = (false, eval e X.env) :: starEach es X.env := by rfl) (hpl : (backTo pos (starEach es X.env)).any (·.1) = false := by rfl) : PE X (.Call (.Name x p) (e :: es) [] pos) (tCB r t) := by
  intro pins s σ H Q I h
  refine wpAny_Call_Name_kw (ld_blt I hg hm hv ?_ hn hdb)
  exact PyProof.Rows.callWith_builtin1 (thn (ha pos pins s σ H _ I h) fun us s1 ⟨vs, H1, I1, r1, q1⟩ => hc pins s1 σ H1 vs us Q I1 r1 q1) he hpl
/-- T(e, ..), T a built-in type -/
theorem pe_callTy (hc : CallR X (.type T) r) (hg : Gl X x) (hm : X.mg x = none) (hv : bootBuiltins x = some (.type T)) (ha : PA X (e :: es) t) (hn : x ≠ "__name__" := by decide) (hdb : (x == ("__debug__" : Str)) = false := by decide)
    (he : starEach (e :: es) X.env = (false, eval e X.env) :: starEach es X.env := by rfl) (hpl : (backTo pos (starEach es X.env)).any (·.1) = false := by rfl) : PE X (.Call (.Name x p) (e :: es) [] pos) (tCB r t) := by
  intro pins s σ H Q I h
  refine wpAny_Call_Name_kw (ld_blt I hg hm hv ?_ hn hdb)
  exact PyProof.Rows.callWith_type1 (thn (ha pos pins s σ H _ I h) fun us s1 ⟨vs, H1, I1, r1, q1⟩ => hc pins s1 σ H1 vs us Q I1 r1 q1) he hpl
end
end L2

namespace HT
open PySem PyProof.Rows

/-- t < u of tuples of ints -/
def lexLt : List Int → List Int → Bool
  | [], [] => false
  | [], _ :: _ => true
  | _ :: _, [] => false
  | x :: xs, y :: ys => if x = y then lexLt xs ys else decide (x < y)
section
open PySem.SeqAt
open PySem.AutoSeq1 (wpAny_loadPart')
open PySem.MeetsSeq PySem.MeetsSeq2 PySem.MeetsSeq3

end

section
variable {prog : Program} {w : World} {A : Around} {E : Value → Shared → Prop} {s : Shared}

/-- t + u, t not empty -/
theorem cat_tup {t b : Addr} {vs ws : List Value} {Q : Value → Shared → Prop} (ht : IsTup s.heap t vs.toArray) (hb : IsTup s.heap b ws.toArray) (hv : vs ≠ [])
    (h1 : ws = [] → Q (.ref t) s) (h2 : ws ≠ [] → Q (.ref s.heap.objs.size) { s with heap := s.heap.push { cls := .type "tuple", data := .seq (vs ++ ws).toArray } })
    (hsz : vs.length + ws.length ≤ sizeLine) : wpAny (model prog w) A (binaryOp .Add (.ref t) (.ref b)) Q E s := by
  obtain ⟨⟨cls, dd, data, sl⟩, ho, hc, n, hd⟩ := id ht
  obtain ⟨⟨cls2, dd2, data2, sl2⟩, ho2, hc2, n2, hd2⟩ := id hb
  simp only at hc hd hc2 hd2
  subst hc hd hc2 hd2
  have e : vs.toArray ++ ws.toArray = (vs ++ ws).toArray := by simp
  by_cases hw : ws = []
  · exact concat_meets ⟨_, ho, rfl⟩ ⟨_, ho2, rfl⟩ noFill_tuple_add seq_tuple_add PySem.F.slot_tuple_add PySem.F.entry_tuple_add (PySem.F.args_tuple_add_2 _ _)
      (tuple_addW1 t b vs.toArray ws.toArray n n2 dd dd2 sl sl2 (by simpa using hv) (by simp [hw])) ⟨ho, ho2, h1 hw⟩
  · refine concat_meets ⟨_, ho, rfl⟩ ⟨_, ho2, rfl⟩ noFill_tuple_add seq_tuple_add PySem.F.slot_tuple_add PySem.F.entry_tuple_add (PySem.F.args_tuple_add_2 _ _)
      (tuple_addW2 t b vs.toArray ws.toArray n n2 dd dd2 sl sl2 (by simpa using hv) (by simpa using hw) (by rw [List.size_toArray, List.size_toArray]; exact hsz)) ⟨ho, ho2, ?_⟩
    rw [e]
    exact h2 hw

/-! ### t[a:b], not the whole -/
/-- a slice's bound as a place among n (d where it is left out) -/
def sIx (n d : Nat) : Option Int → Nat
  | none => d
  | some v => if v < 0 then (v + (n : Int)).toNat else min v.toNat n
end
end HT

namespace L2
open PySem PySem.Spec PyProof.Rows

/-! ### the parts of a slice -/
abbrev TO := St → Hp → (Option Int → Hp → Prop) → Prop
/-- a slice's part (left out, or an int) -/
def PO (X : Cx) (e : Option Expr) (t : TO) : Prop :=
  ∀ (pins : List (Addr × Obj)) (s : Shared) (σ : St) (H : Hp) (Q : Option Int → Hp → Prop), Inv X pins σ H s → t σ H Q →
    wpAny (model X.prog X.w) X.A (evalPart e X.env) (fun u s' => ∃ o H', Inv X pins σ H' s' ∧ IsPart u o ∧ Q o H') X.xe s
def tNoPart : TO := fun _ H Q => Q none H
def tPart (t : TE) : TO := fun σ H Q => t σ H fun x H1 => ∃ i, x = .int i ∧ Q (some i) H1

theorem intsAre_of {ns : List Int} : ∀ {us : List Value}, Vals (ns.map V.int) us → IntsAre us ns := by
  induction ns with
  | nil => intro us r; rw [List.map_nil] at r; cases r; exact .nil
  | cons n ns ih =>
    intro us r
    rw [List.map_cons] at r
    cases r with
    | cons r1 r2 =>
      obtain ⟨t, e⟩ := r1
      subst e
      exact .cons n t (ih r2)

section
variable {X : Cx} {e : Expr} {te : TE} {lo hi : Option Expr} {tl th : TO} {pos p2 : Pos}

/-- what a slice of a value is, by values: the slice object stands at sl -/
def SlR (X : Cx) (r : V → Option Int → Option Int → Hp → VK → Prop) : Prop :=
  ∀ (pins : List (Addr × Obj)) (s : Shared) (σ : St) (H : Hp) (x : V) (v vl vu : Value) (lo hi : Option Int) (sl : Addr) (Q : VK), Inv X pins σ H s → RelV x v → s.heap.IsSliceOf sl vl vu .none → IsPart vl lo → IsPart vu hi → r x lo hi H Q →
    ∃ T id, typeLookup (.type T) "__getitem__" = pure (some (.builtin id)) ∧ s.TypeIs v T ∧ wpAny (model X.prog X.w) X.A (getItem v (.ref sl)) (EP X pins σ Q) X.xe s
def tSl (r : V → Option Int → Option Int → Hp → VK → Prop) (te : TE) (tl th : TO) : TE := fun σ H Q => te σ H fun x H1 => tl σ H1 fun l H2 => th σ H2 fun u H3 => r x l u H3 Q
/-- the items of xs[lo:hi] -/
def cutV (xs : List V) (lo hi : Option Int) : List V := (xs.drop (HT.sIx xs.length 0 lo)).take (HT.sIx xs.length xs.length hi - HT.sIx xs.length 0 lo)
/-- t[lo:hi], not the whole of it (the whole would be t itself) -/
def rSlT (K : PySem.W.Frag) : V → Option Int → Option Int → Hp → VK → Prop := fun x lo hi H Q => ∃ a xs, x = .ref a ∧ SqT K H a xs ∧
  ¬ (HT.sIx xs.length 0 lo = 0 ∧ HT.sIx xs.length xs.length hi = xs.length) ∧ ∀ p, H p = none → Q (.ref p) (upd H p (.tup (cutV xs lo hi)))
/-! ### t < u, t + u -/
def rLtT (K : PySem.W.Frag) : R2 := fun x y H Q => ∃ a b ns ms, x = .ref a ∧ y = .ref b ∧ SqT K H a (ns.map V.int) ∧ SqT K H b (ms.map V.int) ∧ Q (.bl (HT.lexLt ns ms)) H
/-- t + u, t not empty: u empty gives t itself -/
def rCatT (K : PySem.W.Frag) : R2 := fun x y H Q => ∃ a b xs ys, x = .ref a ∧ y = .ref b ∧ SqT K H a xs ∧ SqT K H b ys ∧ xs ≠ [] ∧ xs.length + ys.length ≤ sizeLine ∧
  (ys = [] → Q (.ref a) H) ∧ (ys ≠ [] → ∀ p, H p = none → Q (.ref p) (upd H p (.tup (xs ++ ys))))
theorem Vals.nil_iff {xs : List V} {us : List Value} (r : Vals xs us) : us = [] ↔ xs = [] := by
  cases r with
  | nil => simp
  | cons _ _ => simp
end
end L2

namespace L2
open PySem PySem.Spec PyProof.Rows

/-! ### places -/
/-- the place that an index of any sign means -/
def ixN (n : Nat) (i : Int) : Option Nat := if 0 ≤ i then (if i < n then some i.toNat else none) else if -(n : Int) ≤ i then some (i + n).toNat else none
def atI {α : Type} (xs : List α) (i : Int) : Option α := (ixN xs.length i).bind fun j => xs[j]?
theorem ixN_seq {n : Nat} {i : Int} {j : Nat} (h : ixN n i = some j) : seqIndex? i n = some j ∧ j < n ∧ -(n : Int) ≤ i ∧ i < n := by
  unfold ixN at h
  by_cases h0 : 0 ≤ i
  · rw [if_pos h0] at h
    by_cases h1 : i < n
    · rw [if_pos h1] at h
      have e : i.toNat = j := Option.some.inj h
      exact ⟨by rw [seqIndex_of h0 h1, e], by omega, by omega, h1⟩
    · rw [if_neg h1] at h; cases h
  · rw [if_neg h0] at h
    by_cases h1 : -(n : Int) ≤ i
    · rw [if_pos h1] at h
      have e : (i + n).toNat = j := Option.some.inj h
      exact ⟨by rw [seqIndex_neg (by omega) h1, e], by omega, h1, by omega⟩
    · rw [if_neg h1] at h; cases h
theorem atI_get {α : Type} {xs : List α} {i : Int} {v : α} (h : atI xs i = some v) : ∃ j, seqIndex? i xs.length = some j ∧ xs[j]? = some v ∧ j < xs.length ∧ -(xs.length : Int) ≤ i ∧ i < xs.length := by
  unfold atI at h
  cases e : ixN xs.length i with
  | none => rw [e] at h; cases h
  | some j =>
    rw [e] at h
    obtain ⟨h1, h2, h3, h4⟩ := ixN_seq e
    exact ⟨j, h1, h, h2, h3, h4⟩
theorem atI_nat {α : Type} {xs : List α} {j : Nat} {v : α} (h : xs[j]? = some v) : atI xs (j : Int) = some v := by
  have hj : j < xs.length := (List.getElem?_eq_some_iff.mp h).1
  have e : ixN xs.length (j : Int) = some j := by
    unfold ixN
    rw [if_pos (by omega), if_pos (by omega)]; simp
  unfold atI; rw [e]; exact h
/-! ### what may be subscripted -/
/-- what stands as an index of a plain subscript -/
def PlainIx (b : Expr) : Prop := ∀ o i, subscripted b false o i = operate [o, i] (getItem o i)
/-- a subscript by values -/
def IxR (X : Cx) (r : R2) : Prop :=
  ∀ (value slice : Expr) (pins : List (Addr × Obj)) (s : Shared) (σ : St) (H : Hp) (x y : V) (v u : Value) (Q : VK), Inv X pins σ H s → RelV x v → RelV y u → r x y H Q →
    subscripted slice false v u = operate [v, u] (getItem v u) → wpAny (model X.prog X.w) X.A (subscriptTail value slice v u) (EP X pins σ Q) X.xe s
/-- a call of a builtin's method by values: the receiver, the arguments -/
def MtR (X : Cx) (id : String) (r : V → List V → Hp → VK → Prop) : Prop :=
  ∀ (pins : List (Addr × Obj)) (s : Shared) (σ : St) (H : Hp) (x : V) (xs : List V) (v : Value) (us : List Value) (Q : VK), Inv X pins σ H s → RelV x v → Vals xs us → r x xs H Q →
    wpAny (model X.prog X.w) X.A (call (.builtin id) (v :: us)) (EP X pins σ Q) X.xe s
section
variable {X : Cx} {a b : Expr} {ta tb : TE} {pos : Pos}
/-- a[b] -/
theorem pe_ix {r : R2} (hr : IxR X r) (ha : PE X a ta) (hb : PE X b tb) (hs : PlainIx b) : PE X (.Subscript a b pos) (tOp r ta tb) := by
  intro pins s σ H Q I h
  exact Subscript_ (binT ha hb I h fun v u s2 x y H2 I2 rx ry q => hr a b pins s2 σ H2 x y v u Q I2 rx ry q (hs _ _))

def rIxL (K : PySem.W.Frag) : R2 := fun x y H Q => ∃ p xs i v, x = .ref p ∧ y = .int i ∧ SqL K H p xs ∧ atI xs i = some v ∧ Q v H
def rIxT (K : PySem.W.Frag) : R2 := fun x y H Q => ∃ p xs i v, x = .ref p ∧ y = .int i ∧ SqT K H p xs ∧ atI xs i = some v ∧ Q v H
def rIxS : R2 := fun x y H Q => ∃ z i c, x = .str z ∧ y = .int i ∧ z.length ≤ sizeLine ∧ atI z.cps.toList i = some c ∧ Q (.str ⟨#[c]⟩) H
theorem ix_list : IxR X (rIxL X.K) := by
  intro value slice pins s σ H x y v u Q I rx ry h hs
  obtain ⟨p, xs, i, z, rfl, rfl, hq, he, q⟩ := h
  cases rx
  obtain ⟨t, rfl⟩ := ry
  obtain ⟨its, r, pl, hz⟩ := I.list hq
  obtain ⟨j, h1, h2, h3, h4, h5⟩ := atI_get he
  obtain ⟨w, ew, rw'⟩ := r.get h2
  have hl := r.length
  have hn := line63
  have fin : EP X pins σ Q w s := ⟨z, H, I, rw', q⟩
  by_cases h0 : 0 ≤ i
  · have hj : i.toNat = j := by
      rw [seqIndex_of h0 h5] at h1
      exact Option.some.inj h1
    exact item_listR pl.isList h0 (by omega) (by rw [hj]; simpa using ew) fin hs
  · have hj : (i + (its.toArray.size : Int)).toNat = j := by
      rw [seqIndex_neg (by omega) h4] at h1
      rw [List.size_toArray, ← hl]
      exact Option.some.inj h1
    exact subscriptTail_builtinR (x := w) pl.isList.typeIs slot_list_getitem.lookup
      (wpAny_getItem_list_neg (Q := fun r s' => r = w ∧ EP X pins σ Q r s') pl.isList (by omega) (by rw [List.size_toArray] <;> omega) (by omega) (by rw [hj]; simpa using ew) ⟨rfl, fin⟩) hs
theorem ix_tup : IxR X (rIxT X.K) := by
  intro value slice pins s σ H x y v u Q I rx ry h hs
  obtain ⟨p, xs, i, z, rfl, rfl, hq, he, q⟩ := h
  cases rx
  obtain ⟨t, rfl⟩ := ry
  obtain ⟨its, r, pl, hz⟩ := I.tuple hq
  obtain ⟨j, h1, h2, h3, h4, h5⟩ := atI_get he
  obtain ⟨w, ew, rw'⟩ := r.get h2
  have hl := r.length
  have hn := line63
  have fin : EP X pins σ Q w s := ⟨z, H, I, rw', q⟩
  exact subscriptTail_builtinR (x := w) pl.typeIs slot_tuple_getitem.lookup
    (getItem_tuple (j := j) (Q := fun r s' => r = w ∧ EP X pins σ Q r s') pl (by omega) (by omega) (by rw [List.size_toArray, ← hl]; exact h1) (by simpa using ew) ⟨rfl, fin⟩) hs
/-- list, tuple or str -/
def rIx (K : PySem.W.Frag) : R2 := fun x y H Q => rIxL K x y H Q ∨ rIxT K x y H Q ∨ rIxS x y H Q
/-! ### xs[i] = v, any sign -/
theorem Inv.lst {pins : List (Addr × Obj)} {σ : St} {H : Hp} {s : Shared} {p : Addr} {xs : List V} (I : Inv X pins σ H s) (h : H p = some (.lst xs)) :
    ∃ (its : List Value) (n : Nat), Vals xs its ∧ s.heap.get? p = some { cls := .type "list", data := .seq its.toArray n } ∧ xs.length ≤ sizeLine := by
  obtain ⟨z, its, n, r, e⟩ := I.hok p _ h
  exact ⟨its, n, r, e, z⟩
def rSetL : V → V → V → Hp → (Hp → Prop) → Prop := fun o i v H Q => ∃ p xs k j, o = .ref p ∧ i = .int k ∧ H p = some (.lst xs) ∧ ixN xs.length k = some j ∧ Q (upd H p (.lst (xs.set j v)))
/-! ### slices -/
/-- xs[lo:hi] of a list: a new list -/
def rSlL (K : PySem.W.Frag) : V → Option Int → Option Int → Hp → VK → Prop := fun x lo hi H Q => ∃ a xs, x = .ref a ∧ SqL K H a xs ∧ ∀ p, H p = none → Q (.ref p) (upd H p (.lst (cutV xs lo hi)))
/-! ### in, not in: flat items -/
def flatV : V → Bool
  | .non => true
  | .bl _ => true
  | .int _ => true
  | .str _ => true
  | _ => false
/-- == of flat values -/
def eqV : V → V → Bool
  | .non, .non => true
  | .bl a, .bl b => a == b
  | .bl a, .int b => (if a then 1 else 0) == b
  | .int a, .bl b => a == (if b then 1 else 0)
  | .int a, .int b => a == b
  | .str a, .str b => a == b
  | _, _ => false
theorem eqAt_V {A : Around} {s : Shared} {y x : V} {u v : Value} (ry : RelV y u) (rx : RelV x v) (fy : flatV y = true) (fx : flatV x = true) : SeqAt.EqAt A s u v (eqV y x) := by
  cases y with
  | non =>
    cases ry
    cases x with
    | non => cases rx; exact SeqAt.EqAt.same _
    | bl b => cases rx; exact SeqAt.EqAt.none_bool b
    | int b => obtain ⟨t, rfl⟩ := rx; exact SeqAt.EqAt.none_int b t
    | str b => obtain ⟨t, rfl⟩ := rx; exact SeqAt.EqAt.none_str b t
    | _ => exact absurd (show false = true from fx) Bool.false_ne_true
  | bl a =>
    cases ry
    cases x with
    | non => cases rx; exact SeqAt.EqAt.bool_none a
    | bl b => cases rx; exact SeqAt.EqAt.bool_bool a b
    | int b => obtain ⟨t, rfl⟩ := rx; exact SeqAt.EqAt.bool_int a b t
    | str b => obtain ⟨t, rfl⟩ := rx; exact SeqAt.EqAt.bool_str a b t
    | _ => exact absurd (show false = true from fx) Bool.false_ne_true
  | int a =>
    obtain ⟨t', rfl⟩ := ry
    cases x with
    | non => cases rx; exact SeqAt.EqAt.int_none a t'
    | bl b => cases rx; exact SeqAt.EqAt.int_bool a t' b
    | int b => obtain ⟨t, rfl⟩ := rx; exact SeqAt.EqAt.int_int a t' b t
    | str b => obtain ⟨t, rfl⟩ := rx; exact SeqAt.EqAt.int_str a t' b t
    | _ => exact absurd (show false = true from fx) Bool.false_ne_true
  | str a =>
    obtain ⟨t', rfl⟩ := ry
    cases x with
    | non => cases rx; exact SeqAt.EqAt.str_none a t'
    | bl b => cases rx; exact SeqAt.EqAt.str_bool a t' b
    | int b => obtain ⟨t, rfl⟩ := rx; exact SeqAt.EqAt.str_int a t' b t
    | str b => obtain ⟨t, rfl⟩ := rx; exact SeqAt.EqAt.str_str a t' b t
    | _ => exact absurd (show false = true from fx) Bool.false_ne_true
  | _ => exact absurd (show false = true from fy) Bool.false_ne_true
/-- the items' answers, read off the values (a value's own answer does not lean on its token) -/
def eqU (x : V) (u : Value) : Bool := match u with
  | .none => eqV .non x
  | .bool b => eqV (.bl b) x
  | .int i _ => eqV (.int i) x
  | .str z _ => eqV (.str z) x
  | _ => false
theorem eqU_of {x y : V} {u : Value} (r : RelV y u) (f : flatV y = true) : eqU x u = eqV y x := by
  cases y with
  | non => cases r; rfl
  | bl b => cases r; rfl
  | int i => obtain ⟨t, rfl⟩ := r; rfl
  | str z => obtain ⟨t, rfl⟩ := r; rfl
  | _ => exact absurd (show false = true from f) Bool.false_ne_true
theorem any_eqU {x : V} : ∀ {xs : List V} {us : List Value}, Vals xs us → xs.all flatV = true → us.any (eqU x) = xs.any fun y => eqV y x
  | _, _, .nil, _ => rfl
  | y :: xs, u :: us, .cons r t, f => by
    rw [List.all_cons, Bool.and_eq_true] at f
    rw [List.any_cons, List.any_cons, eqU_of r f.1, any_eqU t f.2]
theorem mem_eqAt {A : Around} {s : Shared} {x : V} {v : Value} (rx : RelV x v) (fx : flatV x = true) : ∀ {xs : List V} {us : List Value}, Vals xs us → xs.all flatV = true → ∀ u ∈ us, SeqAt.EqAt A s u v (eqU x u)
  | _, _, .nil, _ => fun u hu => by cases hu
  | y :: xs, u :: us, .cons r t, f => fun u' hu => by
    rw [List.all_cons, Bool.and_eq_true] at f
    rcases List.mem_cons.mp hu with rfl | hu
    · rw [eqU_of r f.1]; exact eqAt_V r rx f.1 fx
    · exact mem_eqAt rx fx t f.2 u' hu
def inV (x : V) (xs : List V) : Bool := xs.any fun y => eqV y x
/-- x in a list or tuple of flat items -/
def rIn (K : PySem.W.Frag) (neg : Bool) : R2 := fun x y H Q => ∃ p xs, y = .ref p ∧ (SqL K H p xs ∨ SqT K H p xs) ∧ flatV x = true ∧ xs.all flatV = true ∧ Q (.bl (if neg then !inV x xs else inV x xs)) H
theorem op_in_seq : OpR X (compareOp .In) (rIn X.K false) := by
  intro pins s σ H x y v u Q I rx ry h
  obtain ⟨p, xs, rfl, hq, fx, fs, q⟩ := h
  cases ry
  rcases hq with hq | hq
  · obtain ⟨its, r, pl, hz⟩ := I.list hq
    refine SeqAt.in_listAt (eqU x) pl.isList (fun w hw => mem_eqAt rx fx r fs w (by simpa using hw)) ⟨.bl _, H, I, rfl, ?_⟩
    rw [show its.toArray.any (eqU x) = its.any (eqU x) by simp, any_eqU r fs]
    exact q
  · obtain ⟨its, r, pl, hz⟩ := I.tuple hq
    refine SeqAt.in_tupleAt (eqU x) pl (fun w hw => mem_eqAt rx fx r fs w (by simpa using hw)) ⟨.bl _, H, I, rfl, ?_⟩
    rw [show its.toArray.any (eqU x) = its.any (eqU x) by simp, any_eqU r fs]
    exact q
/-! ### len, list(x), tuple(x) of any list or tuple that is read -/
theorem call_len_seq : CallR X (.builtin "len") (fun xs H Q => ∃ p ys, xs = [.ref p] ∧ (SqL X.K H p ys ∨ SqT X.K H p ys) ∧ Q (.int ys.length) H) := by
  intro pins s σ H xs us Q I r h
  obtain ⟨p, ys, rfl, hq, q⟩ := h
  obtain ⟨u, rfl, rx⟩ := vals1 r
  cases rx
  have hn := line63
  rcases hq with hq | hq
  · obtain ⟨its, r', pl, hz⟩ := I.list hq
    have hlen := r'.length
    exact Calls.call_len_list pl.isList (by simp only [List.size_toArray] <;> omega) ⟨.int ys.length, H, I.tok _, ⟨s.toks + 1, by rw [List.size_toArray, hlen]⟩, q⟩
  · obtain ⟨its, r', pl, hz⟩ := I.tuple hq
    have hlen := r'.length
    exact len_tuple pl (by simp only [List.size_toArray] <;> omega) ⟨.int ys.length, H, I.tok _, ⟨s.toks + 1, by rw [List.size_toArray, hlen]⟩, q⟩
theorem call_list_of : CallR X (.type "list") (fun xs H Q => ∃ p ys, xs = [.ref p] ∧ (SqL X.K H p ys ∨ SqT X.K H p ys) ∧ ∀ l, H l = none → Q (.ref l) (upd H l (.lst ys))) := by
  intro pins s σ H xs us Q I r h
  obtain ⟨p, ys, rfl, hq, q⟩ := h
  obtain ⟨u, rfl, rx⟩ := vals1 r
  cases rx
  have fin : ∀ (its : List Value), Vals ys its → ys.length ≤ sizeLine → ∀ (h' : Heap) (c' : Nat), (∀ b o', s.heap.get? b = some o' → h'.get? b = some o') →
      h'.get? s.heap.objs.size = some { cls := .type "list", dict := none, data := .seq its.toArray c', slots := #[] } → EP X pins σ Q (.ref s.heap.objs.size) { s with heap := h' } := fun its r' hz h' c' kp e =>
    ⟨.ref s.heap.objs.size, _, I.laid (t' := s.toks) kp (Nat.le_refl _) (show ObjOk X.prog X.w _ h' _ (.lst ys) from ⟨hz, its, c', r', e⟩), rfl, q _ (I.hok.fresh (Nat.le_refl _))⟩
  rcases hq with hq | hq
  · obtain ⟨its, r', pl, hz⟩ := I.list hq
    have hlen := r'.length
    obtain ⟨o, ho, hc, n, hd⟩ := pl.isList
    exact call_list_seq p (.inl rfl) ho hc hd (fun h' c' kp e => fin its r' hz h' c' kp e) (by simp only [List.size_toArray] <;> omega)
  · obtain ⟨its, r', pl, hz⟩ := I.tuple hq
    have hlen := r'.length
    obtain ⟨o, ho, hc, n, hd⟩ := pl
    exact call_list_seq p (.inr rfl) ho hc hd (fun h' c' kp e => fin its r' hz h' c' kp e) (by simp only [List.size_toArray] <;> omega)
theorem call_tuple_of : CallR X (.type "tuple") (fun xs H Q => ∃ p ys, xs = [.ref p] ∧ ((SqL X.K H p ys ∧ ∀ l, H l = none → Q (.ref l) (upd H l (.tup ys))) ∨ (SqT X.K H p ys ∧ Q (.ref p) H))) := by
  intro pins s σ H xs us Q I r h
  obtain ⟨p, ys, rfl, h⟩ := h
  obtain ⟨u, rfl, rx⟩ := vals1 r
  cases rx
  rcases h with ⟨hq, q⟩ | ⟨hq, q⟩
  · obtain ⟨its, r', pl, hz⟩ := I.list hq
    have hlen := r'.length
    refine call_tuple_list pl.isList (fun h' kp => ?_) (by simp only [List.size_toArray] <;> omega)
    have I1 : Inv X pins σ H { s with heap := h' } := I.kept (t' := s.toks) kp
    have I2 : Inv X pins σ (upd H h'.objs.size (.tup ys)) { s with heap := h'.push { cls := .type "tuple", data := .seq its.toArray } } :=
      I1.laid (t' := s.toks) (fun b o e => Heap.get?_push_of_some _ e) (Nat.le_refl _) (show ObjOk X.prog X.w _ _ _ (.tup ys) from ⟨hz, its, r', IsTup.new _ _⟩)
    exact ⟨.ref h'.objs.size, _, I2, rfl, q _ (I1.hok.fresh (Nat.le_refl _))⟩
  · obtain ⟨its, r', pl, hz⟩ := I.tuple hq
    exact call_tuple_same pl ⟨.ref p, H, I, rfl, q⟩

/-! ### the call of a builtin's method: o.m(..) -/
/-- the value is of that builtin type -/
def tyV (K : PySem.W.Frag) (T : String) (x : V) (H : Hp) : Prop := match x with
  | .str _ => T = "str"
  | .int _ => T = "int"
  | .ref p => (T = "list" ∧ ∃ xs, SqL K H p xs) ∨ (T = "tuple" ∧ ∃ o, K.lookup p = some o ∧ o.cls = .type "tuple" ∧ o.dict = none) ∨
      (T = "dict" ∧ ((∃ kvs, H p = some (.dK kvs)) ∨ ∃ kvs, H p = some (.dT kvs))) ∨ (T = "set" ∧ ∃ S n, H p = some (.set S n))
  | _ => False
theorem tyV_is {pins : List (Addr × Obj)} {σ : St} {H : Hp} {s : Shared} {T : String} {x : V} {v : Value} (I : Inv X pins σ H s) (r : RelV x v) (ty : tyV X.K T x H) :
    s.TypeIs v T ∧ ∀ a, v = .ref a → ∃ ob, s.heap.get? a = some ob ∧ ob.dict = none := by
  cases x with
  | str z =>
    obtain ⟨t, rfl⟩ := r
    cases (show T = "str" from ty)
    exact ⟨typeIs_str s z t, fun _ e => nomatch e⟩
  | int i =>
    obtain ⟨t, rfl⟩ := r
    cases (show T = "int" from ty)
    exact ⟨typeIs_int s i t, fun _ e => nomatch e⟩
  | ref p =>
    cases r
    rcases ty with ⟨rfl, xs, hq⟩ | ⟨rfl, o, hk, hc, hd⟩ | ⟨rfl, hk⟩ | ⟨rfl, S, n, hk⟩
    · obtain ⟨its, _, pl, _⟩ := I.list hq
      refine ⟨pl.isList.typeIs, fun a e => ?_⟩
      cases e
      obtain ⟨o, n, e, c, hd, _⟩ := pl
      exact ⟨o, e, hd⟩
    · refine ⟨⟨o, I.kIn p o hk, hc⟩, fun a e => ?_⟩
      cases e
      exact ⟨o, I.kIn _ o hk, hd⟩
    · have z : ∃ o, s.heap.get? p = some o ∧ o.ExactDict := by
        rcases hk with ⟨kvs, hk⟩ | ⟨kvs, hk⟩
        · obtain ⟨_, _, _, _, o, _, _, e, ex, _⟩ := I.hok p _ hk
          exact ⟨o, e, ex⟩
        · obtain ⟨_, _, _, _, o, _, _, e, ex, _⟩ := I.hok p _ hk
          exact ⟨o, e, ex⟩
      obtain ⟨o, e, ex⟩ := z
      refine ⟨⟨o, e, ex.1⟩, fun a e2 => ?_⟩
      cases e2
      exact ⟨o, e, ex.2.1⟩
    · obtain ⟨o, _, _, _, e, ex, _⟩ := I.hok p _ hk
      refine ⟨⟨o, e, ex.1⟩, fun a e2 => ?_⟩
      cases e2
      exact ⟨o, e, ex.2.1⟩
  | _ => exact False.elim ty
def tBM0 (K : PySem.W.Frag) (T : String) (r : V → List V → Hp → VK → Prop) (to : TE) : TE := fun σ H Q => to σ H fun x H1 => tyV K T x H1 ∧ r x [] H1 Q
def tBM (K : PySem.W.Frag) (T : String) (r : V → List V → Hp → VK → Prop) (to : TE) (t : TA) : TE := fun σ H Q => to σ H fun x H1 => tyV K T x H1 ∧ t σ H1 fun xs H2 => r x xs H2 Q
variable {o e : Expr} {es : List Expr} {to : TE} {t : TA} {name : Str} {apos cpos : Pos} {T id : String} {r : V → List V → Hp → VK → Prop}
theorem pe_bm (pa : PlainAttrs T) (slot : Slot T name id) (hty : typeOf (.builtin id) = pure (.type "method_descriptor")) (hm : MtR X id r) (ho : PE X o to) (ha : PA X (e :: es) t)
    (hbase : attributeBase o name X.env (eval o X.env) = eval o X.env := by rfl)
    (hfew : ((backTo cpos (starEach (e :: es) X.env)).all (fun x => !x.1) && (backToKw cpos (keywordEach [] X.env)).all (fun x => x.1.isSome)
      && decide ((e :: es).length + ([] : List Keyword).length + (if ([] : List Keyword).isEmpty then 0 else 1) < 30)) = true := by rfl)
    (hline : (apos.endLine == cpos.line) = true := by rfl) (hs : starEach (e :: es) X.env = (false, eval e X.env) :: starEach es X.env := by rfl) (hplain : (backTo cpos (starEach es X.env)).any (·.1) = false := by rfl) :
    PE X (.Call (.Attribute o name apos) (e :: es) [] cpos) (tBM X.K T r to t) := by
  intro pins s σ H Q I h
  refine wpAny_Call_method_late hbase hfew hline rfl (thn (ho pins s σ H _ I h) fun v s1 ⟨x, H1, I1, r1, ty, q1⟩ => ?_)
  obtain ⟨h1, h2⟩ := tyV_is I1 r1 ty
  refine ⟨T, id, pa, slot, hty, h1, h2, ?_⟩
  have hA := ha cpos pins s1 σ H1 _ I1 q1
  rw [hs] at hA ⊢
  refine Calls.callWith_builtin (by show (false || (backTo cpos (starEach es X.env)).any (·.1)) = false; rw [hplain] <;> rfl) (Calls.evalArgs_plain ?_)
  exact thn hA fun us s2 ⟨vs, H2, I2, r2, q2⟩ => hm pins s2 σ H2 x vs v us Q I2 r1 r2 q2
/- xs.append(e), list.index on a module's tuple .. are MtR facts of 06m -/
end
end L2

namespace L2
open PySem PySem.Spec PyProof.Rows

def MtM (X : Cx) (id : String) (r : V → List V → Hp → VK → Prop) : Prop :=
  ∀ (pins : List (Addr × Obj)) (s : Shared) (σ : St) (H : Hp) (x : V) (xs : List V) (v : Value) (us : List Value) (Q : VK), Inv X pins σ H s → RelV x v → Vals xs us → r x xs H Q →
    wpAny (model X.prog X.w) X.A (call (.builtin id) (v :: us)) (EP X pins σ Q) X.xe s

/-! ### lists of values -/
theorem Vals.one : ∀ {x : V} {us : List Value}, Vals [x] us → ∃ u, us = [u] ∧ RelV x u
  | _, _, .cons r .nil => ⟨_, rfl, r⟩
theorem Vals.zero : ∀ {us : List Value}, Vals [] us → us = []
  | _, .nil => rfl
theorem Vals.dropLast {xs : List V} {us : List Value} (h : Vals xs us) : Vals xs.dropLast us.dropLast := by
  induction h with
  | nil => exact .nil
  | cons r t ih =>
    cases t with
    | nil => exact .nil
    | cons q t' => exact .cons r ih
theorem Vals.eraseIdx : ∀ {xs : List V} {us : List Value} (i : Nat), Vals xs us → Vals (xs.eraseIdx i) (us.eraseIdx i)
  | _, _, _, .nil => .nil
  | _, _, 0, .cons _ t => t
  | _, _, i + 1, .cons r t => .cons r (Vals.eraseIdx i t)
theorem Vals.reverse {xs : List V} {us : List Value} (h : Vals xs us) : Vals xs.reverse us.reverse := by
  induction h with
  | nil => exact .nil
  | cons r t ih => rw [List.reverse_cons, List.reverse_cons]; exact Vals.append ih (.cons r .nil)
section
variable {X : Cx} {pins : List (Addr × Obj)} {σ : St} {H : Hp} {s : Shared} {l b : Addr} {xs ys zs : List V}

/-! ### the two steps: a tracked list is rewritten, a new list is laid -/
theorem Inv.lset {its its' : List Value} {n : Nat} {f : Array Value → Array Value} {t' : Nat} (I : Inv X pins σ H s) (hH : H l = some (.lst xs))
    (e : s.heap.get? l = some { cls := .type "list", data := .seq its.toArray n }) (hf : f its.toArray = its'.toArray) (hv : Vals ys its') (hz : ys.length ≤ sizeLine) :
    Inv X pins σ (upd H l (.lst ys)) { s with heap := s.heap.update l (Obj.mapSeq f), toks := t' } := by
  have q := PySem.IsL.update e f
  rw [hf] at q
  refine I.write (x := l) (e := l) (by rw [hH]; exact trivial) (.inl rfl) (fun b' u hb hu => (Heap.get?_update_other s.heap (Obj.mapSeq f) (Ne.symm hb)).trans hu) ⟨_, q⟩ ?_
  exact ⟨hz, its', _, hv, q⟩
theorem Inv.fresh (I : Inv X pins σ H s) : H s.heap.objs.size = none := I.hok.fresh (Nat.le_refl _)
theorem Inv.lstM (I : Inv X pins σ H s) (hH : H l = some (.lst xs)) : xs.length ≤ sizeLine ∧ ∃ (its : List Value) (n : Nat), Vals xs its ∧ xs.length = its.length ∧ s.heap.get? l = some { cls := .type "list", data := .seq its.toArray n } := by
  obtain ⟨z, its, n, r, e⟩ := I.hok l _ hH
  exact ⟨z, its, n, r, r.length, e⟩

theorem notLongL {n : Nat} (h : n ≤ sizeLine) : Builtin.List.listTooLong n = false := by
  unfold Builtin.List.listTooLong
  exact decide_eq_false (by omega)
end

section
variable {X : Cx}

/-! ### methods -/
def rAppend : V → List V → Hp → VK → Prop := fun x vs H Q => ∃ l xs y, x = .ref l ∧ vs = [y] ∧ H l = some (.lst xs) ∧ xs.length < sizeLine ∧ Q .non (upd H l (.lst (xs ++ [y])))
theorem mt_append : MtM X "list.append" rAppend := by
  intro pins s σ H x vs v us Q I rx rv h
  obtain ⟨l, xs, y, rfl, rfl, hH, hz, q⟩ := h
  cases rx
  obtain ⟨u, rfl, ru⟩ := rv.one
  obtain ⟨z, its, n, r, hl, e⟩ := I.lstM hH
  refine call_meets F.slot_list_append ⟨_, e, rfl⟩ F.entry_list_append (F.args_list_append_2 _ _) (PySem.list_append l its.toArray n u (by rw [List.size_toArray]; omega)) ⟨e, ?_⟩
  refine ⟨.non, _, I.lset (its' := its ++ [u]) hH e (by simp) (r.append (.cons ru .nil)) ?_, rfl, q⟩
  rw [List.length_append, List.length_singleton]
  omega

def rExtend : V → List V → Hp → VK → Prop := fun x vs H Q => ∃ l b xs zs, x = .ref l ∧ vs = [.ref b] ∧ H l = some (.lst xs) ∧ H b = some (.lst zs) ∧ xs.length + zs.length ≤ sizeLine ∧ Q .non (upd H l (.lst (xs ++ zs)))
theorem mt_extend : MtM X "list.extend" rExtend := by
  intro pins s σ H x vs v us Q I rx rv h
  obtain ⟨l, b, xs, zs, rfl, rfl, hH, hB, hz, q⟩ := h
  cases rx
  obtain ⟨u, rfl, ru⟩ := rv.one
  cases ru
  obtain ⟨z, its, n, r, hl, e⟩ := I.lstM hH
  obtain ⟨z2, its2, n2, r2, hl2, e2⟩ := I.lstM hB
  have hsz : its.toArray.size + its2.toArray.size ≤ sizeLine := by rw [List.size_toArray, List.size_toArray]; omega
  have hlong : ¬ (!its.toArray.isEmpty && Builtin.List.listTooLong (its.toArray.size + its2.toArray.size)) = true := by
    rw [notLongL hsz, Bool.and_false]
    exact Bool.false_ne_true
  refine call_meets F.slot_list_extend ⟨_, e, rfl⟩ F.entry_list_extend (F.args_list_extend_2 _ _)
    (AutoSeq1.list_extend_list_list_0 l its.toArray n b its2.toArray n2 hlong (by rw [List.size_toArray]; omega) (by omega)) ⟨e, e2, ?_⟩
  refine ⟨.non, _, I.lset (its' := its ++ its2) hH e (by simp) (r.append r2) ?_, rfl, q⟩
  rw [List.length_append]
  omega

def rPop : V → List V → Hp → VK → Prop := fun x vs H Q => ∃ l xs y, x = .ref l ∧ vs = [] ∧ H l = some (.lst xs) ∧ xs[xs.length - 1]? = some y ∧ Q y (upd H l (.lst xs.dropLast))
def rPopAt : V → List V → Hp → VK → Prop := fun x vs H Q => ∃ l xs i k y, x = .ref l ∧ vs = [.int i] ∧ H l = some (.lst xs) ∧ -(2 ^ 63) ≤ i ∧ i < 2 ^ 63 ∧ seqIndex? i xs.length = some k ∧ xs[k]? = some y ∧ Q y (upd H l (.lst (xs.eraseIdx k)))
def rReverse : V → List V → Hp → VK → Prop := fun x vs H Q => ∃ l xs, x = .ref l ∧ vs = [] ∧ H l = some (.lst xs) ∧ Q .non (upd H l (.lst xs.reverse))
def rClear : V → List V → Hp → VK → Prop := fun x vs H Q => ∃ l xs, x = .ref l ∧ vs = [] ∧ H l = some (.lst xs) ∧ Q .non (upd H l (.lst []))
/-! ### list + list, list += list, list * int -/
def rCat : R2 := fun x y H Q => ∃ l b xs zs, x = .ref l ∧ y = .ref b ∧ H l = some (.lst xs) ∧ H b = some (.lst zs) ∧ xs.length + zs.length ≤ sizeLine ∧ ∀ p, H p = none → Q (.ref p) (upd H p (.lst (xs ++ zs)))
/-- a list times an int (a negative one is nothing) -/
def rRep : R2 := fun x y H Q => ∃ l k xs, x = .ref l ∧ y = .int k ∧ H l = some (.lst xs) ∧ -(2 ^ 63) ≤ k ∧ k < 2 ^ 63 ∧ xs.length * k.toNat ≤ sizeLine ∧
  ∀ p, H p = none → Q (.ref p) (upd H p (.lst (List.replicate k.toNat xs).flatten))
/-! ### del xs[i] -/
end

/-! ### xs[a:b] = ys -/
section
variable {prog : Program} {w : World} {A : Around} {E : Value → Shared → Prop} {s : Shared}
end

section
variable {X : Cx}
end
end L2

namespace Att
open PySem PySem.W PySem.Calls PyProof.Rows

/-! ### the script -/
theorem ints_of_wellAll {P : Params} {h : Heap} : ∀ (ns : List Int) (vs : List Value), WellAll P h vs (ns.map WData.int) → IntsAre vs ns := by
  intro ns
  induction ns with
  | nil =>
    intro vs w
    rw [List.map_nil] at w
    cases w
    exact .nil
  | cons n ns ih =>
    intro vs w
    rw [List.map_cons] at w
    cases w with
    | cons a b =>
      cases a
      exact .cons _ _ (ih _ b)

theorem script_of {l : OpenLaw} {n : Nat} (hn : l.most = some n) {P : Params} {h : Heap} {args : List WData} {vals : List Value}
    (hpre : l.row.toRowW.claim.pre args = true) (hwl : WellAll P h vals args) :
    ∃ a vs ns, vals = [Value.ref a] ∧ args = [WData.list (ns.map WData.int)] ∧ h.get? a = some { cls := .type "list", data := .seq vs.toArray } ∧ IntsAre vs ns ∧ ns.length ≤ n := by
  have hsh : WShape.hasAll [] args [.list .int] = true := (pre_splitW hpre).1
  have hc : l.pre.holds [] { args := args } = true := (pre_splitW hpre).2
  obtain ⟨d, r, rfl, h1, h2⟩ := hasAllW_cons hsh
  obtain rfl := hasAllW_nil h2
  obtain ⟨xs, rfl, h3⟩ := hasW_list h1
  obtain ⟨ns, rfl⟩ := items_int h3
  have hlen : ns.length ≤ n := by
    unfold OpenLaw.pre at hc
    have h4 : (WTm.not (.lt (.lit (.int (n : Int))) (.len (.arg 0)))).holds [] { args := [.list (ns.map .int)] } = true := by
      have h4 := (holds_andW hc).1
      rw [hn] at h4
      exact h4
    have h5 := condW_of h4 (w_not (w_lt w_lit (w_len_list (w_arg rfl))))
    rw [List.length_map] at h5
    refine Nat.le_of_not_lt fun q => ?_
    have q' : (n : Int) < ((ns.length : Nat) : Int) := by omega
    first
      | (rw [decide_eq_true q'] at h5; exact absurd h5 (by decide))
      | (simp at h5; omega)
  cases hwl with
  | cons w1 w2 =>
    cases w2
    cases w1 with
    | list ho hall => exact ⟨_, _, ns, rfl, rfl, ho, ints_of_wellAll ns _ hall, hlen⟩

theorem post_true (l : OpenLaw) (args : List WData) : l.row.toRowW.claim.post args (.bool true) args = true :=
  postW_of (r := l.row.toRowW) (X := (true == true))
    (show WShape.has [] (.bool true) .bool = true by first | rfl | decide | simp [WShape.has, WShape.arms, WShape.armsAll])
    (show (WTm.eq .res (.lit (.bool true))).value [] { args := args, res := some (.bool true), after := args } = some (.bool (true == true)) from w_eq_bool (w_res rfl) w_lit) rfl

/-! ### the attachment: holds_open's last premise (the goal 'hc' behind k_head) from a wpAny of the law's body -/
/-- the same from a codeAny of the CALL (for a layer whose function contracts speak of calls) -/
theorem attach_call {l : OpenLaw} {n : Nat} {q : Program} {loose : List Str} {XP : (Str → Option Value) → Heap → Prop} {YP : World → Heap → Prop} {d : DefRec}
    (hn : l.most = some n) (hdf : d.params.defaults = [])
    (call : ∀ (w : World) (s₀ s₁ : Shared) (mg mb : Str → Option Value) (fa : Addr) (o : Obj) (pm cd doc : Value) (a : Addr) (vs : List Value) (ns : List Int),
      Ground q loose [] XP w s₀ mg mb s₁.heap → YP w s₁.heap →
      s₁.heap.get? fa = some o → o.data = .func (docDef d.name d.params d.body d.scope pm cd doc) → s₁.heap.CodeRec cd d.name → mg d.name = some (.ref fa) →
      s₁.heap.get? a = some { cls := .type "list", data := .seq vs.toArray } → IntsAre vs ns → ns.length ≤ n → s₁.gens = #[] →
      codeAny (model l.prog w) callerA (.call (.ref fa) ⟨[.ref a], []⟩) (fun r s' => r = .ok (.ret (.bool true)) ∧ OldK s₁.heap s'.heap ∧ s'.os = s₁.os ∧ AllBare s'.gens) s₁) :
    WalkO q loose XP YP l.row.toRowW d [] (fun f vs => PySem.call f vs) := by
  intro w s₀ s₁ mg mb G Y fa o pm cd doc dV kV ho hd hcd hD hmg hg args vals as hpre hlay hrd hwl hlo
  obtain rfl : dV = .none := Dflts.none hD hdf
  obtain rfl : kV = .none := Dflts.noKw hD
  obtain ⟨a, vs, ns, rfl, rfl, hobj, hints, hlen⟩ := script_of hn hpre hwl
  refine enter_call (codeAny_mono (call w s₀ s₁ mg mb fa o pm cd doc a vs ns G Y ho (fd_plain hd) hcd hmg hobj hints hlen hg) fun r s' hq => ?_)
  obtain ⟨rfl, h2, h3, h4⟩ := hq
  exact ⟨.inl ⟨.bool true, .bool true, [], rfl, fun _ => rfl, .bool true, post_true l _, fun _ => ⟨List.Pairwise.nil, fun _ hm => (nomatch hm)⟩⟩, h2, h3, h4⟩

/-! ### rules over ANY heap (no ledger) from facts about the written part K: the library's own take a ledger (News) for what they write -/
section
variable {prog : Program} {w : World} {A : Around} {E : Value → Shared → Prop} {s : Shared} {K : Frag}

/-! the whole heap as the ledger: makes every rule that writes through a ledger a rule over any heap -/
def noObjs (h : Heap) : Heap := { h with objs := #[] }
def ledger (h : Heap) (L d : Addr) : List (Addr × Obj) := (List.range h.objs.size).filterMap fun a => if a = L ∨ a = d then none else (h.get? a).map fun o => (a, o)
end
end Att

namespace L2
open PySem PySem.Spec PyProof.Rows

theorem vals_ints : ∀ {vs : List Value} {ns : List Int}, IntsAre vs ns → Vals (ns.map V.int) vs
  | _, _, .nil => .nil
  | _, _, .cons n t h => .cons ⟨t, rfl⟩ (vals_ints h)

/-- nothing is tracked but the script, known to the object (or it is an object of the module) -/
def Only (H : Hp) : Prop := ∀ b, H b = none ∨ ∃ o xs, H b = some (.frz o (.lst xs))

end L2

namespace L2
open PySem PySem.Spec PyProof.Rows

abbrev KOf {K : PySem.W.Frag} {h : Heap} (_ : K.In h) : PySem.W.Frag := K

end L2


/-! SHORT WORDS over the layer: a def of the text, its body, what a loop and a test want. -/
namespace L2
open PySem PySem.Spec PyProof.Rows

/-! ### the text by places -/
/-- the j-th statement of a class's body -/
def inClass (s : Stmt) (j : Nat) : Stmt := match s with
  | .ClassDef _ _ _ body _ _ _ _ _ _ _ => body.getD j (.Pass ⟨0, 0, 0, 0⟩)
  | _ => .Pass ⟨0, 0, 0, 0⟩
def defArgs (s : Stmt) : Arguments := match s with
  | .FunctionDef _ a _ _ _ _ _ _ _ _ => a
  | _ => { posonlyargs := [], args := [], vararg := none, kwonlyargs := [], kw_defaults := [], kwarg := none, defaults := [] }
def defBody (s : Stmt) : List Stmt := match s with
  | .FunctionDef _ _ b _ _ _ _ _ _ _ => b
  | _ => []
def defScope (s : Stmt) : Scope := match s with
  | .FunctionDef _ _ _ _ _ _ sc _ _ _ => sc
  | _ => { kind := .function, names := [], isGenerator := false, isCoroutine := false }

/-! ### no exception leaves a def -/
abbrev CX0 : CXT := fun _ _ _ _ _ _ => False
abbrev E0 : XK := fun _ _ _ => False
theorem pass0 {X : Cx} : Passes CX0 X E0 := fun _ _ _ _ _ _ _ h => h.elim

/-! ### a def (or method) of the text as it stands behind the top -/
structure Fun (K : PySem.W.Frag) (x qual : Str) (st : Stmt) (f : Addr) (fd : FuncData) : Prop where
  ex : ∃ (oc : Value) (od : Option Addr) (kV doc pm : Value) (an : Option Addr) (cdv ct : Value) (osl : Array (Option Value)),
    fd = PySem.W.fnOf x qual (defArgs st) (defBody st) (defScope st) .none kV doc pm an cdv ct ∧ K.lookup f = some ⟨oc, od, .func fd, osl⟩ ∧ PySem.W.codeIn K cdv qual = true
  kp : PySem.W.keepIn K (.ref f) = true
section
variable {P : Program} {w : World} {K : PySem.W.Frag} {mg : Str → Option Value} {base : Heap}
/-- THE RULE for a def: its body as a term of rules, and the reading of that term -/
theorem Fun.ok {x qual : Str} {st : Stmt} {f : Addr} {fd : FuncData} {N ps : List Str} {k : Nat} {sp : Sp} (F : Fun K x qual st f fd) (S : FnScope N ps (defScope st)) (len : ∀ vs H Q E, sp vs H Q E → vs.length = ps.length)
    (hbody : ∀ (cdv : Value) (A : Around) (outer : List Env) (s : Shared) (H : Hp) (vs : List V) (Q : VK) (E : XK), Room k (A.deeper (envOfC qual (defScope st) s.heap.objs.size f cdv)) → sp vs H Q E →
      ∃ t, PSs (cxOf CX0 P w K mg base N qual (defScope st) f cdv A outer s H E).nox (defBody st) t ∧ t { nx := fun _ H' => Q .non H', rt := Q } (start N vs) H) : FnOk P w K mg base CX0 (k + 1) f fd ps sp := by
  obtain ⟨oc, od, kV, doc, pm, an, cdv, ct, osl, rfl, lk, hcd⟩ := F.ex
  refine fn_of lk hcd S len fun A outer s H vs Q E hr hsp => ?_
  obtain ⟨t, h, q⟩ := hbody cdv A outer s H vs Q E hr hsp
  exact ⟨t, h.nox, q⟩
/-- how its arguments bind (no defaults): h is «fun _ _ _ _ _ _ us hl => match us, hl with | [_, _], _ => rfl», one _ a parameter -/
theorem Fun.binds {x qual : Str} {st : Stmt} {f : Addr} {fd : FuncData} {ps : List Str} (F : Fun K x qual st f fd)
    (h : ∀ (kV doc pm : Value) (an : Option Addr) (cdv ct : Value) (us : List Value), us.length = ps.length → bindArgs (PySem.W.fnOf x qual (defArgs st) (defBody st) (defScope st) .none kV doc pm an cdv ct) ⟨us, []⟩ = pure (ps.zip us)) : Binds K fd ps [] := by
  obtain ⟨oc, od, kV, doc, pm, an, cdv, ct, osl, rfl, lk, hcd⟩ := F.ex
  exact .all (h kV doc pm an cdv ct)
theorem fun_mk {x qual : Str} {st : Stmt} {f : Addr} {oc : Value} {od an : Option Addr} {osl : Array (Option Value)} {kV doc pm cdv ct : Value} (l : K.lookup f = some ⟨oc, od, .func (PySem.W.fnOf x qual (defArgs st) (defBody st) (defScope st) .none kV doc pm an cdv ct), osl⟩)
    (c : PySem.W.codeIn K cdv qual = true) (k : PySem.W.keepIn K (.ref f) = true) : Fun K x qual st f (PySem.W.fnOf x qual (defArgs st) (defBody st) (defScope st) .none kV doc pm an cdv ct) := ⟨⟨oc, od, kV, doc, pm, an, cdv, ct, osl, rfl, l, c⟩, k⟩
end
theorem hu_of {A : Around} {k : Nat} (hr : Room k A) : A.units + 1 < cLine := Nat.lt_of_le_of_lt (Nat.add_le_add_left (by decide : 1 ≤ 64) _) hr.units
theorem small1000 {n : Nat} (h : n ≤ 1000) : n < sizeLine := Nat.lt_of_le_of_lt h (by decide)

/-! ### expressions in short: the name that stands in the i-th slot -/
section
variable {X : Cx}
theorem pv (i : Nat) {x : Str} {pos : Pos} (hN : X.N[i]? = some x := by rfl) (hv : Vis X.env.scope x := by first | exact Or.inl rfl | exact Or.inr (Or.inl rfl) | exact Or.inr (Or.inr rfl)) (hd : (x == ("__debug__" : Str)) = false := by decide)
    (hcd : (x == ("__classdict__" : Str)) = false := by decide) : PE X (.Name x pos) (tVar i) := pe_var hN hv hd hcd
end

/-! ### tests -/
theorem iteF {A B : Prop} (h : B) : if false = true then A else B := by
  rw [if_neg Bool.false_ne_true]
  exact h
theorem iteT {A B : Prop} (h : A) : if true = true then A else B := by
  rw [if_pos rfl]
  exact h
theorem ite2 {c A B : Prop} [Decidable c] (h1 : c → A) (h2 : ¬ c → B) : if c then A else B := by
  by_cases h : c
  · rw [if_pos h]
    exact h1 h
  · rw [if_neg h]
    exact h2 h
end L2

set_option maxHeartbeats 4000000
namespace L2
open PySem PySem.Spec PyProof.Rows

/-! ### heaps: all that was tracked stays; a code table may take up its one code -/
def codeX (c : Addr) (qual : Str) : HO := .ext fun h => h.CodeRec (.ref c) qual
/-- where the one inner code of the text stands, and its name -/
class TabPar where
  p : Value
  q : Value
  qual : Str
variable [TabPar]
/-- a table: empty, or with the one code -/
def TabOk (P : Addr) (H : Hp) : Prop := H P = some (.tbl #[]) ∨ ∃ c, H P = some (.tbl #[TabPar.p, TabPar.q, .ref c]) ∧ H c = some (codeX c TabPar.qual)
def plainO : HO → Bool
  | .tbl _ => false
  | _ => true
structure Same (H H' : Hp) : Prop where
  at' : ∀ b o, H b = some o → plainO o = true → H' b = some o
  tbl : ∀ b ps, H b = some (.tbl ps) → ∃ ps', H' b = some (.tbl ps')
  tab : ∀ P, TabOk P H → TabOk P H'
theorem Same.app {H H' : Hp} (s : Same H H') : ∀ b o, H b = some o → (nt : plainO o = true := by rfl) → H' b = some o := fun b o h nt => s.at' b o h nt
instance {H H' : Hp} : CoeFun (Same H H') (fun _ => ∀ b o, H b = some o → (nt : plainO o = true := by rfl) → H' b = some o) := ⟨@Same.app _ H H'⟩
theorem Same.refl (H : Hp) : Same H H := ⟨fun _ _ h _ => h, fun _ ps h => ⟨ps, h⟩, fun _ h => h⟩
theorem Same.trans {H H1 H2 : Hp} (a : Same H H1) (b : Same H1 H2) : Same H H2 := ⟨fun c o h n => b.at' c o (a.at' c o h n) n, fun c ps h => by
  obtain ⟨ps', h'⟩ := a.tbl c ps h
  exact b.tbl c ps' h', fun P h => b.tab P (a.tab P h)⟩
theorem Same.free {H H' : Hp} (e : Same H H') {l : Addr} (h : H' l = Option.none) : H l = Option.none := by
  cases q : H l with
  | none => rfl
  | some o =>
    cases hp : plainO o with
    | true => rw [e.at' l o q hp] at h; cases h
    | false =>
      cases o with
      | tbl ps =>
        obtain ⟨ps', h'⟩ := e.tbl l ps q
        rw [h'] at h
        cases h
      | _ => cases hp
theorem Same.seq {K : PySem.W.Frag} {H H' : Hp} {a : Addr} {xs : List V} (e : Same H H') (h : SqL K H a xs) : SqL K H' a xs := by
  rcases h with (h | ⟨o, h⟩) | h
  · exact .inl (.inl (e _ _ h))
  · exact .inl (.inr ⟨o, e _ _ h⟩)
  · exact .inr h
theorem Same.tup {K : PySem.W.Frag} {H H' : Hp} {a : Addr} {xs : List V} (e : Same H H') (h : SqT K H a xs) : SqT K H' a xs := by
  rcases h with (h | ⟨o, h⟩) | h
  · exact .inl (.inl (e _ _ h))
  · exact .inl (.inr ⟨o, e _ _ h⟩)
  · exact .inr h
/-- what stands there is no code record -/
def NotX (H : Hp) (r : Addr) : Prop := ∀ φ, H r ≠ some (.ext φ)
theorem NotX.lst {H : Hp} {r : Addr} {xs : List V} (h : H r = some (.lst xs)) : NotX H r := fun φ e => by rw [h] at e; cases e
theorem NotX.dT {H : Hp} {r : Addr} {xs : List (List Key × V)} (h : H r = some (.dT xs)) : NotX H r := fun φ e => by rw [h] at e; cases e
theorem NotX.non {H : Hp} {r : Addr} (h : H r = none) : NotX H r := fun φ e => by rw [h] at e; cases e
theorem TabOk.upd {P r : Addr} {H : Hp} {o : HO} (t : TabOk P H) (h1 : r ≠ P) (h2 : NotX H r) : TabOk P (L2.upd H r o) := by
  rcases t with t | ⟨c, t1, t2⟩
  · exact .inl (by rw [upd_ne (Ne.symm h1)]; exact t)
  · refine .inr ⟨c, by rw [upd_ne (Ne.symm h1)]; exact t1, ?_⟩
    rw [upd_ne (fun e => h2 _ (by rw [← e]; exact t2))]
    exact t2
theorem TabOk.at {P : Addr} {H : Hp} (t : TabOk P H) : ∃ ps, H P = some (.tbl ps) := by
  rcases t with t | ⟨c, t1, t2⟩
  · exact ⟨_, t⟩
  · exact ⟨_, t1⟩
theorem Same.upd {H H' : Hp} {r : Addr} {o : HO} (e : Same H H') (h : H r = none) (hx : NotX H' r := by first | exact NotX.lst (by assumption) | exact NotX.lst upd_same | exact NotX.dT (by assumption) | exact NotX.non (by assumption)) : Same H (L2.upd H' r o) := by
  refine ⟨fun b u q n => ?_, fun b ps q => ?_, fun P t => ?_⟩
  · rw [upd_ne (ne_of_none q h)]
    exact e.at' b u q n
  · rw [upd_ne (ne_of_none q h)]
    exact e.tbl b ps q
  · obtain ⟨ps, hp⟩ := t.at
    exact (e.tab P t).upd (Ne.symm (ne_of_none hp h)) hx
theorem same_new {H : Hp} {p : Addr} (h : H p = none) (o : HO) : Same H (upd H p o) := (Same.refl H).upd h (NotX.non h)
/-- all but what stands at d stays -/
structure But (d : Addr) (H H' : Hp) : Prop where
  at' : ∀ b o, b ≠ d → H b = some o → plainO o = true → H' b = some o
  tbl : ∀ b ps, H b = some (.tbl ps) → ∃ ps', H' b = some (.tbl ps')
  tab : ∀ P, TabOk P H → TabOk P H'
theorem Same.but {d : Addr} {H H' : Hp} (e : Same H H') : But d H H' := ⟨fun b o _ h n => e.at' b o h n, e.tbl, e.tab⟩
theorem But.refl (d : Addr) (H : Hp) : But d H H := (Same.refl H).but
theorem But.trans {d : Addr} {H H1 H2 : Hp} (a : But d H H1) (b : But d H1 H2) : But d H H2 := ⟨fun c o z h n => b.at' c o z (a.at' c o z h n) n, fun c ps h => by
  obtain ⟨ps', h'⟩ := a.tbl c ps h
  exact b.tbl c ps' h', fun P h => b.tab P (a.tab P h)⟩
theorem But.same {d : Addr} {H H' : Hp} (e : But d H H') (h : H d = none) : Same H H' := ⟨fun b o q n => e.at' b o (ne_of_none q h) q n, e.tbl, e.tab⟩
/-- d is new behind H -/
theorem But.old {d : Addr} {H H1 H2 : Hp} (s : Same H H1) (e : But d H1 H2) (h : H d = none) : Same H H2 := ⟨fun b o q n => e.at' b o (ne_of_none q h) (s.at' b o q n) n, fun b ps q => by
  obtain ⟨ps', h'⟩ := s.tbl b ps q
  exact e.tbl b ps' h', fun P t => e.tab P (s.tab P t)⟩
theorem But.tup {K : PySem.W.Frag} {d : Addr} {H H' : Hp} {a : Addr} {xs : List V} (e : But d H H') (hd : a ≠ d) (h : SqT K H a xs) : SqT K H' a xs := by
  rcases h with (h | ⟨o, h⟩) | h
  · exact .inl (.inl (e.at' _ _ hd h rfl))
  · exact .inl (.inr ⟨o, e.at' _ _ hd h rfl⟩)
  · exact .inr h
theorem But.seq {K : PySem.W.Frag} {d : Addr} {H H' : Hp} {a : Addr} {xs : List V} (e : But d H H') (hd : a ≠ d) (h : SqL K H a xs) : SqL K H' a xs := by
  rcases h with (h | ⟨o, h⟩) | h
  · exact .inl (.inl (e.at' _ _ hd h rfl))
  · exact .inl (.inr ⟨o, e.at' _ _ hd h rfl⟩)
  · exact .inr h
end L2

namespace L2
open PySem PySem.Spec PyProof.Rows

/-! ### lists of pairs as tables -/
section
variable {κ : Type} [DecidableEq κ]
def valV (kvs : List (κ × V)) (k : κ) : Option V := (kvs.find? fun kv => decide (kv.1 = k)).map (·.2)
/-- in its place, or at the end -/
def putK (kvs : List (κ × V)) (k : κ) (v : V) : List (κ × V) :=
  if (kvs.any fun kv => decide (kv.1 = k)) = true then kvs.map (fun kv => if kv.1 = k then (kv.1, v) else kv) else kvs ++ [(k, v)]
def dropK (kvs : List (κ × V)) (k : κ) : List (κ × V) := kvs.filter fun kv => decide (kv.1 ≠ k)

theorem valV_pos {p : κ × V} {r : List (κ × V)} {k : κ} (e : p.1 = k) : valV (p :: r) k = some p.2 := by simp [valV, List.find?_cons, e]
theorem valV_neg {p : κ × V} {r : List (κ × V)} {k : κ} (e : ¬ p.1 = k) : valV (p :: r) k = valV r k := by simp [valV, List.find?_cons, e]
theorem valV_any (k : κ) : ∀ kvs : List (κ × V), (kvs.any fun kv => decide (kv.1 = k)) = (valV kvs k).isSome
  | [] => rfl
  | p :: r => by
    rw [List.any_cons]
    by_cases e : p.1 = k
    · simp only [valV_pos e, decide_eq_true e, Bool.true_or, Option.isSome_some]
    · rw [valV_neg e, decide_eq_false e, Bool.false_or]; exact valV_any k r
theorem valV_map (k j : κ) (y : V) : ∀ kvs : List (κ × V), valV (kvs.map fun kv => if kv.1 = k then (kv.1, y) else kv) j = (valV kvs j).map fun x => if j = k then y else x
  | [] => rfl
  | p :: r => by
    have ih := valV_map k j y r
    rw [List.map_cons]
    by_cases h : p.1 = k
    · rw [if_pos h]
      by_cases e : p.1 = j
      · rw [valV_pos (p := (p.1, y)) e, valV_pos e, Option.map_some, if_pos (e.symm.trans h)]
      · rw [valV_neg (p := (p.1, y)) e, valV_neg e, ih]
    · rw [if_neg h]
      by_cases e : p.1 = j
      · rw [valV_pos (p := p) e, valV_pos e, Option.map_some, if_neg (fun z => h (e.trans z))]
      · rw [valV_neg (p := p) e, valV_neg e, ih]
theorem valV_snoc (k j : κ) (y : V) : ∀ kvs : List (κ × V), valV kvs k = none → valV (kvs ++ [(k, y)]) j = if j = k then some y else valV kvs j
  | [], _ => by
    by_cases e : k = j
    · rw [if_pos e.symm]; exact valV_pos (p := (k, y)) e
    · rw [if_neg (fun z => e z.symm)]; exact valV_neg (p := (k, y)) e
  | p :: r, hn => by
    rw [List.cons_append]
    have hk : ¬ p.1 = k := fun z => by rw [valV_pos z] at hn; cases hn
    rw [valV_neg hk] at hn
    have ih := valV_snoc k j y r hn
    by_cases e : p.1 = j
    · rw [valV_pos e, valV_pos e, if_neg (fun z => hk (e.trans z))]
    · rw [valV_neg e, valV_neg e, ih]
theorem valV_put (kvs : List (κ × V)) (k j : κ) (y : V) : valV (putK kvs k y) j = if j = k then some y else valV kvs j := by
  unfold putK
  by_cases a : (kvs.any fun kv => decide (kv.1 = k)) = true
  · rw [if_pos a, valV_map]
    rw [valV_any] at a
    by_cases e : j = k
    · obtain ⟨x, hx⟩ := Option.isSome_iff_exists.mp a
      rw [if_pos e, e, hx, Option.map_some, if_pos rfl]
    · rw [if_neg e]
      cases valV kvs j with
      | none => rfl
      | some x => rw [Option.map_some, if_neg e]
  · rw [if_neg a]
    refine valV_snoc k j y kvs ?_
    rw [valV_any] at a
    cases q : valV kvs k with
    | none => rfl
    | some x => rw [q] at a; exact (a rfl).elim
theorem length_putK (kvs : List (κ × V)) (k : κ) (v : V) : (putK kvs k v).length ≤ kvs.length + 1 := by
  unfold putK
  split
  · rw [List.length_map]; omega
  · rw [List.length_append, List.length_cons, List.length_nil]; omega
theorem RelO.isSome_eq {o : Option V} {u : Option Value} (r : RelO o u) : o.isSome = u.isSome := by
  cases o with
  | none => cases u with
    | none => rfl
    | some _ => exact (show False from r).elim
  | some _ => cases u with
    | none => exact (show False from r).elim
    | some _ => rfl
theorem RelO.getD {o : Option V} {u : Option Value} {d : V} {d' : Value} (r : RelO o u) (rd : RelV d d') : RelV (o.getD d) (u.getD d') := by
  cases o with
  | none => cases u with
    | none => exact rd
    | some _ => exact (show False from r).elim
  | some _ => cases u with
    | none => exact (show False from r).elim
    | some _ => exact r

/-- raw tables of the same keys -/
theorem KV.val {kvs : List (κ × V)} {vs : List (κ × Value)} (r : KV kvs vs) (k : κ) : RelO (valV kvs k) (valueAt vs k) := by
  unfold KV at r
  induction r with
  | nil => exact True.intro
  | @cons p q ps qs h t ih =>
    obtain ⟨h1, h2⟩ := h
    by_cases e : p.1 = k
    · have e' : q.1 = k := h1.symm.trans e
      have b : valueAt (q :: qs) k = some q.2 := by simp [valueAt, List.find?_cons, e']
      rw [valV_pos e, b]; exact h2
    · have e' : ¬ q.1 = k := fun z => e (h1.trans z)
      have b : valueAt (q :: qs) k = valueAt qs k := by simp [valueAt, List.find?_cons, e']
      rw [valV_neg e, b]; exact ih
theorem KV.any {kvs : List (κ × V)} {vs : List (κ × Value)} (r : KV kvs vs) (k : κ) : (kvs.any fun kv => decide (kv.1 = k)) = vs.any fun kv => decide (kv.1 = k) := by
  unfold KV at r
  induction r with
  | nil => rfl
  | cons h t ih => rw [List.any_cons, List.any_cons, ih, h.1]
theorem KV.repl {kvs : List (κ × V)} {vs : List (κ × Value)} (r : KV kvs vs) (k : κ) {y : V} {u : Value} (ry : RelV y u) :
    KV (kvs.map fun kv => if kv.1 = k then (kv.1, y) else kv) (vs.map fun kv => if kv.1 = k then (kv.1, u) else kv) := by
  unfold KV at r ⊢
  induction r with
  | nil => exact .nil
  | @cons p q ps qs h t ih =>
    rw [List.map_cons, List.map_cons]
    refine .cons ?_ ih
    obtain ⟨h1, h2⟩ := h
    by_cases e : p.1 = k
    · rw [if_pos e, if_pos (h1.symm.trans e)]; exact ⟨h1, ry⟩
    · rw [if_neg e, if_neg (fun z => e (h1.trans z))]; exact ⟨h1, h2⟩
theorem KV.put {kvs : List (κ × V)} {vs : List (κ × Value)} (r : KV kvs vs) (k : κ) {y : V} {u : Value} (ry : RelV y u) : KV (putK kvs k y) (stored vs k u) := by
  unfold putK stored
  rw [r.any k]
  by_cases e : (vs.any fun kv => decide (kv.1 = k)) = true
  · rw [if_pos e, if_pos e]; exact r.repl k ry
  · rw [if_neg e, if_neg e]; exact Paired.snoc r ⟨rfl, ry⟩
theorem KV.drop {kvs : List (κ × V)} {vs : List (κ × Value)} (r : KV kvs vs) (k : κ) : KV (dropK kvs k) (without vs k) := by
  unfold KV at r ⊢
  unfold dropK without
  induction r with
  | nil => exact .nil
  | @cons p q ps qs h t ih =>
    obtain ⟨h1, h2⟩ := h
    rw [List.filter_cons, List.filter_cons]
    by_cases e : p.1 = k
    · have a : ¬ decide (p.1 ≠ k) = true := by simp [e]
      have b : ¬ decide (q.1 ≠ k) = true := by simp [h1.symm.trans e]
      rw [if_neg a, if_neg b]; exact ih
    · have e' : ¬ q.1 = k := fun z => e (h1.trans z)
      have a : decide (p.1 ≠ k) = true := by simp [e]
      have b : decide (q.1 ≠ k) = true := by simp [e']
      rw [if_pos a, if_pos b]; exact .cons ⟨h1, h2⟩ ih
theorem KV.length {kvs : List (κ × V)} {vs : List (κ × Value)} (r : KV kvs vs) : kvs.length = vs.length := Paired.length r
end


/-! ### a tracked dict, its keys ints and texts or tuples of these -/
theorem kV_is {P : Program} {w : World} {k : Key} {u : Value} (r : RelV (kV k) u) : (mixKind P w).is k u = true := by
  cases k with
  | inl i => obtain ⟨t, e⟩ := (show ∃ t, u = Value.int i t from r); subst e; exact mixKind_int P w i t
  | inr x => obtain ⟨t, e⟩ := (show ∃ t, u = Value.str x t from r); subst e; exact mixKind_str P w x t
theorem items_are {P : Program} {w : World} : ∀ {ks : List Key} {us : List Value}, Vals (ks.map kV) us → ItemsAre (mixKind P w) ks us
  | [], _, r => by rw [List.map_nil] at r; cases r; exact .nil
  | k :: ks, _, r => by
    rw [List.map_cons] at r
    cases r with
    | cons h t => exact .cons (kV_is h) (items_are t)

/-- raw entries of a dict with tuple keys -/
abbrev KT (H : Hp) : List (List Key × V) → List (List Key × Addr × Value) → Prop := Paired fun p q => p.1 = q.1 ∧ H q.2.1 = some (.tup (p.1.map kV)) ∧ RelV p.2 q.2.2
theorem KT.val {H : Hp} {kvs : List (List Key × V)} {xs : List (List Key × Addr × Value)} (r : KT H kvs xs) (k : List Key) : RelO (valV kvs k) ((atKey xs k).map (·.2)) := by
  induction r with
  | nil => exact True.intro
  | @cons p q ps qs h t ih =>
    obtain ⟨h1, _, h2⟩ := h
    by_cases e : p.1 = k
    · have e' : q.1 = k := h1.symm.trans e
      have b : atKey (q :: qs) k = some q.2 := by simp [atKey, List.find?_cons, e']
      rw [valV_pos e, b]; exact h2
    · have e' : ¬ q.1 = k := fun z => e (h1.trans z)
      have b : atKey (q :: qs) k = atKey qs k := by simp [atKey, List.find?_cons, e']
      rw [valV_neg e, b]; exact ih
theorem KT.repl {H : Hp} {kvs : List (List Key × V)} {xs : List (List Key × Addr × Value)} (r : KT H kvs xs) (k : List Key) {y : V} {u : Value} (ry : RelV y u) :
    KT H (kvs.map fun kv => if kv.1 = k then (kv.1, y) else kv) (xs.map (putAt k u)) := by
  induction r with
  | nil => exact .nil
  | @cons p q ps qs h t ih =>
    rw [List.map_cons, List.map_cons]
    refine .cons ?_ ih
    obtain ⟨h1, h2, h3⟩ := h
    unfold putAt
    by_cases e : p.1 = k
    · rw [if_pos e, if_pos (h1.symm.trans e)]; exact ⟨h1, h2, ry⟩
    · rw [if_neg e, if_neg (fun z => e (h1.trans z))]; exact ⟨h1, h2, h3⟩
theorem KT.put {H : Hp} {kvs : List (List Key × V)} {xs : List (List Key × Addr × Value)} (r : KT H kvs xs) (k : List Key) {b : Addr} {y : V} {u : Value} (hb : H b = some (.tup (k.map kV))) (ry : RelV y u) :
    KT H (putK kvs k y) (storedH xs k b u) := by
  have e : (kvs.any fun kv => decide (kv.1 = k)) = (atKey xs k).isSome := by
    rw [valV_any, (r.val k).isSome_eq, Option.isSome_map]
  unfold putK storedH
  rw [e]
  by_cases q : (atKey xs k).isSome = true
  · rw [if_pos q, if_pos q]; exact r.repl k ry
  · rw [if_neg q, if_neg q]; exact Paired.snoc r ⟨rfl, hb, ry⟩
theorem KT.keeps {H H' : Hp} {kvs : List (List Key × V)} {xs : List (List Key × Addr × Value)} (r : KT H kvs xs) (ht : ∀ b ys, H b = some (.tup ys) → H' b = some (.tup ys)) : KT H' kvs xs :=
  Paired.mapP r fun _ _ z => ⟨z.1, ht _ _ z.2.1, z.2.2⟩

section
variable {P : Program} {w : World} {H : Hp} {h : Heap} {a : Addr}
theorem rd_of {u : HO} (ok : HOk P w H h) (e : Rd H a u) : ObjOk P w H h a u := e.ok ok
theorem dk_rd {kvs : List (Key × V)} (ok : HOk P w H h) (e : Rd H a (.dK kvs)) : kvs.length ≤ sizeLine ∧ (a == sysModules) = false ∧ ∃ vs, KV kvs vs ∧ h.DictOf (mixKind P w) a vs :=
  show ObjOk P w H h a (.dK kvs) from rd_of ok e
theorem dk_of {kvs : List (Key × V)} (ok : HOk P w H h) (e : H a = some (.dK kvs)) : kvs.length ≤ sizeLine ∧ (a == sysModules) = false ∧ ∃ vs, KV kvs vs ∧ h.DictOf (mixKind P w) a vs := dk_rd ok (.inl e)
/-- a tracked tuple of ints and texts is a key -/
theorem key_of {ks : List Key} (ok : HOk P w H h) (e : H a = some (.tup (ks.map kV))) : (tupleKind (mixKind P w)).is h ks a := by
  obtain ⟨_, its, r, o, h1, h2, n, h3⟩ := (show ObjOk P w H h a (.tup (ks.map kV)) from ok a _ e)
  exact ⟨o, its.toArray, n, h1, h2, h3, by simpa using items_are r⟩
theorem dt_rd {kvs : List (List Key × V)} (ok : HOk P w H h) (e : Rd H a (.dT kvs)) : kvs.length ≤ sizeLine ∧ (a == sysModules) = false ∧
    ∃ xs, KT H kvs xs ∧ h.DictOfH (tupleKind (mixKind P w)) a xs := by
  obtain ⟨z, y, xs, r, o, es, ep, h1, h2, h3, h4, h5⟩ := (show ObjOk P w H h a (.dT kvs) from rd_of ok e)
  refine ⟨z, y, xs, r, o, es, ep, h1, h2, h3, h4, fun x hx => ?_, h5⟩
  have all : ∀ {l : List (List Key × V)} {m : List (List Key × Addr × Value)}, KT H l m → ∀ x ∈ m, (tupleKind (mixKind P w)).is h x.1 x.2.1 := by
    intro l m q
    induction q with
    | nil => intro x hx; exact nomatch hx
    | @cons p q ps qs hq t ih =>
      intro x hx
      rcases List.mem_cons.mp hx with e | hx
      · subst e
        exact key_of ok (by rw [← hq.1]; exact hq.2.1)
      · exact ih x hx
  exact all r x hx
theorem dt_of {kvs : List (List Key × V)} (ok : HOk P w H h) (e : H a = some (.dT kvs)) : kvs.length ≤ sizeLine ∧ (a == sysModules) = false ∧
    ∃ xs, KT H kvs xs ∧ h.DictOfH (tupleKind (mixKind P w)) a xs := dt_rd ok (.inl e)
end

/-- what the dict at a holds at the key y -/
def DGet (H : Hp) (a : Addr) (y : V) (r : Option V) : Prop :=
  (∃ kvs k, Rd H a (.dK kvs) ∧ y = kV k ∧ r = valV kvs k) ∨ ∃ kvs k b, Rd H a (.dT kvs) ∧ y = .ref b ∧ H b = some (.tup (k.map kV)) ∧ r = valV kvs k
/-- the heap behind a[y] = v -/
def DPut (H : Hp) (a : Addr) (y v : V) (H' : Hp) : Prop :=
  (∃ kvs k, H a = some (.dK kvs) ∧ y = kV k ∧ kvs.length < sizeLine ∧ H' = upd H a (.dK (putK kvs k v))) ∨
  ∃ kvs k b, H a = some (.dT kvs) ∧ y = .ref b ∧ H b = some (.tup (k.map kV)) ∧ kvs.length < sizeLine ∧ H' = upd H a (.dT (putK kvs k v))
theorem DGet.k {H : Hp} {a : Addr} {kvs : List (Key × V)} {k : Key} (e : H a = some (.dK kvs)) : DGet H a (kV k) (valV kvs k) := .inl ⟨kvs, k, .inl e, rfl, rfl⟩
theorem DGet.t {H : Hp} {a b : Addr} {kvs : List (List Key × V)} {k : List Key} (e : H a = some (.dT kvs)) (eb : H b = some (.tup (k.map kV))) : DGet H a (.ref b) (valV kvs k) := .inr ⟨kvs, k, b, .inl e, rfl, eb, rfl⟩
theorem DPut.k {H : Hp} {a : Addr} {kvs : List (Key × V)} {k : Key} {v : V} (e : H a = some (.dK kvs)) (hl : kvs.length < sizeLine) : DPut H a (kV k) v (upd H a (.dK (putK kvs k v))) := .inl ⟨kvs, k, e, rfl, hl, rfl⟩
theorem DPut.t {H : Hp} {a b : Addr} {kvs : List (List Key × V)} {k : List Key} {v : V} (e : H a = some (.dT kvs)) (eb : H b = some (.tup (k.map kV))) (hl : kvs.length < sizeLine) :
    DPut H a (.ref b) v (upd H a (.dT (putK kvs k v))) := .inr ⟨kvs, k, b, e, rfl, eb, hl, rfl⟩


section
variable {X : Cx} {pins : List (Addr × Obj)} {σ : St} {H : Hp} {s : Shared} {a : Addr} {y v : V} {u r : Value} {o : Option V} {A : Around} {E : Value → Shared → Prop}

theorem Inv.big (I : Inv X pins σ H s) : sysModules < s.heap.objs.size := by
  have h : mainGlobals < s.heap.objs.size := (I.mod.glob.keeps I.bk).lt
  exact Nat.lt_trans (by decide) h

/-- d[y], there -/
theorem d_getItem {Q : Value → Shared → Prop} (hu : A.units + 1 < cLine) (I : Inv X pins σ H s) (g : DGet H a y (some v)) (ry : RelV y u) (h : ∀ w' s', Inv X pins σ H s' → RelV v w' → Q w' s') :
    wpAny (model X.prog X.w) A (getItem (.ref a) u) Q E s := by
  rcases g with ⟨kvs, k, e, ey, l⟩ | ⟨kvs, k, b, e, ey, eb, l⟩
  · subst ey
    obtain ⟨z, hd, vs, rel, dd⟩ := dk_rd I.hok e
    obtain ⟨w', hw, rw'⟩ := RelO.some_of (v := v) (o := valueAt vs k) (by rw [l]; exact rel.val k)
    exact wpAny_getItem_of (kV_is ry) dd.mapOf hw (h w' _ (I.tok _) rw')
  · subst ey
    cases (show u = Value.ref b from ry)
    obtain ⟨z, hd, xs, rel, dd⟩ := dt_rd I.hok e
    obtain ⟨w', hw, rw'⟩ := RelO.some_of (v := v) (o := (atKey xs k).map (·.2)) (by rw [l]; exact rel.val k)
    obtain ⟨p, hp, hp2⟩ := Option.map_eq_some_iff.mp hw
    refine wpAny_getItem_heap (tupleKind_room_in1 hu) (key_of I.hok eb) dd hp ?_
    rw [hp2]
    exact h w' _ (I.tok _) rw'
theorem d_notIn {Q : Value → Shared → Prop} (hu : A.units + 1 < cLine) (I : Inv X pins σ H s) (g : DGet H a y o) (ry : RelV y u) (h : ∀ s', Inv X pins σ H s' → Q (.bool (!o.isSome)) s') :
    wpAny (model X.prog X.w) A (compareOp .NotIn u (.ref a)) Q E s := by
  rcases g with ⟨kvs, k, e, ey, l⟩ | ⟨kvs, k, b, e, ey, eb, l⟩
  · subst ey
    obtain ⟨z, hd, vs, rel, dd⟩ := dk_rd I.hok e
    refine wpAny_notIn_of (kV_is ry) hd dd.mapOf ?_
    rw [← (rel.val k).isSome_eq, ← l]
    exact h _ (I.tok _)
  · subst ey
    cases (show u = Value.ref b from ry)
    obtain ⟨z, hd, xs, rel, dd⟩ := dt_rd I.hok e
    refine wpAny_notIn_heap (tupleKind_room_in1 hu) (key_of I.hok eb) hd dd ?_
    have q := (rel.val k).isSome_eq
    rw [Option.isSome_map] at q
    rw [← q, ← l]
    exact h _ (I.tok _)
/-- a dict's object is replaced -/
theorem d_write {h' : Heap} {t' : Nat} {ob : HO} (I : Inv X pins σ H s) (mu : Mut (H a)) (hs : Heap.SameBut a s.heap h') (he : ∃ q, h'.get? a = some q) (new : ObjOk X.prog X.w (upd H a ob) h' a ob) :
    Inv X pins σ (upd H a ob) { s with heap := h', toks := t' } :=
  I.write (x := a) (e := a) mu (.inl rfl) (fun b q hb z => (hs.2 b hb).trans z) he new
theorem dk_new {P : Program} {w : World} {H' : Hp} {h' : Heap} {kvs : List (Key × V)} {vs : List (Key × Value)} (z : kvs.length ≤ sizeLine) (hd : (a == sysModules) = false) (rel : KV kvs vs) (dd : h'.DictOf (mixKind P w) a vs) :
    ObjOk P w H' h' a (.dK kvs) := ⟨z, hd, vs, rel, dd⟩
/-- d[y] = v -/
theorem d_setItem {H' : Hp} {Q : Unit → Shared → Prop} (hu : A.units + 1 < cLine) (I : Inv X pins σ H s) (g : DPut H a y v H') (ry : RelV y u) (rv : RelV v r) (h : ∀ s', Inv X pins σ H' s' → Q () s') :
    wpAny (model X.prog X.w) A (setItem (.ref a) u r) Q E s := by
  rcases g with ⟨kvs, k, e, ey, l, eH⟩ | ⟨kvs, k, b, e, ey, eb, l, eH⟩
  · subst ey eH
    obtain ⟨z, hd, vs, rel, dd⟩ := dk_of I.hok e
    have hz : vs.length ≤ sizeLine := by rw [← rel.length]; exact z
    have hl : (putK kvs k v).length ≤ sizeLine := by have := length_putK kvs k v; omega
    refine wpAny_setItem_pairs (hsz := hz) (kV_is ry) dd fun h' dd' hs => h _ ?_
    have he : ∃ q, h'.get? a = some q := let ⟨q, _, _, hq, _⟩ := dd'; ⟨q, hq⟩
    exact d_write I (by rw [e]; exact True.intro) hs he (dk_new hl hd (rel.put k rv) dd')
  · subst ey eH
    cases (show u = Value.ref b from ry)
    obtain ⟨z, hd, xs, rel, dd⟩ := dt_of I.hok e
    have hz : xs.length ≤ sizeLine := by rw [← Paired.length rel]; exact z
    have hl : (putK kvs k v).length ≤ sizeLine := by have := length_putK kvs k v; omega
    refine wpAny_setItem_heap (hsz := hz) (tupleKind_room_in1 hu) (key_of I.hok eb) dd fun h' dd' hs => h _ ?_
    obtain ⟨q, es, ep, hq, h2, h3, h4, _, h5⟩ := dd'
    refine d_write I (by rw [e]; exact True.intro) hs ⟨q, hq⟩ ⟨hl, hd, _, (rel.put k eb rv).keeps fun c ys ec => ?_, q, es, ep, hq, h2, h3, h4, h5⟩
    rw [upd_ne (ne_of ec e (fun z => nomatch z))]
    exact ec
end

section
variable {X : Cx} {pins : List (Addr × Obj)} {σ : St} {H : Hp} {s : Shared} {a : Addr} {kvs : List (Key × V)} {k : Key} {u : Value} {A : Around} {E : Value → Shared → Prop}
end


/-! ### readings and rules -/
/-- the element of a subscription, not a slice -/
def NoSl (i : Expr) : Prop := ∀ ov iv, subscripted i false ov iv = operate [ov, iv] (getItem ov iv)
theorem subD_of {prog : Program} {w : World} {A : Around} {E : Value → Shared → Prop} {s : Shared} {env : Env} {value slice : Expr} {pos : Pos} {T id : String} {Q : Value → Shared → Prop}
    (hl : typeLookup (.type T) "__getitem__" = pure (some (.builtin id))) (hs : NoSl slice)
    (h : wpAny (model prog w) A (eval value env) (fun o s₁ => wpAny (model prog w) A (eval slice env) (fun i s₂ => s₂.TypeIs o T ∧ wpAny (model prog w) A (getItem o i) Q E s₂) E s₁) E s) :
    wpAny (model prog w) A (eval (.Subscript value slice pos) env) Q E s := by
  refine Subscript_ (wpAny_mono h (fun o s₁ h₁ => wpAny_mono h₁ (fun i s₂ h₂ => ?_) fun _ _ x => x) fun _ _ x => x)
  obtain ⟨hT, h₂⟩ := h₂
  unfold subscriptTail
  refine wpAny_bind ?_
  rw [getitemInPython_of_ne hT.not_modules]
  refine wpAny_bind (wpAny_specialOf hT hl ?_)
  have fin : wpAny (model prog w) A (subscripted slice false o i) (fun r s₃ => wpAny (model prog w) A (letTemporaryGo value o r >>= fun _ => pure r) Q E s₃) E s₂ := by
    rw [hs o i]
    exact wpAny_operating (wpAny_mono h₂ (fun r s₃ h₃ => wpAny_bind (wpAny_letTemporaryGo (wpAny_pure h₃))) fun _ _ x => x)
  first
    | exact wpAny_pure (wpAny_bind fin)
    | exact wpAny_bind (wpAny_pure (wpAny_bind fin))
    | exact wpAny_bind fin

theorem dict_typeIs {X : Cx} {pins : List (Addr × Obj)} {σ : St} {H : Hp} {s : Shared} {a : Addr} {y : V} {o : Option V} (I : Inv X pins σ H s) (g : DGet H a y o) : s.TypeIs (.ref a) "dict" := by
  rcases g with ⟨kvs, k, e, _, _⟩ | ⟨kvs, k, b, e, _, _, _⟩
  · obtain ⟨_, _, vs, _, dd⟩ := dk_rd I.hok e
    exact dd.typeIs
  · obtain ⟨_, _, xs, _, dd⟩ := dt_rd I.hok e
    exact dd.typeIs
/-- d[y] -/
def tDGet (td ty : TE) : TE := fun σ H Q => td σ H fun x H1 => ty σ H1 fun y H2 => ∃ a v, x = .ref a ∧ DGet H2 a y (some v) ∧ Q v H2
/-- y in d, y not in d -/
def tDIn (ty td : TE) : TE := fun σ H Q => ty σ H fun y H1 => td σ H1 fun x H2 => ∃ a o, x = .ref a ∧ DGet H2 a y o ∧ Q (.bl o.isSome) H2
def tDNotIn (ty td : TE) : TE := fun σ H Q => ty σ H fun y H1 => td σ H1 fun x H2 => ∃ a o, x = .ref a ∧ DGet H2 a y o ∧ Q (.bl (!o.isSome)) H2
/-- d[y] = v -/
def sDPut (td ty tv : TE) : TS := fun D σ H => tv σ H fun v H1 => td σ H1 fun x H2 => ty σ H2 fun y H3 => ∃ a H4, x = .ref a ∧ DPut H3 a y v H4 ∧ D.nx σ H4
/-- d[y] op= v -/
def sDAug (td ty tv : TE) (rd : V → V → Hp → VK → Prop) : TS := fun D σ H => td σ H fun x H1 => ty σ H1 fun y H2 => ∃ a v, x = .ref a ∧ DGet H2 a y (some v) ∧
  tv σ H2 fun y2 H3 => rd v y2 H3 fun z H4 => ∃ H5, DPut H4 a y z H5 ∧ D.nx σ H5
/-- del d[y] -/
def sDDel (td ty : TE) : TS := fun D σ H => td σ H fun x H1 => ty σ H1 fun y H2 => ∃ a kvs k, x = .ref a ∧ H2 a = some (.dK kvs) ∧ y = kV k ∧ (valV kvs k).isSome = true ∧ D.nx σ (upd H2 a (.dK (dropK kvs k)))

section
variable {X : Cx} {o i e value : Expr} {pos pos' tpos : Pos} {td ty tv : TE}
theorem pe_dget (hu : X.A.units + 1 < cLine) (ho : PE X o td) (hi : PE X i ty) (hs : NoSl i) : PE X (.Subscript o i pos) (tDGet td ty) := by
  intro pins s σ H Q I h
  refine subD_of PySem.F.slot_dict_getitem.lookup hs (thn (ho pins s σ H _ I h) fun u s1 ⟨x, H1, I1, rx, q1⟩ => thn (hi pins s1 σ H1 _ I1 q1) fun iv s2 ⟨y, H2, I2, ry, a, v, ex, g, q2⟩ => ?_)
  subst ex
  obtain rfl : u = Value.ref a := rx
  exact ⟨dict_typeIs I2 g, d_getItem hu I2 g ry fun w' s3 I3 rw' => ⟨v, H2, I3, rw', q2⟩⟩
theorem pc_dnotin (hu : X.A.units + 1 < cLine) (hi : PE X i ty) (ho : PE X o td) : PC X .NotIn i o (tDNotIn ty td) := by
  intro pins s σ H Q I h
  refine thn (hi pins s σ H _ I h) fun iv s1 ⟨y, H1, I1, ry, q1⟩ => thn (ho pins s1 σ H1 _ I1 q1) fun u s2 ⟨x, H2, I2, rx, a, ov, ex, g, q2⟩ => ?_
  subst ex
  obtain rfl : u = Value.ref a := rx
  exact d_notIn hu I2 g ry fun s3 I3 => ⟨.bl (!ov.isSome), H2, I3, rfl, q2⟩
theorem ps_dput (hu : X.A.units + 1 < cLine) (ho : PE X o td) (hi : PE X i ty) (hv : PE X value tv) (hs : swapsWith value (some (.Subscript o i pos')) pos.line X.env = pure false) :
    PS X (.Assign [.Subscript o i pos'] value pos) (sDPut td ty tv) := by
  intro pins s σ H D I h
  refine wpAny_Assign_Subscript (thn (hv pins s σ H _ I h) fun r s1 ⟨v, H1, I1, rv, q1⟩ => thn (ho pins s1 σ H1 _ I1 q1) fun u s2 ⟨x, H2, I2, rx, q2⟩ => thn (hi pins s2 σ H2 _ I2 q2) fun iv s3 ⟨y, H3, I3, ry, a, H4, ex, g, q3⟩ => ?_) hs
  subst ex
  obtain rfl : u = Value.ref a := rx
  exact d_setItem hu I3 g ry rv fun s4 I4 => ⟨σ, H4, I4, q3⟩
end


/-! ### displays -/
theorem dt_empty {P : Program} {w : World} {H : Hp} (h : Heap) (hb : sysModules < h.objs.size) : ObjOk P w H (h.push { cls := .type "dict", data := .dict #[] }) h.objs.size (.dT []) :=
  ⟨Nat.zero_le _, beq_eq_false_iff_ne.mpr (Ne.symm (Nat.ne_of_lt hb)), [], .nil, _, #[], 0, Heap.get?_push_size _ rfl, ⟨rfl, rfl, rfl⟩, rfl, rfl, List.nodup_nil⟩
/-- {}, to be a dict of the kind that is wanted -/
def tDNewK : TE := fun _ H Q => ∀ p, H p = none → Q (.ref p) (upd H p (.dK []))
def tDNewT : TE := fun _ H Q => ∀ p, H p = none → Q (.ref p) (upd H p (.dT []))
section
variable {X : Cx} {pos : Pos}
theorem pe_dnewT : PE X (.Dict [] [] pos) tDNewT := fun pins s σ H Q I h =>
  wpAny_Dict_empty ⟨.ref s.heap.objs.size, _, I.laid (a := s.heap.objs.size) (o := .dT []) (t' := s.toks) (fun _ _ q => Heap.get?_push_of_some _ q) (Nat.le_refl _) (dt_empty s.heap I.big), rfl, h _ (I.hok.fresh (Nat.le_refl _))⟩
end
/-! ### a dict's pairs: keys that differ -/
section
variable {κ : Type} [DecidableEq κ]
theorem nd_snoc : ∀ {l : List κ} {k : κ}, l.Nodup → ¬ k ∈ l → (l ++ [k]).Nodup
  | [], k, _, _ => by simp
  | a :: r, k, h, hk => by
    obtain ⟨h1, h2⟩ := List.nodup_cons.mp h
    show (a :: (r ++ [k])).Nodup
    refine List.nodup_cons.mpr ⟨fun m => ?_, nd_snoc h2 fun m => hk (List.mem_cons.mpr (Or.inr m))⟩
    rcases List.mem_append.mp m with q | q
    · exact h1 q
    · exact hk (List.mem_cons.mpr (Or.inl (List.mem_singleton.mp q).symm))
end
end L2


namespace L2
open PySem PySem.Spec PyProof.Rows

/-! ### comprehensions: the cells that the block sees -/
def clOf (cells : List (Str × Addr)) : List (Str × NameKind) → List (Str × Addr) → List (Str × Addr)
  | [], acc => acc
  | (n, k) :: r, acc => if k == .free then (match cells.lookup n with | some c => clOf cells r ((n, c) :: acc) | none => clOf cells r acc) else clOf cells r acc

theorem closure_go (env : Env) : ∀ (names : List (Str × NameKind)) (acc : List (Str × Addr)), (∀ y ∈ names, y.2 = .free → ∃ c, env.cells.lookup y.1 = some c) →
    (forIn names acc fun (x : Str × NameKind) (cs : List (Str × Addr)) => (do
      if x.2 == .free then
        let c ← cellOf env x.1
        pure (ForInStep.yield ((x.1, c) :: cs))
      else pure (ForInStep.yield cs) : Sem (ForInStep (List (Str × Addr))))) = pure (clOf env.cells names acc)
  | [], acc, _ => rfl
  | (n, k) :: r, acc, h => by
    have hr : ∀ y ∈ r, y.2 = .free → ∃ c, env.cells.lookup y.1 = some c := fun y hy => h y (List.mem_cons_of_mem _ hy)
    rw [List.forIn_cons]
    by_cases hk : k = .free
    · subst hk
      obtain ⟨c, hc⟩ := h (n, .free) List.mem_cons_self rfl
      have hc' : env.cells.lookup n = some c := hc
      have e1 : cellOf env n = pure c := by unfold cellOf; rw [hc']
      have e2 : clOf env.cells ((n, NameKind.free) :: r) acc = clOf env.cells r ((n, c) :: acc) := by
        show (if (NameKind.free == NameKind.free) = true then (match env.cells.lookup n with | some c => clOf env.cells r ((n, c) :: acc) | none => clOf env.cells r acc) else clOf env.cells r acc) = _
        rw [if_pos (show (NameKind.free == NameKind.free) = true from rfl), hc']
      rw [e2, ← closure_go env r _ hr]
      show (do let x ← (if (NameKind.free == NameKind.free) = true then (do let c ← cellOf env n; pure (ForInStep.yield ((n, c) :: acc))) else pure (ForInStep.yield acc) : Sem (ForInStep (List (Str × Addr)))); _) = _
      rw [if_pos (show (NameKind.free == NameKind.free) = true from rfl), e1]
      rfl
    · have hb : (k == NameKind.free) = false := by simpa using hk
      have e2 : clOf env.cells ((n, k) :: r) acc = clOf env.cells r acc := by
        show (if (k == NameKind.free) = true then _ else clOf env.cells r acc) = _
        rw [hb]; rfl
      rw [e2, ← closure_go env r _ hr]
      show (do let x ← (if (k == NameKind.free) = true then (do let c ← cellOf env n; pure (ForInStep.yield ((n, c) :: acc))) else pure (ForInStep.yield acc) : Sem (ForInStep (List (Str × Addr)))); _) = _
      rw [hb]
      rfl
theorem closure_of {scope : Scope} {env : Env} (h : ∀ y ∈ scope.names, y.2 = .free → ∃ c, env.cells.lookup y.1 = some c) : closureFor scope env = pure (clOf env.cells scope.names []) := by
  have q := closure_go env scope.names [] h
  have e : closureFor scope env = ((forIn scope.names [] fun (x : Str × NameKind) (cs : List (Str × Addr)) => (do
      if x.2 == .free then
        let c ← cellOf env x.1
        pure (ForInStep.yield ((x.1, c) :: cs))
      else pure (ForInStep.yield cs) : Sem (ForInStep (List (Str × Addr))))) >>= fun s => pure s) := rfl
  rw [e, q]
  rfl
/-- what the cells of the block are -/
theorem clOf_look (cells : List (Str × Addr)) : ∀ (names : List (Str × NameKind)) (acc : List (Str × Addr)) (x : Str) (c : Addr), (clOf cells names acc).lookup x = some c →
    acc.lookup x = some c ∨ cells.lookup x = some c
  | [], acc, x, c, h => .inl h
  | (n, k) :: r, acc, x, c, h => by
    unfold clOf at h
    split at h
    · split at h
      · rename_i c' hc
        rcases clOf_look cells r _ x c h with q | q
        · rw [List.lookup_cons] at q
          cases hx : x == n with
          | true =>
            rw [hx] at q
            have e : x = n := by simpa using hx
            subst e
            exact .inr (by rw [hc]; exact q)
          | false =>
            rw [hx] at q
            exact .inl q
        · exact .inr q
      · exact clOf_look cells r _ x c h
    · exact clOf_look cells r _ x c h
theorem clOf_acc (cells : List (Str × Addr)) : ∀ (names : List (Str × NameKind)) (acc : List (Str × Addr)) (x : Str) (c : Addr), cells.lookup x = some c → acc.lookup x = some c → (clOf cells names acc).lookup x = some c
  | [], acc, x, c, _, h => h
  | (n, k) :: r, acc, x, c, hx, h => by
    unfold clOf
    split
    · split
      · rename_i c' hc
        refine clOf_acc cells r _ x c hx ?_
        rw [List.lookup_cons]
        cases e : x == n with
        | true =>
          have e' : x = n := by simpa using e
          subst e'
          rw [hx] at hc
          exact hc.symm
        | false => exact h
      · exact clOf_acc cells r _ x c hx h
    · exact clOf_acc cells r _ x c hx h
theorem clOf_has (cells : List (Str × Addr)) : ∀ (names : List (Str × NameKind)) (acc : List (Str × Addr)) (x : Str) (c : Addr), cells.lookup x = some c → (x, NameKind.free) ∈ names → (clOf cells names acc).lookup x = some c
  | [], acc, x, c, _, h => absurd h (by simp)
  | (n, k) :: r, acc, x, c, hx, h => by
    rcases List.mem_cons.mp h with e | h
    · cases e
      unfold clOf
      rw [if_pos (show (NameKind.free == NameKind.free) = true from rfl), hx]
      exact clOf_acc cells r _ n c hx (by rw [List.lookup_cons]; simp)
    · unfold clOf
      split
      · split
        · exact clOf_has cells r _ x c hx h
        · exact clOf_has cells r _ x c hx h
      · exact clOf_has cells r _ x c hx h

/-! ### how the block's scope reads the names -/
theorem relabel_look {scope : Scope} {env : Env} {x : Str} {k : NameKind} (h : (relabel scope env).names.lookup x = some k) :
    (scope.names.lookup x = some k ∧ ¬ (k = .free ∧ env.scope.kind = .function ∧ env.kindOf x = some .cell)) ∨ (k = .cell ∧ scope.names.lookup x = some .free ∧ env.kindOf x = some .cell) := by
  have all : ∀ names : List (Str × NameKind), (names.map fun (p : Str × NameKind) => if (p.2 == NameKind.free && env.scope.kind == .function && env.kindOf p.1 == some .cell) = true then (p.1, NameKind.cell) else (p.1, p.2)).lookup x = some k →
      (names.lookup x = some k ∧ ¬ (k = .free ∧ env.scope.kind = .function ∧ env.kindOf x = some .cell)) ∨ (k = .cell ∧ names.lookup x = some .free ∧ env.kindOf x = some .cell) := by
    intro names
    induction names with
    | nil => intro h; simp at h
    | cons p r ih =>
      obtain ⟨n, k'⟩ := p
      intro h
      rw [List.map_cons] at h
      dsimp only at h
      by_cases hc : (k' == NameKind.free && env.scope.kind == .function && env.kindOf n == some .cell) = true
      · rw [if_pos hc, List.lookup_cons] at h
        rw [List.lookup_cons]
        cases hx : x == n with
        | true =>
          rw [hx] at h
          have e : x = n := by simpa using hx
          subst e
          simp only [Bool.and_eq_true, beq_iff_eq] at hc
          obtain ⟨⟨h1, h2⟩, h3⟩ := hc
          subst h1
          exact .inr ⟨(Option.some.inj h).symm, rfl, h3⟩
        | false =>
          rw [hx] at h
          exact ih h
      · rw [if_neg hc, List.lookup_cons] at h
        rw [List.lookup_cons]
        cases hx : x == n with
        | true =>
          rw [hx] at h
          have e : x = n := by simpa using hx
          subst e
          have e' : k' = k := Option.some.inj h
          subst e'
          refine .inl ⟨rfl, fun z => hc ?_⟩
          obtain ⟨z1, z2, z3⟩ := z
          rw [z1, z2, z3]
          rfl
        | false =>
          rw [hx] at h
          exact ih h
  exact all scope.names h

/-! ### the block's context -/
def blk (X : Cx) (own : List Str) (scope : Scope) (C : Addr) (s : Shared) (H : Hp) (ex : List Addr) : Cx :=
  { X with N := own ++ X.N, s₀ := s, H₀ := H, env := compEnvC scope (clOf X.env.cells scope.names []) C X.env, outer := X.stack, stack := X.stack, ex := ex, fn := fun _ => false, pn := [], xe := fun _ _ => False }
/-- what of the written scope the rule asks: its locals are its own, it has no cells, its free names are cells (or free) here -/
structure BlkScope (X : Cx) (own : List Str) (scope : Scope) : Prop where
  kind : scope.kind = .function
  nocell : ∀ y ∈ scope.names, y.2 ≠ .cell
  names : ∀ y ∈ scope.names, y.2 = .local → scope.names.lookup y.1 = some .local
  loc : ∀ y ∈ scope.names, y.2 = .local → y.1 ∉ X.N
  free : ∀ y ∈ scope.names, y.2 = .free → X.env.kindOf y.1 = some .cell ∨ X.env.kindOf y.1 = some .free
/-- by computation -/
theorem BlkScope.mk' {X : Cx} {own : List Str} {scope : Scope} {xs : Scope} {N : List Str} (hx : X.env.scope = xs) (hN : X.N = N) (kind : scope.kind = .function) (h : (scope.names.all fun y => (y.2 != .cell) && (y.2 != .local || (scope.names.lookup y.1 == some .local && !N.contains y.1)) && (y.2 != .free || (xs.names.lookup y.1 == some .cell || xs.names.lookup y.1 == some .free))) = true) :
    BlkScope X own scope := by
  subst hx hN
  have q := fun y hy => List.all_eq_true.mp h y hy
  refine ⟨kind, fun y hy e => ?_, fun y hy e => ?_, fun y hy e => ?_, fun y hy e => ?_⟩
  · have := q y hy
    rw [e] at this
    simp at this
  · have := q y hy
    rw [e] at this
    simp at this
    exact this.1
  · have := q y hy
    rw [e] at this
    simp at this
    exact this.2
  · have := q y hy
    rw [e] at this
    simp at this
    rcases this with z | z
    · exact .inl z
    · exact .inr z
end L2

namespace L2
open PySem PySem.Spec PyProof.Rows

section
variable {X : Cx} {pins : List (Addr × Obj)} {σ : St} {H : Hp} {s : Shared} {own : List Str} {scope : Scope} {fp : List Addr}

/-- the block's context stands -/
theorem blk_ok (I : Inv X pins σ H s) (B : BlkScope X own scope) (hf : ∀ b ∈ fp, FpOk X pins H b) {C : Addr} (hC : s.heap.objs.size ≤ C) (hfo : ∀ b ∈ fp, ∃ o, s.heap.get? b = some o) : (blk X own scope C s H fp).Ok := by
  have look : ∀ x c, (clOf X.env.cells scope.names []).lookup x = some c → X.env.cells.lookup x = some c := fun x c h => by
    rcases clOf_look _ _ _ _ _ h with q | q
    · simp at q
    · exact q
  have fz : ∀ b ∈ fp, b ∉ frs X.stack := fun b hb z => by
    obtain ⟨_, f1, f2, _⟩ := hf b hb
    rcases List.mem_cons.mp (I.stkSub b z) with e | e
    · exact f1 e
    · exact f2 e
  refine ⟨I.ok.mod, B.kind, I.ok.glob, I.ok.blt, hC, fun x y c h1 h2 => I.ok.inj x y c (look x c h1) (look y c h2), fun x hx => ?_, fun x c h => absurd h Bool.false_ne_true, I.ok.hd, I.ok.frames, .inl rfl, fun b hb => ?_,
    I.bs, Nat.le_trans I.ok.bsz I.sz, fun b o e hb => ?_, fz, I.stack, I.stkFree⟩
  · have hx' : (relabel scope X.env).names.lookup x = some .cell ∨ (relabel scope X.env).names.lookup x = some .free := hx
    have fr : scope.names.lookup x = some .free ∨ scope.names.lookup x = some .cell := by
      rcases hx' with h | h
      · rcases relabel_look h with ⟨q, _⟩ | ⟨_, q, _⟩
        · exact .inr q
        · exact .inl q
      · rcases relabel_look h with ⟨q, _⟩ | ⟨z, _, _⟩
        · exact .inl q
        · cases z
    rcases fr with q | q
    · have hm := PySem.mem_of_lookup q
      obtain ⟨c, hc⟩ := I.ok.has x (B.free _ hm rfl)
      exact ⟨c, clOf_has _ _ _ _ _ hc hm⟩
    · exact absurd rfl (B.nocell _ (PySem.mem_of_lookup q))
  · obtain ⟨f0, f1, f2, f3, f4, f5⟩ := hf b hb
    obtain ⟨o, ho⟩ := hfo b hb
    exact ⟨Nat.ne_of_lt (Nat.lt_of_lt_of_le (Heap.lt_size ho) hC), fun x c e => f4 x c (look x c e)⟩
  · obtain ⟨f0, f1, f2, f3, f4, f5⟩ := hf b hb
    rcases f3 with z | z
    · exact I.ok.noex b o e z
    · exact absurd (Nat.lt_of_lt_of_le (Nat.lt_of_lt_of_le (Heap.lt_size e) I.ok.bsz) z) (Nat.lt_irrefl _)

/-- the block's first state: D the list that grows, C its names -/
theorem blk_inv (I : Inv X pins σ H s) (B : BlkScope X own scope) (hf : ∀ b ∈ fp, FpOk X pins H b) (hfo : ∀ b ∈ fp, ∃ o, s.heap.get? b = some o) {C D : Addr} {h1 : Heap} {m : Str → Option Value} {oD : Obj} {tk : Nat} (hC : s.heap.objs.size ≤ C) (hD : s.heap.objs.size ≤ D)
    (hDC : D ≠ C) (old : ∀ b o, s.heap.get? b = some o → h1.get? b = some o) (hns : h1.Ns C m) (hoD : h1.get? D = some oD) (hdD : ∀ v, oD.data ≠ .cell v) {os : St} (hos : os = own.map fun _ => none) :
    Inv (blk X own scope C s H fp) [(D, oD)] (os ++ σ) H { s with heap := h1, toks := tk } := by
  have look : ∀ x c, (clOf X.env.cells scope.names []).lookup x = some c → X.env.cells.lookup x = some c := fun x c h => by
    rcases clOf_look _ _ _ _ _ h with q | q
    · simp at q
    · exact q
  have hol : os.length = own.length := by rw [hos]; simp
  refine ⟨blk_ok I B hf hC hfo, rfl, I.bare, Un.kept old, ⟨m, hns, fun i x v e1 e2 e3 => ?_⟩, fun x c e => ?_, I.hok.fresh hC, fun x c e => I.freeC x c (look x c e), fun p hp => ?_, I.hok.kept old, ?_⟩
  · by_cases hi : i < own.length
    · rw [List.getElem?_append_left (by omega), hos, List.getElem?_map] at e2
      cases q : own[i]? with
      | none => rw [q] at e2; cases e2
      | some z => rw [q] at e2; cases e2
    · have e1' : X.N[i - own.length]? = some x := by
        have q : (own ++ X.N)[i]? = some x := e1
        rw [List.getElem?_append_right (by omega)] at q
        exact q
      rw [List.getElem?_append_right (by omega), hol] at e2
      have e3' : (relabel scope X.env).names.lookup x = some .local ∨ (relabel scope X.env).names.lookup x = some .cell ∨ (relabel scope X.env).names.lookup x = some .free := e3
      obtain ⟨mX, hnX, hlX⟩ := I.loc
      have cellOk : ∀ {k : NameKind}, (relabel scope X.env).names.lookup x = some k → (k = .cell ∨ k = .free) → scope.names.lookup x = some .free → (X.env.kindOf x = some .cell ∨ X.env.kindOf x = some .free) →
          ∃ u, RelV v u ∧ Look (blk X own scope C s H fp).env h1 m x u := fun {k} hk hkk hs hx => by
        have vis : Vis X.env.scope x := by
          rcases hx with z | z
          · exact .inr (.inl z)
          · exact .inr (.inr z)
        obtain ⟨u, r, l⟩ := hlX _ x v e1' e2 vis
        refine ⟨u, r, .inr ⟨?_, ?_⟩⟩
        · rcases hkk with z | z
          · rw [z] at hk; exact .inl hk
          · rw [z] at hk; exact .inr hk
        · rcases l with ⟨z, _⟩ | ⟨_, c, hc, hcell⟩
          · rw [z] at hx
            rcases hx with y | y <;> cases y
          · exact ⟨c, clOf_has _ _ _ _ _ hc (PySem.mem_of_lookup hs), hcell.keeps old⟩
      rcases e3' with z | z | z
      · rcases relabel_look z with ⟨q, _⟩ | ⟨q, _, _⟩
        · exact absurd (List.mem_of_getElem? e1') (B.loc _ (PySem.mem_of_lookup q) rfl)
        · cases q
      · rcases relabel_look z with ⟨q, _⟩ | ⟨_, q, q2⟩
        · exact absurd rfl (B.nocell _ (PySem.mem_of_lookup q))
        · exact cellOk z (.inl rfl) q (.inl q2)
      · rcases relabel_look z with ⟨q, _⟩ | ⟨q, _, _⟩
        · exact cellOk z (.inr rfl) q (B.free _ (PySem.mem_of_lookup q) rfl)
        · cases q
  · obtain ⟨v, hv⟩ := I.cell x c (look x c e)
    exact ⟨v, hv.keeps old⟩
  · have hp' : p ∈ ([] : List (Addr × Obj)) ++ [(D, oD)] := hp
    have e : p = (D, oD) := by simpa using hp'
    subst e
    refine ⟨hoD, I.hok.fresh hD, hDC, fun z => ?_, hdD⟩
    have z' : D ∈ frs X.stack := z
    rcases List.mem_cons.mp (I.stkSub D z') with e | e
    · exact absurd I.lt (by rw [← e]; exact Nat.not_lt.mpr hD)
    · exact I.nofs hD e
  · show (os ++ σ).length = (own ++ X.N).length
    rw [List.length_append, List.length_append, hol, I.len]
end
end L2

namespace L2
open PySem PySem.Spec PyProof.Rows

/-- the loop of a list comprehension with one clause, by an invariant and a measure -/
theorem compLoop_any {prog : Program} {w : World} {A : Around} {R : Result → Shared → Prop} {s : Shared} {elt target iter : Expr} {ifs : List Expr} {scope : Scope} {pos : Pos} {it acc : Value} {env : Env} (J : Nat → Shared → Prop)
    (turn : ∀ n s, J n s → wpAny (model prog w) A (pyNext it) (fun r s₁ => match r with
      | none => R (.ok .next) s₁
      | some v => wpAny (model prog w) A (letOwnedTupleGo target it v) (fun _ s₁' => wpAny (model prog w) A (assign target env v) (fun _ s₂ =>
          wpAny (model prog w) A (forIn ifs true fun c r => if r = true then do let ok ← isTrue c env (eval c env); pure (ForInStep.yield ok) else pure (ForInStep.yield r)) (fun ok s₃ =>
            if ok = true then wpAny (model prog w) A (eval elt env) (fun x s₄ =>
              wpAny (model prog w) A (call (.builtin "list.append") [acc, x]) (fun _ s₅ => ∃ m, m < n ∧ J m s₅) (fun _ _ => False) s₄) (fun _ _ => False) s₃
            else ∃ m, m < n ∧ J m s₃) (fun _ _ => False) s₂) (fun _ _ => False) s₁') (fun _ _ => False) s₁) (fun _ _ => False) s)
    (n : Nat) (h : J n s) : codeAny (model prog w) A (.compLoop (.ListComp elt [⟨target, iter, ifs, 0⟩] scope pos) 0 it acc env) R s := by
  refine codeAny_loop rfl J (fun n s hI => ?_) n h
  show wpAny _ A ((compTurn (.ListComp elt [⟨target, iter, ifs, 0⟩] scope pos) 0 it acc env).onRaise (fun x => do noteFrame x env; theTreesLotGoes x)) _ _ s
  refine wpAny_noted ?_
  rw [compTurn_list]
  refine wpAny_bind (wpAny_standAt (wpAny_bind (wpAny_mono (turn n s hI) (fun r s₁ h₁ => ?_) fun _ _ h' => h'.elim)))
  cases r with
  | none => exact wpAny_pure h₁
  | some v =>
    refine wpAny_bind (wpAny_mono h₁ (fun _ s₁' h₁' => wpAny_bind (wpAny_mono h₁' (fun _ s₂ h₂ => wpAny_bind (wpAny_mono h₂ (fun ok s₃ h₃ => ?_) fun _ _ h' => h'.elim)) fun _ _ h' => h'.elim)) fun _ _ h' => h'.elim)
    cases ok with
    | false => exact wpAny_pure ⟨rfl, h₃⟩
    | true =>
      exact wpAny_bind (wpAny_bind (wpAny_mono h₃ (fun x s₄ h₄ => wpAny_bind (wpAny_mono h₄ (fun _ s₅ h₅ => wpAny_pure (wpAny_pure ⟨rfl, h₅⟩)) fun _ _ h' => h'.elim)) fun _ _ h' => h'.elim))

/-- the tests of a clause, none or one -/
def PIfs (X : Cx) (ifs : List Expr) (t : TT) : Prop :=
  ∀ (pins : List (Addr × Obj)) (s : Shared) (σ : St) (H : Hp) (Q : Bool → Hp → Prop), Inv X pins σ H s → t σ H Q →
    wpAny (model X.prog X.w) X.A (forIn ifs true fun c r => if r = true then do let ok ← isTrue c X.env (eval c X.env); pure (ForInStep.yield ok) else pure (ForInStep.yield r)) (TP X pins σ Q) X.xe s
def tNoIf : TT := fun _ H Q => Q true H
theorem pif_nil {X : Cx} : PIfs X [] tNoIf := fun _ _ _ H _ I h => wpAny_tests_nil ⟨H, I, h⟩
theorem pif_one {X : Cx} {c : Expr} {t : TT} (h : PT X c t) : PIfs X [c] t := fun pins s σ H Q I hw => wpAny_tests_one (h pins s σ H Q I hw)

/-- reading: W the invariant (turn, measure, what is collected, heap); the block's own names stand ahead of the slots -/
def CompEnd (J : It) (own : Nat) (g : TG) (tt : TT) (te : TE) (σ : St) (H : Hp) (Q : VK) : Prop := ∃ W : Nat → Nat → List V → Hp → Prop, (∃ m, W 0 m [] H) ∧ ∀ i m ys H (os : St), os.length = own → W i m ys H →
  (J.stop i H ∧ ∀ D, H D = none → Q (.ref D) (upd H D (.lst ys))) ∨
  (J.go i H ∧ ys.length < sizeLine ∧ ∃ N : List V → Hp → Prop, (∀ ys' H', N ys' H' → ∃ m', m' < m ∧ W (i + 1) m' ys' H') ∧
    ∀ x H', J.yld i H x H' → g x (os ++ σ) H' fun σ2 H2 => (∃ os2 : St, os2.length = own ∧ σ2 = os2 ++ σ) ∧ tt σ2 H2 fun b H3 => if b = true then te σ2 H3 fun v H4 => N (ys ++ [v]) H4 else N ys H3)
def tComp (own : Nat) (wi : TI) (g : TG) (tt : TT) (te : TE) : TE := fun σ H Q => wi σ H fun J H1 => CompEnd J own g tt te σ H1 Q

section
variable {X : Cx} {pins : List (Addr × Obj)} {σ : St} {H : Hp} {s : Shared} {own : List Str} {scope : Scope} {fp : List Addr}

theorem wpA {α : Type} {M : Model} {A : Around} {t : Sem α} {Q Q' : α → Shared → Prop} {s : Shared} (h : wpAny M A t Q (fun _ _ => False) s) (hQ : ∀ a s, Q a s → Q' a s) : wpAny M A t Q' (fun _ _ => False) s := wpAny_mono h hQ fun _ _ x => x

/-- behind the block: the frame's own invariant again, the new list tracked -/
theorem blk_done {C D : Addr} {H' : Hp} {s' : Shared} {h' : Heap} {σ' : St} {ys : List V} {its : List Value} {k : Nat} (I : Inv X pins σ H s) (hf : ∀ b ∈ fp, FpOk X pins H b) (hC : s.heap.objs.size ≤ C) (hD : s.heap.objs.size ≤ D) (hDC : D ≠ C)
    (J : Inv (blk X own scope C s H fp) [(D, { cls := .type "list", data := .seq its.toArray k })] σ' H' s') (rv : Vals ys its) (hz : ys.length ≤ sizeLine) (hs : Heap.SameBut C s'.heap h') :
    Inv X pins σ (upd H' D (.lst ys)) { s' with heap := h' } := by
  obtain ⟨pD, hnD, _, _, _⟩ := J.pin (D, _) (List.mem_append_right _ List.mem_cons_self)
  have HD : H D = none := I.hok.fresh hD
  have HC : H' C = none := J.free
  have un := J.base
  have ne : ∀ b o, s.heap.get? b = some o → b ≠ C ∧ b ≠ D := fun b o e => ⟨Nat.ne_of_lt (Nat.lt_of_lt_of_le (Heap.lt_size e) hC), Nat.ne_of_lt (Nat.lt_of_lt_of_le (Heap.lt_size e) hD)⟩
  have up : ∀ b u, s'.heap.get? b = some u → b ≠ C → h'.get? b = some u := fun b u e z => (hs.2 b z).trans e
  refine Inv.call' (s' := { s' with heap := h' }) (ch := fp) I J.os ⟨fun b o e n hb hx => ?_, fun b o e n hb hx => ?_, fun b o e n hx => ?_, fun b o e hx => ?_, fun b xs e => ?_, fun b o u e => ?_, fun b ps e => ?_⟩ ?_ J.bare fun b hb => ?_
  · exact up b o (un.keep b o e n hb hx) (ne b o e).1
  · obtain ⟨sl, q⟩ := un.slot b o e n hb hx
    exact ⟨sl, up b _ q (ne b o e).1⟩
  · rw [upd_ne (ne b o e).2]
    exact un.free b o e n hx
  · obtain ⟨o', q⟩ := un.there b o e hx
    exact ⟨o', up b o' q (ne b o e).1⟩
  · rw [upd_ne (ne_of_none e HD)]
    exact un.tups b xs e
  · rw [upd_ne (ne_of_none e HD)]
    exact un.frzs b o u e
  · rw [upd_ne (ne_of_none e HD)]
    exact un.tbls b ps e
  · intro b u e
    by_cases hb : b = D
    · subst hb
      rw [upd_same] at e
      cases e
      exact ⟨hz, its, k, rv, up _ _ pD hDC⟩
    · rw [upd_ne hb] at e
      refine (J.hok b u e).stay (fun c v hc q => up c v q ?_) (fun c q => ?_) fun c xs q => ?_
      · rintro rfl
        rcases hc with z | z
        · rw [← z, HC] at e; cases e
        · rw [HC] at z; cases z
      · rw [upd_ne (ne_of_none q hnD)]; exact q
      · rw [upd_ne (ne_of_none q hnD)]; exact q
  · obtain ⟨f0, f1, f2, f3, f4, f5⟩ := hf b hb
    exact ⟨f3, f1, f4, f5⟩

/-- the block runs: what comes behind it -/
theorem blk_run {elt tg iter : Expr} {ifs : List Expr} {pos : Pos} {g : TG} {tt : TT} {te : TE} {it : Addr} {tn : Nat → Heap → Prop} {J : It} {Q : VK} {E : Value → Shared → Prop} {RR : Value → Addr → Result → Shared → Prop} (hc : X.calm = true) (I : Inv X pins σ H s) (B : BlkScope X own scope)
    (T : Turn X.prog X.w X.K tg J fp it tn) (st : tn 0 s.heap) (hf : ∀ b ∈ fp, FpOk X pins H b)
    (hg : ∀ C s₀ H₀ ex, PG (blk X own scope C s₀ H₀ ex) tg g) (hi : ∀ C s₀ H₀ ex, PIfs (blk X own scope C s₀ H₀ ex) ifs tt) (he : ∀ C s₀ H₀ ex, PE (blk X own scope C s₀ H₀ ex) elt te)
    (W : Nat → Nat → List V → Hp → Prop) (w0 : ∃ m, W 0 m [] H)
    (turn : ∀ i m ys H (os : St), os.length = own.length → W i m ys H →
      (J.stop i H ∧ ∀ D, H D = none → Q (.ref D) (upd H D (.lst ys))) ∨
      (J.go i H ∧ ys.length < sizeLine ∧ ∃ N : List V → Hp → Prop, (∀ ys' H', N ys' H' → ∃ m', m' < m ∧ W (i + 1) m' ys' H') ∧
        ∀ x H', J.yld i H x H' → g x (os ++ σ) H' fun σ2 H2 => (∃ os2 : St, os2.length = own.length ∧ σ2 = os2 ++ σ) ∧ tt σ2 H2 fun b H3 => if b = true then te σ2 H3 fun v H4 => N (ys ++ [v]) H4 else N ys H3))
    (fin : ∀ (C D : Addr) (s' : Shared) (m : Str → Option Value) (H' : Hp), s'.heap.Ns C m → FpOk X pins H' C → (∀ h', Heap.SameBut C s'.heap h' → Inv X pins σ H' { s' with heap := h' }) → Q (.ref D) H' → RR (.ref D) C (.ok .next) s') :
    wpAny (model X.prog X.w) X.A (newList []) (fun acc s₃ => wpAny (model X.prog X.w) X.A (newFunctionEnv scope X.env.globals (clOf X.env.cells scope.names []) [] X.env.qual none .none (some X.env)) (fun cenv s₄ =>
      codeAny (model X.prog X.w) X.A (.compStart (.ListComp elt [⟨tg, iter, ifs, 0⟩] scope pos) 0 (.ref it) acc { cenv with scope := relabel scope X.env }) (RR acc cenv.locals) s₄) E s₃) E s := by
  have hfo : ∀ b ∈ fp, ∃ o, s.heap.get? b = some o := fun b hb => let ⟨o, e, _⟩ := T.obj _ _ st b hb; ⟨o, e⟩
  refine wpAny_newObj_type (wpAny_newFunctionEnv B.nocell (by intro y hy; simp at hy) (fun h₁ hns₁ hsb₁ => ?_) B.kind)
  dsimp only at hns₁ hsb₁ ⊢
  generalize hH2 : s.heap.push { cls := .type "list", dict := none, data := .seq ([] : List Value).toArray } = H2 at hns₁ hsb₁ ⊢
  have hCe : H2.objs.size = s.heap.objs.size + 1 := by rw [← hH2, Heap.size_push]
  have hDC : s.heap.objs.size ≠ H2.objs.size := by rw [hCe]; exact Nat.ne_of_lt (Nat.lt_succ_self _)
  have hC : s.heap.objs.size ≤ H2.objs.size := by rw [hCe]; exact Nat.le_succ _
  have hD : s.heap.objs.size ≤ s.heap.objs.size := Nat.le_refl _
  have old : ∀ b o, s.heap.get? b = some o → h₁.get? b = some o := fun b o e =>
    hsb₁.extBut b o (by rw [hCe]; exact Nat.ne_of_lt (Nat.lt_succ_of_lt (Heap.lt_size e))) (Heap.get?_push_of_some _ (hH2 ▸ Heap.get?_push_of_some _ e))
  have hoD : h₁.get? s.heap.objs.size = some { cls := .type "list", data := .seq ([] : List Value).toArray 0 } := hsb₁.extBut _ _ hDC (Heap.get?_push_of_some _ (hH2 ▸ Heap.get?_push_size _ rfl))
  have CL : H2.objs.size ≠ X.env.locals := Nat.ne_of_gt (Nat.lt_of_lt_of_le I.lt hC)
  have CF : H2.objs.size ∉ X.fs := I.nofs hC
  generalize hDe : s.heap.objs.size = D at hoD hDC hD CL CF
  generalize H2.objs.size = C at *
  have hC' : s.heap.objs.size ≤ C := hC
  have hD' : s.heap.objs.size ≤ D := by rw [hDe]; exact Nat.le_refl _
  have I0 : Inv (blk X own scope C s H fp) [(D, { cls := .type "list", data := .seq ([] : List Value).toArray 0 })] ((own.map fun _ => none) ++ σ) H { s with heap := h₁, toks := s.toks + ([] : List (Str × Value)).length } :=
    blk_inv I B hf hfo hC' hD' hDC old hns₁ hoD (fun v z => nomatch z) rfl
  have stat : ∀ {H' : Hp} {pl : List (Addr × Obj)}, (∀ p ∈ pl, p.1 = D) → (∀ b ∈ fp, H' b = none) → ∀ b ∈ fp, FpOk (blk X own scope C s H fp) pl H' b := fun {H' pl} hpl hn b hb => by
    have ok := I0.ok
    obtain ⟨o, ho⟩ := hfo b hb
    refine ⟨hn b hb, (ok.exf b hb).1, ok.exfs b hb, .inl hb, fun x c e => (ok.exf b hb).2 x c e, fun p hp => ?_⟩
    have hp' : p ∈ ([] : List (Addr × Obj)) ++ pl := hp
    rw [List.nil_append] at hp'
    rw [hpl p hp', ← hDe]
    exact Nat.ne_of_gt (Heap.lt_size ho)
  have loop : ∀ s₃ : Shared, s₃ = { s with heap := h₁, toks := s.toks + ([] : List (Str × Value)).length } →
      codeAny (model X.prog X.w) X.A (.compLoop (.ListComp elt [⟨tg, iter, ifs, 0⟩] scope pos) 0 (.ref it) (.ref D) (blk X own scope C s H fp).env) (RR (.ref D) C) s₃ := by
    rintro s₃ rfl
    obtain ⟨m0, w0⟩ := w0
    refine compLoop_any (fun n s' => ∃ (i : Nat) (ys : List V) (its : List Value) (k : Nat) (os : St) (H' : Hp), os.length = own.length ∧ Inv (blk X own scope C s H fp) [(D, { cls := .type "list", data := .seq its.toArray k })] (os ++ σ) H' s' ∧ tn i s'.heap ∧
      (∀ b ∈ fp, H' b = none) ∧ Vals ys its ∧ ys.length ≤ sizeLine ∧ W i n ys H') ?_ m0 ⟨0, [], [], 0, _, H, by simp, I0, T.keep _ _ _ st fun b hb o e => old b o e, fun b hb => (hf b hb).1, .nil, Nat.zero_le _, w0⟩
    rintro n s4 ⟨i, ys, its, k, os, H4, hos, I4, st4, fr4, rv4, hz4, w4⟩
    have one : ∀ p ∈ [((D, { cls := .type "list", data := .seq its.toArray k }) : Addr × Obj)], p.1 = D := fun p hp => by
      have e : p = (D, { cls := .type "list", data := .seq its.toArray k }) := by simpa using hp
      rw [e]
    rcases turn i n ys H4 os hos w4 with ⟨stop, qn⟩ | ⟨go, hlt, N, hN, step⟩
    · refine wpAny_mono (T.done (blk X own scope C s H fp) rfl rfl rfl hc i _ s4 _ H4 (fun _ _ => False) I4 (stat one fr4) st4 stop) (fun r s5 ⟨hr, I5⟩ => ?_) fun _ _ z => z
      subst hr
      obtain ⟨m, hn, _⟩ := I5.loc
      obtain ⟨pD, hnD, _, _, _⟩ := I5.pin (D, _) (List.mem_append_right _ List.mem_cons_self)
      refine fin C D s5 m (upd H4 D (.lst ys)) hn (I.fpOk hC' ?_) (fun h' hs => blk_done I hf hC' hD' hDC I5 rv4 hz4 hs) (qn D hnD)
      rw [upd_ne (Ne.symm hDC)]
      exact I5.free
    · refine wpAny_mono (T.item (blk X own scope C s H fp) rfl rfl rfl hc i _ s4 _ H4 (fun _ _ => False) I4 (stat one fr4) st4 go) (fun r s5 ⟨u, hr, h5⟩ => ?_) fun _ _ z => z
      subst hr
      refine wpA h5 fun _ s6 ⟨x, H6, I6, r6, y6, st6, fr6⟩ => ?_
      have I6' := I6.pinned (stat one fr6) (T.obj _ _ st6)
      refine wpA (hg C s H fp _ s6 _ H6 x u _ I6' r6 (step x H6 y6)) fun _ s7 ⟨σ7, H7, I7, ⟨os7, ho7, e7⟩, q7⟩ => ?_
      subst e7
      refine wpA (hi C s H fp _ s7 _ H7 _ I7 q7) fun b s8 ⟨H8, I8, q8⟩ => ?_
      -- what a later turn needs, from the pins
      have back : ∀ {H9 : Hp} {s9 : Shared}, Inv (blk X own scope C s H fp) ([(D, { cls := .type "list", data := .seq its.toArray k })] ++ pinsAt fp s6.heap) (os7 ++ σ) H9 s9 → tn (i + 1) s9.heap ∧ ∀ b ∈ fp, H9 b = none := fun {H9 s9} I9 => by
        refine ⟨T.keep _ _ _ st6 fun b hb o e => (I9.pin (b, o) (List.mem_append_right _ (List.mem_append_right _ (mem_pinsAt hb e)))).1, fun b hb => ?_⟩
        obtain ⟨o, e, d⟩ := T.obj _ _ st6 b hb
        exact (I9.pin (b, o) (List.mem_append_right _ (List.mem_append_right _ (mem_pinsAt hb e)))).2.1
      cases b with
      | false =>
        rw [if_neg Bool.false_ne_true] at q8 ⊢
        obtain ⟨m', hm, w'⟩ := hN _ _ q8
        exact ⟨m', hm, i + 1, ys, its, k, os7, H8, ho7, I8.unpinned, (back I8).1, (back I8).2, rv4, hz4, w'⟩
      | true =>
        rw [if_pos rfl] at q8 ⊢
        refine wpA (he C s H fp _ s8 _ H8 _ I8 q8) fun z s9 ⟨v, H9, I9, r9, q9⟩ => ?_
        obtain ⟨st9, fr9⟩ := back I9
        obtain ⟨pD, hnD, hDL, hDF, _⟩ := I9.pin (D, _) (List.mem_append_right _ (List.mem_append_left _ List.mem_cons_self))
        have hsz : its.toArray.size ≤ sizeLine := by
          rw [List.size_toArray, ← rv4.length]
          exact Nat.le_of_lt hlt
        refine append_at pD (fun h' hs hD' => ?_) hsz
        obtain ⟨m', hm, w'⟩ := hN _ _ q9
        have I10 : Inv (blk X own scope C s H fp) [] (os7 ++ σ) H9 s9 := I9.pins_of fun p hp => nomatch hp
        have I11 : Inv (blk X own scope C s H fp) [] (os7 ++ σ) H9 { s9 with heap := h' } := I10.turned (t' := s9.toks) (it := D) (fun b o hb e => (hs.2 b hb).trans e) hnD hDL
          (.inr (by show s.heap.objs.size ≤ D; rw [hDe]; exact Nat.le_refl _)) (fun x c e z => ?_) (fun p hp => absurd (show p ∈ ([] : List (Addr × Obj)) ++ [] from hp) (by simp))
        · have I12 : Inv (blk X own scope C s H fp) [(D, { cls := .type "list", data := .seq (its ++ [z]).toArray (k + 1) })] (os7 ++ σ) H9 { s9 with heap := h' } := I11.pins_of fun p hp => by
            have e : p = (D, { cls := .type "list", data := .seq (its ++ [z]).toArray (k + 1) }) := by simpa using hp
            subst e
            refine ⟨?_, hnD, hDL, hDF, fun v z => nomatch z⟩
            show h'.get? D = _
            rw [hD']
            simp
          refine ⟨m', hm, i + 1, ys ++ [v], its ++ [z], k + 1, os7, H9, ho7, I12, ?_, fr9, rv4.append (.cons r9 .nil), ?_, w'⟩
          · refine T.keep _ _ _ st9 fun b hb o e => (hs.2 b fun z => ?_).trans e
            obtain ⟨o', ho'⟩ := hfo b hb
            rw [z, ← hDe] at ho'
            exact absurd (Heap.lt_size ho') (Nat.lt_irrefl _)
          · rw [List.length_append]
            exact hlt
        · obtain ⟨v', o', ho', hd'⟩ := I9.cell x c e
          rw [z, pD] at ho'
          cases ho'
          exact nomatch hd'
  exact codeAny_compStart_list (loop _ rfl) (T.self _ 0 _ _ _ (T.keep _ _ _ st fun b hb o e => old b o e) (loop _ rfl))
end
end L2

namespace L2
open PySem PySem.Spec PyProof.Rows

section
variable {X : Cx} {own : List Str} {scope : Scope} {elt tg iter : Expr} {ifs : List Expr} {pos : Pos} {wi : TI} {g : TG} {tt : TT} {te : TE}

theorem closure_ok {pins : List (Addr × Obj)} {σ : St} {H : Hp} {s : Shared} (I : Inv X pins σ H s) (B : BlkScope X own scope) : closureFor scope X.env = pure (clOf X.env.cells scope.names []) :=
  closure_of fun y hy e => I.ok.has y.1 (B.free y hy e)

/-- [elt for tg in iter if c] -/
theorem pe_comp (hc : X.calm = true) (B : BlkScope X own scope) (hi : PI X tg iter wi) (hg : ∀ C s₀ H₀ ex, PG (blk X own scope C s₀ H₀ ex) tg g) (hif : ∀ C s₀ H₀ ex, PIfs (blk X own scope C s₀ H₀ ex) ifs tt)
    (he : ∀ C s₀ H₀ ex, PE (blk X own scope C s₀ H₀ ex) elt te) (hs : ∀ x, foldedSetIterable iter X.env x = pure x := by intro _; rfl) :
    PE X (.ListComp elt [⟨tg, iter, ifs, 0⟩] scope pos) (tComp own.length wi g tt te) := by
  intro pins s σ H Q I h
  rw [eval_ListComp]
  refine wpAny_comprehension_free (use := none) rfl hs (closure_ok I B) B.kind B.names (thn (hi pins s σ H _ I h) fun v s1 h1 => thn h1 fun itv s2 h2 => ?_)
  obtain ⟨it, fp, tn, J, H2, e, I2, T, st2, f2, W, w0, turn⟩ := h2
  subst e
  refine blk_run (RR := fun acc C => compPost (model X.prog X.w) X.A X.xe none (EP X pins σ Q) acc C) hc I2 B T st2 f2 hg hif he W w0 turn ?_
  intro C D s' m H' hn _ inv q
  exact ⟨m, hn, fun h' hs => ⟨.ref D, H', inv h' hs, rfl, q⟩⟩

/-- name = [..]: the name is stored ahead of the block's names' going -/
theorem ps_setComp {j : Nat} {y : Str} {py spos : Pos} (hc : X.calm = true) (hN : X.N.Nodup) (hj : X.N[j]? = some y) (hy : Loc X.env.scope y) (B : BlkScope X own scope) (hi : PI X tg iter wi) (hg : ∀ C s₀ H₀ ex, PG (blk X own scope C s₀ H₀ ex) tg g)
    (hif : ∀ C s₀ H₀ ex, PIfs (blk X own scope C s₀ H₀ ex) ifs tt) (he : ∀ C s₀ H₀ ex, PE (blk X own scope C s₀ H₀ ex) elt te)
    (hsw : swapsWith (.ListComp elt [⟨tg, iter, ifs, 0⟩] scope pos) (some (.Name y py)) spos.line X.env = pure true := by rfl) (hs : ∀ x, foldedSetIterable iter X.env x = pure x := by intro _; rfl)
    (hf : X.fn y = true ∨ X.env.scope.names.lookup y = some .local := by first | exact .inl rfl | exact .inr rfl | assumption) :
    PS X (.Assign [.Name y py] (.ListComp elt [⟨tg, iter, ifs, 0⟩] scope pos) spos) (tAsg (tComp own.length wi g tt te) (gName j)) := by
  intro pins s σ H D I h
  rw [exec_Assign_Name_used _ _ _ _ hsw]
  refine wpAny_bind (wpAny_standAt (wpAny_bind ?_))
  show wpAny _ _ (do let _ ← comprehension (.ListComp elt [⟨tg, iter, ifs, 0⟩] scope pos) scope X.env _ (newList []) false (eval iter X.env) (some (assign (.Name y py) X.env))) _ _ s
  refine wpAny_bind (wpAny_mono (wpAny_comprehension_free (use := some (assign (.Name y py) X.env)) (Q := fun _ s' => SP X pins D .next s') rfl hs (closure_ok I B) B.kind B.names
    (thn (hi pins s σ H _ I h) fun v s1 h1 => thn h1 fun itv s2 h2 => ?_)) (fun _ s' hq => wpAny_pure (wpAny_pure hq)) fun _ _ e => e)
  obtain ⟨it, fp, tn, J, H2, e, I2, T, st2, f2, W, w0, turn⟩ := h2
  subst e
  refine blk_run (RR := fun acc C => compPost (model X.prog X.w) X.A X.xe (some (assign (.Name y py) X.env)) (fun _ s' => SP X pins D .next s') acc C) (Q := fun x H1 => D.nx (σ.set j (some x)) H1) hc I2 B T st2 f2 hg hif he W w0 turn ?_
  intro C L s' m H' hn fc inv q
  show wpAny _ _ (assign (.Name y py) X.env (.ref L)) _ _ s'
  obtain ⟨oC, es, ep, hoC, hdC, hk⟩ := id hn
  have I3 : Inv X pins σ H' s' := inv s'.heap (Heap.SameBut.refl ..)
  have I4 : Inv X (pins ++ [(C, oC)]) σ H' s' := I3.pins_of fun p hp => by
    rcases List.mem_append.mp hp with z | z
    · exact I3.pin p (List.mem_append_right _ z)
    · have e : p = (C, oC) := by simpa using z
      subst e
      exact ⟨hoC, fc.1, fc.2.1, fc.2.2.1, fun v z => by rw [hdC] at z; cases z⟩
  refine wpAny_assign_Name (store_ok I4 hN hj hy (v := .ref L) rfl (fun s'' I5 => ?_) hf)
  have pC := (I5.pin (C, oC) (List.mem_append_right _ (List.mem_append_right _ List.mem_cons_self))).1
  refine ⟨m, ⟨oC, es, ep, pC, hdC, hk⟩, fun h' hs => ⟨_, H', ?_, q⟩⟩
  exact I5.unpinned.turned (t' := s''.toks) (it := C) (fun b o hb e => (hs.2 b hb).trans e) fc.1 fc.2.1 fc.2.2.2.1 fc.2.2.2.2.1 fc.2.2.2.2.2
end
end L2

namespace L2
open PySem PySem.Spec PyProof.Rows

/-! ### for i, x in enumerate(list) -/
def Ite (K : PySem.W.Frag) (a : Addr) : It :=
  ⟨fun i H => ∃ xs x, SqL K H a xs ∧ xs[i]? = some x, fun i H x H' => ∃ p v, H p = none ∧ x = .ref p ∧ H' = upd H p (.tup [.int (i : Int), v]) ∧ ∀ xs, SqL K H a xs → xs[i]? = some v, fun i H => ∃ xs, SqL K H a xs ∧ xs.length ≤ i⟩
section
variable {X : Cx}
def iEnum (K : PySem.W.Frag) (ta : TA) : TI := fun σ H R => ta σ H fun vs H1 => ∃ a, vs = [.ref a] ∧ (∃ xs, SqL K H1 a xs) ∧ R (Ite K a) H1
/-! ### isinstance -/
theorem call_isinst : CallR X (.builtin "isinstance") (fun xs H Q => ∃ x t c b, xs = [x, .ty c] ∧ TyOf X.K H x t ∧ PySem.W.kitOne X.K t (.type c) = some b ∧ Q (.bl b) H) := by
  intro pins s σ H xs us Q I r h
  obtain ⟨x, t, c, b, e, ty, hk, q⟩ := h
  subst e
  obtain ⟨u, w', rfl, ru, rw'⟩ := vals2 r
  cases rw'
  exact isinst_ok I ru ty hk fun tk => ⟨.bl b, H, I.tok tk, rfl, q⟩

/-! ### == and != of made data -/
mutual
inductive Dp (K : PySem.W.Frag) (H : Hp) : V → PyData → Prop where
  | non : Dp K H .non .none
  | bl (b : Bool) : Dp K H (.bl b) (.bool b)
  | int (i : Int) : Dp K H (.int i) (.int i)
  | str (x : Str) : Dp K H (.str x) (.str x)
  | lst {a : Addr} {xs : List V} {ds : List PyData} : SqL K H a xs → Dps K H xs ds → Dp K H (.ref a) (.list ds)
  | tup {a : Addr} {xs : List V} {ds : List PyData} : SqT K H a xs → Dps K H xs ds → Dp K H (.ref a) (.tuple ds)
inductive Dps (K : PySem.W.Frag) (H : Hp) : List V → List PyData → Prop where
  | nil : Dps K H [] []
  | cons {x : V} {xs : List V} {d : PyData} {ds : List PyData} : Dp K H x d → Dps K H xs ds → Dps K H (x :: xs) (d :: ds)
end
mutual
theorem Dp.reads {pins : List (Addr × Obj)} {σ : St} {H : Hp} {s : Shared} (I : Inv X pins σ H s) : ∀ {x : V} {d : PyData} {u : Value}, Dp X.K H x d → RelV x u → ∃ as, Reads s.heap u d as
  | _, _, _, .non, r => by cases r; exact ⟨_, .none⟩
  | _, _, _, .bl b, r => by cases r; exact ⟨_, .bool b⟩
  | _, _, _, .int i, r => by obtain ⟨t, rfl⟩ := r; exact ⟨_, .int i t⟩
  | _, _, _, .str x, r => by obtain ⟨t, rfl⟩ := r; exact ⟨_, .str x t⟩
  | _, _, _, .lst hq hd, r => by
    cases r
    obtain ⟨its, rv, ⟨o, n, e, c, _, d⟩, _⟩ := I.list hq
    obtain ⟨as, h⟩ := Dps.reads I hd rv
    exact ⟨_, .list e c d (by simpa using h)⟩
  | _, _, _, .tup hq hd, r => by
    cases r
    obtain ⟨its, rv, ⟨o, e, c, n, d⟩, _⟩ := I.tuple hq
    obtain ⟨as, h⟩ := Dps.reads I hd rv
    exact ⟨_, .tuple e c d (by simpa using h)⟩
theorem Dps.reads {pins : List (Addr × Obj)} {σ : St} {H : Hp} {s : Shared} (I : Inv X pins σ H s) : ∀ {xs : List V} {ds : List PyData} {us : List Value}, Dps X.K H xs ds → Vals xs us → ∃ as, ReadsAll s.heap us ds as
  | _, _, _, .nil, .nil => ⟨_, .nil⟩
  | _, _, _, .cons hd ht, .cons r rr => by
    obtain ⟨as, h1⟩ := Dp.reads I hd r
    obtain ⟨bs, h2⟩ := Dps.reads I ht rr
    exact ⟨_, .cons h1 h2⟩
end
/-- data that == can compare -/
abbrev shp (d : PyData) : Bool := SeqAt.shaped d
def rEqD (K : PySem.W.Frag) (neg : Bool) : R2 := fun x y H Q => ∃ d e, Dp K H x d ∧ Dp K H y e ∧ shp d = true ∧ shp e = true ∧ Q (.bl (if neg then !PyData.eqv d e else PyData.eqv d e)) H
theorem op_eqD (hu : X.A.units + 64 < cLine) : OpR X (compareOp .Eq) (rEqD X.K false) := by
  intro pins s σ H x y v u Q I rx ry h
  obtain ⟨d, e, hd, he, sd, se, q⟩ := h
  obtain ⟨as, ra⟩ := hd.reads I rx
  obtain ⟨bs, rb⟩ := he.reads I ry
  exact eq_dataH ra rb sd se hu ⟨.bl _, H, I, rfl, q⟩
/-- the same data on both sides -/
theorem eqD_same {K : PySem.W.Frag} {H : Hp} {x y : V} {d : PyData} {Q : VK} (hx : Dp K H x d) (hy : Dp K H y d) (sd : shp d = true) (q : Q (.bl true) H) : rEqD K false x y H Q :=
  ⟨d, d, hx, hy, sd, sd, by rw [if_neg Bool.false_ne_true, SeqAt.eqv_refl d (SeqAt.canLay_of_shaped sd)]; exact q⟩
theorem dps_ints {K : PySem.W.Frag} {H : Hp} : ∀ ns : List Int, Dps K H (ns.map V.int) (ns.map PyData.int)
  | [] => .nil
  | n :: r => .cons (.int n) (dps_ints r)
theorem dp_ints {K : PySem.W.Frag} {H : Hp} {a : Addr} {ns : List Int} (h : SqL K H a (ns.map V.int)) : Dp K H (.ref a) (.list (ns.map PyData.int)) := .lst h (dps_ints ns)
end
end L2

namespace L2
open PySem PySem.Spec PyProof.Rows
variable [TabPar]

/-! ### defs by name -/
/-- the text has the def x with these parameters -/
def Tx (K : PySem.W.Frag) (mg : Str → Option Value) (x : Str) (ps : List Str) (st : Stmt) : Prop := ∃ f fd, Fun K x x st f fd ∧ Binds K fd ps [] ∧ mg x = some (.ref f)
/-- the def x keeps its promise with k calls -/
def Df (P : Program) (w : World) (K : PySem.W.Frag) (mg : Str → Option Value) (base : Heap) (k : Nat) (x : Str) (ps : List Str) (sp : Sp) : Prop :=
  ∃ f fd, FnOk P w K mg base CX0 k f fd ps sp ∧ Binds K fd ps [] ∧ PySem.W.keepIn K (.ref f) = true ∧ mg x = some (.ref f) ∧ ∃ (oc : Value) (od : Option Addr) (osl : Array (Option Value)), K.lookup f = some ⟨oc, od, .func fd, osl⟩
section
variable {P : Program} {w : World} {K : PySem.W.Frag} {mg : Str → Option Value} {base : Heap} {x : Str} {ps N : List Str} {st : Stmt} {k : Nat} {sp : Sp}
theorem Df.mono {j : Nat} (D : Df P w K mg base j x ps sp) (h : j ≤ k) : Df P w K mg base k x ps sp := by
  obtain ⟨f, fd, F, b, kp, m, z⟩ := D
  exact ⟨f, fd, F.mono h, b, kp, m, z⟩
theorem Tx.ok (T : Tx K mg x ps st) (S : FnScope N ps (defScope st)) (len : ∀ vs H Q E, sp vs H Q E → vs.length = ps.length)
    (hbody : ∀ (f : Addr) (cdv : Value) (A : Around) (outer : List Env) (s : Shared) (H : Hp) (vs : List V) (Q : VK) (E : XK), Room k (A.deeper (envOfC x (defScope st) s.heap.objs.size f cdv)) → sp vs H Q E →
      ∃ t, PSs (cxOf CX0 P w K mg base N x (defScope st) f cdv A outer s H E).nox (defBody st) t ∧ t { nx := fun _ H' => Q .non H', rt := Q } (start N vs) H) : Df P w K mg base (k + 1) x ps sp := by
  obtain ⟨f, fd, F, b, m⟩ := T
  obtain ⟨oc, od, kV, doc, pm, an, cdv, ct, osl, _, lk, _⟩ := F.ex
  exact ⟨f, fd, F.ok S len (hbody f), b, F.kp, m, oc, od, osl, lk⟩
end
section
variable {X : Cx} {k : Nat} {x : Str} {ps : List Str} {sp : Sp} {p pos : Pos} {e : Expr} {es : List Expr} {t : TA}
theorem pe_callD (D : Df X.prog X.w X.K X.mg X.base k x ps sp) (hr : Room k X.A) (hg : Gl X x) (ha : PA X (e :: es) t) (hdb : (x == ("__debug__" : Str)) = false := by decide)
    (he : starEach (e :: es) X.env = (false, eval e X.env) :: starEach es X.env := by rfl) (hpl : (backTo pos (starEach es X.env)).any (·.1) = false := by rfl) :
    PE X (.Call (.Name x p) (e :: es) [] pos) (tCall sp [] E0 t) := by
  obtain ⟨f, fd, F, b, kp, m, _⟩ := D
  exact pe_call F hr hg m kp b .nil pass0 ha hdb he hpl
/-- a number at the module's top -/
def Cst (mg : Str → Option Value) (x : Str) (i : Int) : Prop := ∃ u, mg x = some u ∧ RelV (.int i) u
theorem pe_cst {i : Int} (c : Cst X.mg x i) (hg : Gl X x) (hd : (x == ("__debug__" : Str)) = false := by decide) : PE X (.Name x pos) (tC (.int i)) := by
  obtain ⟨u, hm, r⟩ := c
  exact pe_glob hg hm r hd
end
/-- a new list comes back, all else as it was -/
def retL (H : Hp) (xs : List V) (Q : VK) : Prop := ∀ r H', H r = none → Same H H' → H' r = some (.lst xs) → Q (.ref r) H'

theorem len_filt {α : Type} (P : Nat → Bool) (F : Nat → α) (i : Nat) : (((List.range i).filter P).map F).length ≤ i := by
  rw [List.length_map]
  exact Nat.le_trans (List.length_filter_le _ _) (by rw [List.length_range]; exact Nat.le_refl _)
theorem filt_yes {α : Type} (P : Nat → Bool) (F : Nat → α) (i : Nat) (h : P i = true) : ((List.range (i + 1)).filter P).map F = ((List.range i).filter P).map F ++ [F i] := by
  rw [List.range_succ, List.filter_append, List.map_append]
  simp [h]
theorem filt_no {α : Type} (P : Nat → Bool) (F : Nat → α) (i : Nat) (h : P i = false) : ((List.range (i + 1)).filter P).map F = ((List.range i).filter P).map F := by
  rw [List.range_succ, List.filter_append, List.map_append]
  simp [h]

/-! ### the forms of comprehensions that one uses: place i is kept where P i, and gives F i -/
section
variable {K : PySem.W.Frag} {σ : St} {H : Hp} {Q : VK} {a : Addr} {xs : List V} {tt : TT} {te : TE}
abbrev g2 (K : PySem.W.Frag) : TG := gTup K 2 (gCons (gName 0) (gCons (gName 1) gNil))
theorem comp_range {lo : Int} {n : Nat} (P : Nat → Bool) (F : Nat → V) (hl : n ≤ 1000)
    (step : ∀ (i : Nat) (H1 : Hp) (R : List V → Hp → Prop) ys, i < n → Same H H1 → (∀ H4, Same H1 H4 → P i = true → R (ys ++ [F i]) H4) → (∀ H4, Same H1 H4 → P i = false → R ys H4) →
      tt (some (.int (lo + (i : Int))) :: σ) H1 fun b H3 => if b = true then te (some (.int (lo + (i : Int))) :: σ) H3 fun v H4 => R (ys ++ [v]) H4 else R ys H3)
    (fin : retL H (((List.range n).filter P).map F) Q) : CompEnd (Itr lo n) 1 (gName 0) tt te σ H Q := by
  refine ⟨fun i m ys H1 => m = n - i ∧ i ≤ n ∧ Same H H1 ∧ ys = ((List.range i).filter P).map F, ⟨n, by simp, Nat.zero_le _, Same.refl H, rfl⟩, ?_⟩
  rintro i m ys H1 os hos ⟨rfl, hi, hs, rfl⟩
  by_cases hlt : i < n
  · refine .inr ⟨hlt, small1000 (Nat.le_trans (len_filt P F i) (by omega)), fun ys' H' => Same H H' ∧ ys' = ((List.range (i + 1)).filter P).map F, fun ys' H' ⟨h1, h2⟩ => ⟨n - (i + 1), by omega, rfl, hlt, h1, h2⟩, ?_⟩
    rintro x H' ⟨rfl, rfl⟩
    obtain ⟨o1, rfl⟩ : ∃ o1, os = [o1] := by
      match os, hos with
      | [o1], _ => exact ⟨o1, rfl⟩
    refine ⟨⟨[some (.int (lo + (i : Int)))], rfl, rfl⟩, ?_⟩
    refine step i _ (fun ys' H' => Same H H' ∧ ys' = ((List.range (i + 1)).filter P).map F) (((List.range i).filter P).map F) hlt hs (fun H4 h4 hP => ⟨hs.trans h4, (filt_yes P F i hP).symm⟩) fun H4 h4 hP => ⟨hs.trans h4, (filt_no P F i hP).symm⟩
  · have e : i = n := by omega
    subst e
    exact .inl ⟨Nat.le_refl _, fun D hD => fin D _ (hs.free hD) (hs.trans (same_new hD _)) upd_same⟩
end
theorem filt_all {α : Type} (F : Nat → α) (n : Nat) : ((List.range n).filter fun _ => true).map F = (List.range n).map F := by
  rw [List.filter_eq_self.mpr fun _ _ => rfl]
end L2

namespace L2
open PySem PySem.Spec PyProof.Rows
variable [TabPar]
/-! ### the rules whose reading names the fragment, within a block -/
section
variable {X : Cx} {own : List Str} {scope : Scope} {C : Addr} {s₀ : Shared} {H₀ : Hp} {ex : List Addr}
theorem pg_tupB {pos : Pos} {es : List Expr} {k : Nat} {t : TGs} {n : Nat} (hc : X.calm = true) (h : PGs (blk X own scope C s₀ H₀ ex) es t)
    (hn : (assignEach es (blk X own scope C s₀ H₀ ex).env).length = n := by rfl) (hst : (assignEach es (blk X own scope C s₀ H₀ ex).env).findIdx? (·.1) = none := by rfl) : PG (blk X own scope C s₀ H₀ ex) (.Tuple es k pos) (gTup X.K n t) := pg_tup hc h hn hst
/-- for x, y in: the block's own two names -/
theorem pg2B {x y : Str} {px py pos : Pos} {k : Nat} {zs : List Str} (hc : X.calm = true) (nd : List.Nodup (x :: y :: zs)) (ho : (blk X own scope C s₀ H₀ ex).N = x :: y :: zs := by rfl) (hx : Loc (blk X own scope C s₀ H₀ ex).env.scope x := by exact Or.inl rfl) (hy : Loc (blk X own scope C s₀ H₀ ex).env.scope y := by exact Or.inl rfl)
    (hx' : (blk X own scope C s₀ H₀ ex).env.scope.names.lookup x = some .local := by rfl) (hy' : (blk X own scope C s₀ H₀ ex).env.scope.names.lookup y = some .local := by rfl) : PG (blk X own scope C s₀ H₀ ex) (.Tuple [.Name x px, .Name y py] k pos) (g2 X.K) :=
  pg_tupB (n := 2) hc (pgs_cons (pg_name (i := 0) (by rw [ho]; exact nd) (by rw [ho]; rfl) hx (.inr hx')) (pgs_cons (pg_name (i := 1) (by rw [ho]; exact nd) (by rw [ho]; rfl) hy (.inr hy')) pgs_nil))
/-- for x in: the block's own name -/
theorem pg1B {x : Str} {px : Pos} {zs : List Str} (nd : List.Nodup (x :: zs)) (ho : (blk X own scope C s₀ H₀ ex).N = x :: zs := by rfl) (hx : Loc (blk X own scope C s₀ H₀ ex).env.scope x := by exact Or.inl rfl)
    (hx' : (blk X own scope C s₀ H₀ ex).env.scope.names.lookup x = some .local := by rfl) : PG (blk X own scope C s₀ H₀ ex) (.Name x px) (gName 0) :=
  pg_name (i := 0) (by rw [ho]; exact nd) (by rw [ho]; rfl) hx (.inr hx')
theorem ix_listB : IxR (blk X own scope C s₀ H₀ ex) (rIxL X.K) := ix_list
theorem pe_callDB {k : Nat} {x : Str} {ps : List Str} {sp : Sp} {p pos : Pos} {e : Expr} {es : List Expr} {t : TA} (D : Df X.prog X.w X.K X.mg X.base k x ps sp) (hr : Room k X.A) (hg : Gl (blk X own scope C s₀ H₀ ex) x) (ha : PA (blk X own scope C s₀ H₀ ex) (e :: es) t) (hdb : (x == ("__debug__" : Str)) = false := by decide)
    (he : starEach (e :: es) (blk X own scope C s₀ H₀ ex).env = (false, eval e (blk X own scope C s₀ H₀ ex).env) :: starEach es (blk X own scope C s₀ H₀ ex).env := by rfl) (hpl : (backTo pos (starEach es (blk X own scope C s₀ H₀ ex).env)).any (·.1) = false := by rfl) :
    PE (blk X own scope C s₀ H₀ ex) (.Call (.Name x p) (e :: es) [] pos) (tCall sp [] E0 t) := pe_callD (X := blk X own scope C s₀ H₀ ex) D hr hg ha hdb he hpl
end
section
variable {K : PySem.W.Frag} {σ : St} {H : Hp} {Q : VK} {a : Addr} {xs : List V} {te : TE}
theorem comp_range0 {lo : Int} {n : Nat} (F : Nat → V) (hl : n ≤ 1000)
    (step : ∀ (i : Nat) (H1 : Hp) (R : V → Hp → Prop), i < n → Same H H1 → (∀ H4, Same H1 H4 → R (F i) H4) → te (some (.int (lo + (i : Int))) :: σ) H1 R)
    (fin : retL H ((List.range n).map F) Q) : CompEnd (Itr lo n) 1 (gName 0) tNoIf te σ H Q :=
  comp_range (fun _ => true) F hl (fun i H1 R ys hx hs r1 _ => iteT (B := R ys H1) (step i H1 _ hx hs fun H4 h4 => r1 H4 h4 rfl)) (by rw [filt_all]; exact fin)
end
end L2

namespace L2
open PySem PySem.Spec PyProof.Rows
/-! ### comprehensions by a word of one's own: Pv i ys H -/
section
variable {K : PySem.W.Frag} {σ : St} {H : Hp} {Q : VK} {a : Addr} {xs : List V} {tt : TT} {te : TE}
theorem comp_listR (Pv : Nat → List V → Hp → Prop) (h0 : Pv 0 [] H) (hq : ∀ i ys H1, Pv i ys H1 → SqL K H1 a xs ∧ ys.length ≤ 1000)
    (step : ∀ (i : Nat) (x : V) (ys : List V) (H1 : Hp), xs[i]? = some x → Pv i ys H1 →
      tt (some x :: σ) H1 fun b H3 => if b = true then te (some x :: σ) H3 fun v H4 => Pv (i + 1) (ys ++ [v]) H4 else Pv (i + 1) ys H3)
    (fin : ∀ ys H1 D, Pv xs.length ys H1 → H1 D = none → Q (.ref D) (upd H1 D (.lst ys))) : CompEnd (Itl K a) 1 (gName 0) tt te σ H Q := by
  refine ⟨fun i m ys H1 => m = xs.length - i ∧ i ≤ xs.length ∧ Pv i ys H1, ⟨xs.length, by simp, Nat.zero_le _, h0⟩, ?_⟩
  rintro i m ys H1 os hos ⟨rfl, hi, hP⟩
  have q := (hq i ys H1 hP).1
  by_cases hlt : i < xs.length
  · refine .inr ⟨⟨xs, xs[i], q, by simp [hlt]⟩, small1000 (hq i ys H1 hP).2, fun ys' H' => Pv (i + 1) ys' H', fun ys' H' h1 => ⟨xs.length - (i + 1), by omega, rfl, hlt, h1⟩, ?_⟩
    rintro x H' ⟨rfl, hv⟩
    have hx := hv xs q
    obtain ⟨o1, rfl⟩ : ∃ o1, os = [o1] := by
      match os, hos with
      | [o1], _ => exact ⟨o1, rfl⟩
    refine ⟨⟨[some x], rfl, rfl⟩, ?_⟩
    exact step i x ys _ hx hP
  · have e : i = xs.length := by omega
    subst e
    exact .inl ⟨⟨xs, q, Nat.le_refl _⟩, fun D hD => fin ys _ D hP hD⟩
theorem comp_rangeR {lo : Int} {n : Nat} (Pv : Nat → List V → Hp → Prop) (h0 : Pv 0 [] H) (hq : ∀ i ys H1, Pv i ys H1 → ys.length ≤ 1000)
    (step : ∀ (i : Nat) (ys : List V) (H1 : Hp), i < n → Pv i ys H1 →
      tt (some (.int (lo + (i : Int))) :: σ) H1 fun b H3 => if b = true then te (some (.int (lo + (i : Int))) :: σ) H3 fun v H4 => Pv (i + 1) (ys ++ [v]) H4 else Pv (i + 1) ys H3)
    (fin : ∀ ys H1 D, Pv n ys H1 → H1 D = none → Q (.ref D) (upd H1 D (.lst ys))) : CompEnd (Itr lo n) 1 (gName 0) tt te σ H Q := by
  refine ⟨fun i m ys H1 => m = n - i ∧ i ≤ n ∧ Pv i ys H1, ⟨n, by simp, Nat.zero_le _, h0⟩, ?_⟩
  rintro i m ys H1 os hos ⟨rfl, hi, hP⟩
  by_cases hlt : i < n
  · refine .inr ⟨hlt, small1000 (hq i ys H1 hP), fun ys' H' => Pv (i + 1) ys' H', fun ys' H' h1 => ⟨n - (i + 1), by omega, rfl, hlt, h1⟩, ?_⟩
    rintro x H' ⟨rfl, rfl⟩
    obtain ⟨o1, rfl⟩ : ∃ o1, os = [o1] := by
      match os, hos with
      | [o1], _ => exact ⟨o1, rfl⟩
    refine ⟨⟨[some (.int (lo + (i : Int)))], rfl, rfl⟩, ?_⟩
    exact step i ys _ hlt hP
  · have e : i = n := by omega
    subst e
    exact .inl ⟨Nat.le_refl _, fun D hD => fin ys _ D hP hD⟩
end
theorem Paired.at {α β : Type} {F : α → β → Prop} : ∀ {xs : List α} {ys : List β} {i : Nat} {x : α}, Paired F xs ys → xs[i]? = some x → ∃ y, ys[i]? = some y ∧ F x y
  | _, _, _, _, .nil, e => by simp at e
  | _, _, 0, _, .cons r _, e => by simp at e; subst e; exact ⟨_, rfl, r⟩
  | _, _, i + 1, x, .cons _ t, e => by
    obtain ⟨u, h1, h2⟩ := Paired.at (i := i) (x := x) t (by simpa using e)
    exact ⟨u, by simpa using h1, h2⟩
theorem Paired.append {α β : Type} {F : α → β → Prop} : ∀ {xs xs' : List α} {ys ys' : List β}, Paired F xs ys → Paired F xs' ys' → Paired F (xs ++ xs') (ys ++ ys')
  | _, _, _, _, .nil, h => h
  | _, _, _, _, .cons r t, h => .cons r (Paired.append t h)
theorem Paired.take {α β : Type} {F : α → β → Prop} : ∀ {xs : List α} {ys : List β} (n : Nat), Paired F xs ys → Paired F (xs.take n) (ys.take n)
  | _, _, 0, _ => .nil
  | _, _, _ + 1, .nil => .nil
  | _, _, n + 1, .cons r t => .cons r (Paired.take n t)
end L2

namespace L2
open PySem PySem.Spec PyProof.Rows

/-! ### exceptions that leave a def -/
/-- an exception of the class at C flies; B: what stays while it flies (all but the frames) -/
def CX1 (P : Program) (w : World) : CXT := fun outer H s E e s' => ∃ (ea t C : Addr) (H' : Hp) (B : Heap), e = .ref ea ∧ s'.os = s.os ∧ AllBare s'.gens ∧ Un (frs outer) [] H H' s.heap s'.heap ∧ HOk P w H' B ∧
  Heap.FlyingW B outer ea (.ref C) (.ref t) s'.heap ∧ (∀ b o, s.heap.get? b = some o → H b = none → b ∉ frs outer → B.get? b = some o) ∧ (∀ b o, s.heap.get? b = some o → b ∉ frs outer → ∃ o', B.get? b = some o') ∧ E (.ref C) none H'

section
variable {P : Program} {w : World} {K : PySem.W.Frag} {mg : Str → Option Value} {base : Heap} {N : List Str} {qual : Str} {scope : Scope} {f : Addr} {cd : Value} {A : Around} {outer : List Env} {s : Shared} {H : Hp} {E : XK}
abbrev cx1 (P : Program) (w : World) (K : PySem.W.Frag) (mg : Str → Option Value) (base : Heap) (N : List Str) (qual : Str) (scope : Scope) (f : Addr) (cd : Value) (A : Around) (outer : List Env) (s : Shared) (H : Hp) (E : XK) : Cx :=
  cxOf (CX1 P w) P w K mg base N qual scope f cd A outer s H E

end

/-! ### an own class of errors, as the fragment tells it -/
/-- an error class of the program's own, at C, under ValueError -/
abbrev vBase : List Value := [.type "ValueError", .type "Exception", .type "BaseException", .type "object"]
def ExcC (K : PySem.W.Frag) (mg : Str → Option Value) (x : Str) (C : Addr) : Prop := mg x = some (.ref C) ∧ PySem.W.excIn K C vBase "ValueError.__new__" = true

section
variable {X : Cx} {x : Str} {C : Addr} {e : Expr} {es : List Expr} {t : TA} {np cpos pos : Pos}
def tRaise (ER : Hp → Prop) (t : TA) : TS := fun _ σ H => t σ H fun vs H1 => vs.length ≤ sizeLine ∧ ER H1
end
end L2

namespace L2
open PySem PySem.Spec PyProof.Rows

/-! ### a caught exception, as a tracked thing -/
def ExcAt (C a : Addr) (h : Heap) : Prop := ∃ o vs, h.get? a = some o ∧ o.cls = .ref C ∧ o.data = .fields vs

/-- the same context with other lasting pins and another wish -/
abbrev Cx.pnx (X : Cx) (pn : List (Addr × Obj)) (E : Value → Shared → Prop) : Cx := { X with pn := pn, xe := E }
/-- within an except suite -/
abbrev Cx.suite (X : Cx) (ea : Addr) : Cx := { X with A := X.A.mark (some (.ref ea)), calm := false, xe := fun _ _ => False }
section
variable {X : Cx} {pins : List (Addr × Obj)} {σ : St} {H : Hp} {s : Shared}
theorem Inv.pnx (I : Inv X pins σ H s) (E : Value → Shared → Prop) : Inv (X.pnx (X.pn ++ pins) E) [] σ H s :=
  ⟨⟨I.ok.mod, I.ok.kind, I.ok.glob, I.ok.blt, I.ok.above, I.ok.inj, I.ok.has, I.ok.cab, I.ok.hd, I.ok.frames, I.ok.stk, I.ok.exf, I.ok.bs, I.ok.bsz, I.ok.noex, I.ok.exfs, I.ok.funs, I.ok.frf⟩, I.os, I.bare, I.base, I.loc, I.cell, I.free, I.freeC,
    fun p hp => I.pin p (by have hp' : p ∈ (X.pn ++ pins) ++ [] := hp; rw [List.append_nil] at hp'; exact hp'), I.hok, I.len⟩
theorem Inv.suite (I : Inv X pins σ H s) (ea : Addr) : Inv (X.suite ea) pins σ H s :=
  ⟨⟨I.ok.mod, I.ok.kind, I.ok.glob, I.ok.blt, I.ok.above, I.ok.inj, I.ok.has, I.ok.cab, fun h => absurd h Bool.false_ne_true, I.ok.frames, I.ok.stk, I.ok.exf, I.ok.bs, I.ok.bsz, I.ok.noex, I.ok.exfs, I.ok.funs, I.ok.frf⟩, I.os, I.bare, I.base, I.loc, I.cell, I.free, I.freeC, I.pin, I.hok, I.len⟩
end
end L2

namespace L2
open PySem PySem.Spec PyProof.Rows

/-! ### try: body; except CLASS as name: suite, where the suite gives back -/
section
variable {X : Cx} {x n : Str} {C0 : Addr} {np hpos pos : Pos} {body suite : List Stmt} {b0 : Stmt} {j : Nat} {ts : TS} {tb : XK → TS}
/-- what is wanted of an exception of the body: the class is caught, and the suite is read at the new name -/
def eTry (K : PySem.W.Frag) (C0 : Addr) (len j : Nat) (ts : TS) (rt : VK) : XK := fun cls _ H' => ∃ C, cls = .ref C ∧ PySem.W.exmOne K (.ref C) (.ref C0) = some true ∧
  ∀ ea (σ' : St), H' ea = none → σ'.length = len → ts { nx := fun _ _ => False, rt := rt } (σ'.set j (some (.ref ea))) (upd H' ea (.ext (ExcAt C ea)))
def tTry (K : PySem.W.Frag) (C0 : Addr) (len j : Nat) (tb : XK → TS) (ts : TS) : TS := fun D σ H => tb (eTry K C0 len j ts D.rt) D σ H
end
end L2

namespace L2
open PySem PySem.Spec PyProof.Rows

/-! ### isinstance of an exception of an own class -/
structure ExcK (K : PySem.W.Frag) (C : Addr) : Prop where
  ga : PySem.W.findIn K (.ref C) "__getattribute__" = some (some (.builtin "BaseException.__getattribute__"))
  gt : PySem.W.findIn K (.ref C) "__getattr__" = some none
  cl : PySem.W.findIn K (.ref C) "__class__" = some (some (.builtin "object.__class__"))
  ob : PySem.W.mroIn K C (.type "object") = some true
  be : PySem.W.mroIn K C (.type "BaseException") = some true
section
variable {prog : Program} {w : World} {A : Around} {E : Value → Shared → Prop} {K : PySem.W.Frag} {h : Heap} {g : Array GenState} {d : Drawn} {t : Nat} {os : OsState} {a C : Addr} {o : Obj}
end
end L2

namespace L2
open PySem PySem.Spec PyProof.Rows

/-! ### isinstance(e, C) of a caught exception -/
/-- the class, or the type, that stands behind isinstance's comma -/
def clsV : V → Option Value
  | .ref a => some (.ref a)
  | .ty n => some (.type n)
  | _ => none
section
variable {X : Cx}
/-! ### xs.count(y), xs.index(y) of flat items -/
theorem count_eqU {x : V} : ∀ {xs : List V} {us : List Value}, Vals xs us → xs.all flatV = true → us.countP (eqU x) = xs.countP fun y => eqV y x
  | _, _, .nil, _ => rfl
  | _, _, .cons r t, f => by
    rw [List.all_cons, Bool.and_eq_true] at f
    rw [List.countP_cons, List.countP_cons, count_eqU t f.2, eqU_of r f.1]
def rCount (K : PySem.W.Frag) : V → List V → Hp → VK → Prop := fun x vs H Q => ∃ l xs y, x = .ref l ∧ vs = [y] ∧ SqL K H l xs ∧ flatV y = true ∧ xs.all flatV = true ∧ Q (.int (xs.countP fun z => eqV z y : Nat)) H
theorem mt_count : MtR X "list.count" (rCount X.K) := by
  intro pins s σ H x vs v us Q I rx rv h
  obtain ⟨l, xs, y, e1, e2, hq, fy, fx, q⟩ := h
  subst e1 e2
  cases rx
  obtain ⟨u, rfl, ru⟩ := vals1 rv
  obtain ⟨its, rt, ⟨⟨c, dd, dt, sl⟩, n, ho, hc, hdd, hd⟩, _⟩ := I.list hq
  replace hc : c = .type "list" := hc
  replace hd : dt = .seq its.toArray n := hd
  subst hc hd
  refine call_meets PySem.F.slot_list_count ⟨_, ho, rfl⟩ PySem.F.entry_list_count (PySem.F.args_list_count_2 _ _) (SeqAt.list_countAt l its.toArray n dd sl u (eqU y)) ⟨ho, fun z hz => mem_eqAt ru fy rt fx z (by simpa using hz), ?_⟩
  rw [show its.toArray.toList = its from rfl, count_eqU rt fx]
  exact ⟨.int _, H, I.tok _, ⟨_, rfl⟩, q⟩
def rIndex (K : PySem.W.Frag) : V → List V → Hp → VK → Prop := fun x vs H Q => ∃ l xs y j z, x = .ref l ∧ vs = [y] ∧ SqL K H l xs ∧ flatV y = true ∧ xs.all flatV = true ∧ xs.length ≤ 1000 ∧ xs[j]? = some z ∧ eqV z y = true ∧ (∀ (i : Nat) z', i < j → xs[i]? = some z' → eqV z' y = false) ∧ Q (.int (j : Nat)) H
end

/-! ### defs that may raise -/
def Df1 (P : Program) (w : World) (K : PySem.W.Frag) (mg : Str → Option Value) (base : Heap) (k : Nat) (x : Str) (ps : List Str) (sp : Sp) : Prop :=
  ∃ f fd, FnOk P w K mg base (CX1 P w) k f fd ps sp ∧ Binds K fd ps [] ∧ PySem.W.keepIn K (.ref f) = true ∧ mg x = some (.ref f)
section
variable {P : Program} {w : World} {K : PySem.W.Frag} {mg : Str → Option Value} {base : Heap} {x : Str} {ps N : List Str} {st : Stmt} {k : Nat} {sp : Sp}
theorem Df1.mono {j : Nat} (D : Df1 P w K mg base j x ps sp) (h : j ≤ k) : Df1 P w K mg base k x ps sp := by
  obtain ⟨f, fd, F, b, z⟩ := D
  exact ⟨f, fd, F.mono h, b, z⟩
end
section
variable {X : Cx} {k : Nat} {x : Str} {ps : List Str} {sp : Sp} {p pos : Pos} {e : Expr} {es : List Expr} {t : TA} {E : XK}
end

/-! ### defs that are called in an except suite -/
structure RoomH (k : Nat) (A : Around) : Prop where
  dp : A.depth + 3 * k + 5 < recursionLimit
  un : A.units + 16 * k + 200 < cLine
theorem Room.h {k : Nat} {A : Around} (r : Room k A) (v : Value) : RoomH k (A.mark (some v)) := ⟨r.dp, r.un⟩
theorem RoomH.deeper {k : Nat} {A : Around} (r : RoomH (k + 1) A) (env : Env) : RoomH k (A.deeper env) :=
  ⟨by have := r.dp; show A.depth + 1 + 3 * k + 5 < _; omega, by have := r.un; show A.units + 3 + 16 * k + 200 < _; omega⟩
theorem RoomH.units {k : Nat} {A : Around} (r : RoomH k A) : A.units + 64 < cLine := by have := r.un; omega
structure FnOkH (P : Program) (w : World) (K : PySem.W.Frag) (mg : Str → Option Value) (base : Heap) (k : Nat) (f : Addr) (fd : FuncData) (ps : List Str) (sp : Sp) : Prop where
  len : ∀ vs H Q E, sp vs H Q E → vs.length = ps.length
  run : ∀ (A : Around) (outer : List Env) (s : Shared) (H : Hp) (args : Args) (us : List Value) (vs : List V) (Q : VK) (E : XK), RoomH k A → Env0 P w K mg base A outer s H → BindsTo s fd args (ps.zip us) → Vals vs us → sp vs H Q E →
    codeAny (model P w) A (.call (.ref f) args) (CR CX0 outer P w H s Q E) s
def DfH (P : Program) (w : World) (K : PySem.W.Frag) (mg : Str → Option Value) (base : Heap) (k : Nat) (x : Str) (ps : List Str) (sp : Sp) : Prop :=
  ∃ f fd, FnOkH P w K mg base k f fd ps sp ∧ Binds K fd ps [] ∧ PySem.W.keepIn K (.ref f) = true ∧ mg x = some (.ref f)
/-- the context of such a def's body -/
abbrev cxH (P : Program) (w : World) (K : PySem.W.Frag) (mg : Str → Option Value) (base : Heap) (N : List Str) (qual : Str) (scope : Scope) (f : Addr) (cd : Value) (A : Around) (outer : List Env) (s : Shared) (H : Hp) : Cx :=
  { (cxOf CX0 P w K mg base N qual scope f cd A outer s H E0).nox with calm := false }
section
variable {P : Program} {w : World} {K : PySem.W.Frag} {mg : Str → Option Value} {base : Heap} {x : Str} {ps N : List Str} {st : Stmt} {k : Nat} {sp : Sp}
end
section
variable {X : Cx} {k : Nat} {x : Str} {ps : List Str} {sp : Sp} {p pos : Pos} {e : Expr} {es : List Expr} {t : TA}
end
end L2

namespace L2
open PySem PySem.Spec PyProof.Rows

/-! ### sum -/
theorem preSum_take (ns : List Int) : ∀ j, j ≤ ns.length → preSum (fun i => ns.getD i 0) j = (ns.take j).sum
  | 0, _ => by simp [preSum]
  | j + 1, h => by
    have ih := preSum_take ns j (by omega)
    have hj : j < ns.length := by omega
    unfold preSum
    rw [ih, List.take_add_one, List.getElem?_eq_getElem hj, List.sum_append]
    simp [List.getD_eq_getElem?_getD, List.getElem?_eq_getElem hj]
theorem sum_nn : ∀ {ns : List Int}, (∀ n ∈ ns, 0 ≤ n) → 0 ≤ ns.sum
  | [], _ => by simp
  | n :: r, h => by
    have h1 := h n List.mem_cons_self
    have h2 := sum_nn fun x hx => h x (List.mem_cons_of_mem _ hx)
    rw [List.sum_cons]
    omega
theorem sum_take_le {ns : List Int} (h : ∀ n ∈ ns, 0 ≤ n) (j : Nat) : (ns.take j).sum ≤ ns.sum := by
  have e : ns.sum = (ns.take j).sum + (ns.drop j).sum := by rw [← List.sum_append, List.take_append_drop]
  have := sum_nn fun x (hx : x ∈ ns.drop j) => h x (List.mem_of_mem_drop hx)
  omega
theorem getD_nn {ns : List Int} (h : ∀ n ∈ ns, 0 ≤ n) (j : Nat) : 0 ≤ ns.getD j 0 := by
  rw [List.getD_eq_getElem?_getD]
  cases e : ns[j]? with
  | none => simp
  | some n => exact h n (List.mem_of_getElem? e)
theorem ints_at {ns : List Int} {its : List Value} (r : Vals (ns.map V.int) its) {i : Nat} {v : Value} (h : its.toArray[i]? = some v) : ∃ t, v = .int (ns.getD i 0) t := by
  have h' : its[i]? = some v := by simpa using h
  have hl := r.length
  rw [List.length_map] at hl
  have hi : i < ns.length := by rw [hl]; exact (List.getElem?_eq_some_iff.mp h').1
  obtain ⟨u, hu, t, rfl⟩ := r.get (i := i) (x := .int ns[i]) (by rw [List.getElem?_map, List.getElem?_eq_getElem hi]; rfl)
  rw [h'] at hu
  cases hu
  exact ⟨t, by rw [List.getD_eq_getElem?_getD, List.getElem?_eq_getElem hi]; rfl⟩
section
variable {X : Cx}
def rSum (K : PySem.W.Frag) : List V → Hp → VK → Prop := fun xs H Q => ∃ (p : Addr) (ns : List Int), xs = [.ref p] ∧ (SqL K H p (ns.map V.int) ∨ SqT K H p (ns.map V.int)) ∧ (∀ n ∈ ns, 0 ≤ n) ∧ ns.sum < 2 ^ 62 ∧ Q (.int ns.sum) H
theorem call_sum (hc : X.calm = true) : CallR X (.builtin "sum") (rSum X.K) := by
  intro pins s σ H xs us Q I r h
  obtain ⟨p, ns, rfl, hq, nn, hs, q⟩ := h
  obtain ⟨u, rfl, rx⟩ := vals1 r
  cases rx
  have fit : ∀ j, j < ns.length → InLong ((fun i => ns.getD i 0) j) ∧ InLong (preSum (fun i => ns.getD i 0) (j + 1)) := fun j hj => by
    have h1 := getD_nn nn j
    have h2 := sum_take_le nn (j + 1)
    have h3 := sum_nn fun x (hx : x ∈ ns.take (j + 1)) => nn x (List.mem_of_mem_take hx)
    have h4 : ns.getD j 0 ≤ (ns.take (j + 1)).sum := by
      have h5 := sum_nn fun x (hx : x ∈ ns.take j) => nn x (List.mem_of_mem_take hx)
      rw [List.take_add_one, List.getElem?_eq_getElem hj, List.sum_append]
      simp [List.getD_eq_getElem?_getD, List.getElem?_eq_getElem hj]
      omega
    rw [preSum_take ns (j + 1) (by omega)]
    refine ⟨⟨?_, ?_⟩, ?_, ?_⟩
    · show -(2 ^ 63) ≤ ns.getD j 0; omega
    · show ns.getD j 0 < 2 ^ 63; omega
    · omega
    · omega
  rcases hq with hq | hq
  · obtain ⟨its, r', pl, hz⟩ := I.list hq
    have hlen := r'.length
    rw [List.length_map] at hlen
    have hls := pl.isList
    have hlt : p < s.heap.objs.size := by obtain ⟨_, e, _⟩ := id hls; exact Heap.lt_size e
    refine call_sum_walk (wpAny_pyIter_list hls ?_)
    refine ⟨_, [s.heap.objs.size, p], [s.heap.objs.size], its.toArray.size, _, _, fun i => ns.getD i 0, rfl, Walks.list (A := X.A.in1) (I.ok.hd hc) _ p (Nat.ne_of_lt hlt) its.toArray, ⟨⟨_, Heap.get?_push_size _ rfl, rfl, rfl⟩, hls.push _⟩, fun b hb => ?_, fun i v hv => ints_at r' hv, fun j hj => fit j (by rw [List.size_toArray] at hj; omega), fun h' tk t' hk => ?_⟩
    · show b < (s.heap.push _).objs.size
      rw [Heap.size_push]
      rcases List.mem_cons.mp hb with rfl | hb
      · exact Nat.lt_succ_self _
      · rcases List.mem_cons.mp hb with rfl | hb
        · exact Nat.lt_succ_of_lt hlt
        · cases hb
    · have old : ∀ b o, s.heap.get? b = some o → h'.get? b = some o := fun b o e => hk b o (fun z => absurd (Heap.lt_size e) (by rw [List.mem_singleton.mp z]; exact Nat.lt_irrefl _)) (Heap.get?_push_of_some _ e)
      refine ⟨.int ns.sum, H, I.kept (t' := tk) old, ⟨t', ?_⟩, q⟩
      rw [List.size_toArray, ← hlen, preSum_take ns ns.length (Nat.le_refl _), List.take_length]
  · obtain ⟨its, r', pl, hz⟩ := I.tuple hq
    have hlen := r'.length
    rw [List.length_map] at hlen
    have hlt : p < s.heap.objs.size := by obtain ⟨_, e, _⟩ := id pl; exact Heap.lt_size e
    refine call_sum_walk (wpAny_pyIter_tuple pl ?_)
    refine ⟨_, [s.heap.objs.size, p], [s.heap.objs.size], its.toArray.size, _, _, fun i => ns.getD i 0, rfl, Walks.tuple (A := X.A.in1) (I.ok.hd hc) _ p (Nat.ne_of_lt hlt) its.toArray, ⟨⟨_, Heap.get?_push_size _ rfl, rfl, rfl⟩, pl.push _⟩, fun b hb => ?_, fun i v hv => ints_at r' hv, fun j hj => fit j (by rw [List.size_toArray] at hj; omega), fun h' tk t' hk => ?_⟩
    · show b < (s.heap.push _).objs.size
      rw [Heap.size_push]
      rcases List.mem_cons.mp hb with rfl | hb
      · exact Nat.lt_succ_self _
      · rcases List.mem_cons.mp hb with rfl | hb
        · exact Nat.lt_succ_of_lt hlt
        · cases hb
    · have old : ∀ b o, s.heap.get? b = some o → h'.get? b = some o := fun b o e => hk b o (fun z => absurd (Heap.lt_size e) (by rw [List.mem_singleton.mp z]; exact Nat.lt_irrefl _)) (Heap.get?_push_of_some _ e)
      refine ⟨.int ns.sum, H, I.kept (t' := tk) old, ⟨t', ?_⟩, q⟩
      rw [List.size_toArray, ← hlen, preSum_take ns ns.length (Nat.le_refl _), List.take_length]
variable {own : List Str} {scope : Scope} {C : Addr} {s₀ : Shared} {H₀ : Hp} {ex : List Addr}
theorem call_sumB (hc : X.calm = true) : CallR (blk X own scope C s₀ H₀ ex) (.builtin "sum") (rSum X.K) := call_sum (X := blk X own scope C s₀ H₀ ex) hc
theorem mt_countB : MtR (blk X own scope C s₀ H₀ ex) "list.count" (rCount X.K) := mt_count
end
end L2

namespace L2
open PySem PySem.Spec PyProof.Rows

/-! ### a lambda's frame -/
abbrev lamEnv (X : Cx) (qual : Str) (scope : Scope) (L f : Addr) (cd : Value) : Env := PySem.W.envX qual scope L f cd (clOf X.env.cells scope.names [])
def lamC (X : Cx) (own : List Str) (qual : Str) (scope : Scope) (f : Addr) (cd : Value) (A : Around) (s : Shared) (H : Hp) : Cx :=
  { X with A := A.deeper (lamEnv X qual scope s.heap.objs.size f cd), N := own ++ X.N, s₀ := s, H₀ := H, env := lamEnv X qual scope s.heap.objs.size f cd, outer := X.stack, stack := lamEnv X qual scope s.heap.objs.size f cd :: X.stack, ex := [], fn := fun _ => false, calm := true, pn := [], xe := fun _ _ => False }
section
variable {X : Cx} {pins : List (Addr × Obj)} {σ : St} {H : Hp} {s : Shared} {x : Str} {qual : Str} {scope : Scope} {f : Addr} {cd : Value} {A : Around}
theorem lam_inv {v : V} {u : Value} {h1 : Heap} {m : Str → Option Value} {tk : Nat} (I : Inv X pins σ H s) (B : BlkScope X [x] scope) (hxl : scope.names.lookup x = some .local) (hfr : A.frames = X.A.frames) (hh : A.handled = none)
    (hns : h1.Ns s.heap.objs.size m) (hm : m x = some u) (old : ∀ b o, s.heap.get? b = some o → h1.get? b = some o) (rv : RelV v u) :
    Inv (lamC X [x] qual scope f cd A s H) [] (some v :: σ) H { s with heap := h1, toks := tk } := by
  have look : ∀ x c, (clOf X.env.cells scope.names []).lookup x = some c → X.env.cells.lookup x = some c := fun x c h => by
    rcases clOf_look _ _ _ _ _ h with q | q
    · simp at q
    · exact q
  have noA : ∀ b : Addr, b ∉ (lamC X [x] qual scope f cd A s H).ex := fun b z => absurd (show b ∈ ([] : List Addr) from z) (by simp)
  refine ⟨⟨I.ok.mod, B.kind, rfl, rfl, Nat.le_refl _, fun y z c h1 h2 => I.ok.inj y z c (look y c h1) (look z c h2), fun y hy => ?_, fun y c h => absurd h Bool.false_ne_true, fun _ => hh, Around.frames_deeper (hfr.trans I.ok.frames), .inr ⟨rfl, rfl⟩, fun b z => absurd z (noA b),
      I.bs, Nat.le_trans I.ok.bsz I.sz, fun b _ _ => noA b, fun b z => absurd z (noA b), I.stack, I.stkFree⟩,
    rfl, I.bare, Un.kept old, ⟨m, hns, fun i y w e1 e2 e3 => ?_⟩, fun y c e => ?_, I.hok.fresh (Nat.le_refl _), fun y c e => I.freeC y c (look y c e), fun p hp => absurd (show p ∈ ([] : List (Addr × Obj)) from hp) (by simp), I.hok.kept old, ?_⟩
  · have hy' : scope.names.lookup y = some .cell ∨ scope.names.lookup y = some .free := hy
    rcases hy' with q | q
    · exact absurd rfl (B.nocell _ (PySem.mem_of_lookup q))
    · have hm := PySem.mem_of_lookup q
      obtain ⟨c, hc⟩ := I.ok.has y (B.free _ hm rfl)
      exact ⟨c, clOf_has _ _ _ _ _ hc hm⟩
  · have e3' : scope.names.lookup y = some .local ∨ scope.names.lookup y = some .cell ∨ scope.names.lookup y = some .free := e3
    cases i with
    | zero =>
      have hy : x = y := by
        have q : ([x] ++ X.N)[0]? = some y := e1
        simpa using q
      subst hy
      have hv : v = w := by simpa using e2
      subst hv
      exact ⟨u, rv, .inl ⟨hxl, hm⟩⟩
    | succ i =>
      have e1' : X.N[i]? = some y := by simpa [lamC] using e1
      have e2' : σ[i]? = some (some w) := by simpa using e2
      rcases e3' with z | z | z
      · exact absurd (List.mem_of_getElem? e1') (B.loc _ (PySem.mem_of_lookup z) rfl)
      · exact absurd rfl (B.nocell _ (PySem.mem_of_lookup z))
      · have hmem := PySem.mem_of_lookup z
        have hx := B.free _ hmem rfl
        have vis : Vis X.env.scope y := by
          rcases hx with q | q
          · exact .inr (.inl q)
          · exact .inr (.inr q)
        obtain ⟨mX, hnX, hlX⟩ := I.loc
        obtain ⟨u', r, l⟩ := hlX _ y w e1' e2' vis
        refine ⟨u', r, .inr ⟨.inr z, ?_⟩⟩
        rcases l with ⟨q, _⟩ | ⟨_, c, hc, hcell⟩
        · rw [q] at hx
          rcases hx with y | y <;> cases y
        · exact ⟨c, clOf_has _ _ _ _ _ hc hmem, hcell.keeps old⟩
  · obtain ⟨v', hv⟩ := I.cell y c (look y c e)
    exact ⟨v', hv.keeps old⟩
  · show (some v :: σ).length = ([x] ++ X.N).length
    rw [List.length_cons, I.len]
    simp

theorem lam_call {name : Str} {params : Arguments} {body : Expr} {pm ctv : Value} {c' : Addr} {v : V} {u : Value} {te : TE} {Q : VK} {E : Value → Shared → Prop} (I : Inv X pins σ H s) (B : BlkScope X [x] scope) (hxl : scope.names.lookup x = some .local)
    (hco : scope.isCoroutine = false) (hgen : scope.isGenerator = false) (hfr : A.frames = X.A.frames) (hh : A.handled = none) (hroom : A.depth < recursionLimit)
    (ho : s.heap.get? f = some (PySem.W.kla_obj name qual params body scope (clOf X.env.cells scope.names []) pm c' ctv)) (hcd : s.heap.CodeRec (.ref c') qual)
    (hb : bindArgs (PySem.W.kla_fn name qual params body scope (clOf X.env.cells scope.names []) pm (.ref c') ctv) ⟨[u], []⟩ = pure [(x, u)])
    (he : PE (lamC X [x] qual scope f (.ref c') A s H) body te) (rv : RelV v u) (hq : te (some v :: σ) H Q) :
    wpAny (model X.prog X.w) A (call (.ref f) [u]) (CE X.stack X.prog X.w H s Q) E s := by
  refine wpAny_call (PySem.W.kla_callFunE hroom ho rfl hco hgen rfl hcd ?_)
  rw [hb]
  refine wpAny_pure (wpAny_newFunctionEnv B.nocell (fun y hy => ?_) (fun h1 hns hsb => ⟨I.nolimit.fresh _ hsb, ?_⟩) B.kind)
  · have e : y = (x, u) := by simpa using hy
    subst e
    exact hxl
  show codeAny _ _ (.expr body (lamEnv X qual scope s.heap.objs.size f (.ref c'))) _ _
  have old : ∀ b o, s.heap.get? b = some o → h1.get? b = some o := fun b o e => hsb.extBut b o (Nat.ne_of_lt (Heap.lt_size e)) (Heap.get?_push_of_some _ e)
  refine PySem.W.kla_codeExpr (wpAny_mono (he [] _ (some v :: σ) H Q (lam_inv I B hxl hfr hh hns (by simp) old rv) hq) (fun u' s' h' => ?_) fun _ _ z => z.elim)
  obtain ⟨v', H', J, r, q⟩ := h'
  exact ⟨v', H', J.os, J.bare, J.base, J.hok, r, q⟩
end
end L2

namespace L2
open PySem PySem.Spec PyProof.Rows

section
variable {X : Cx} {pins : List (Addr × Obj)} {σ : St} {x : Str} {qual name : Str} {scope : Scope} {params : Arguments} {body : Expr} {pm ctv : Value} {c' f a it S : Addr} {xs : List V} {te : TE} {Q : VK} {R : Result → Shared → Prop}
/-- what is fixed through the turns of min(xs, key = f) -/
structure MinFix (X : Cx) (pins : List (Addr × Obj)) (x qual name : Str) (scope : Scope) (params : Arguments) (body : Expr) (pm ctv : Value) (c' f it S : Addr) (te : TE) : Prop where
  blk : BlkScope X [x] scope
  xl : scope.names.lookup x = some .local
  co : scope.isCoroutine = false
  gen : scope.isGenerator = false
  hh : X.A.handled = none
  room : X.A.depth < recursionLimit
  bind : ∀ u, bindArgs (PySem.W.kla_fn name qual params body scope (clOf X.env.cells scope.names []) pm (.ref c') ctv) ⟨[u], []⟩ = pure [(x, u)]
  fpin : (f, PySem.W.kla_obj name qual params body scope (clOf X.env.cells scope.names []) pm c' ctv) ∈ pins
  run : ∀ s H, PE (lamC X [x] qual scope f (.ref c') X.A.in1 s H) body te
  ne : it ≠ S
  fp : ∀ (H : Hp) b, b ∈ [it, S] → H b = none → FpOk X pins H b
/-- between two turns: the code stands, the iterator stands at j, S holds the best and its key -/
def MinAt (X : Cx) (pins : List (Addr × Obj)) (σ : St) (qual : Str) (c' a it S : Addr) (xs : List V) (j : Nat) (arr : Array Value) (H : Hp) (s : Shared) : Prop :=
  Inv X pins σ H s ∧ (∀ b ∈ [it, S], H b = none) ∧ SqL X.K H a xs ∧ H c' = some (codeX c' qual) ∧ s.heap.IsListIter it a j ∧ ∃ c, s.heap.get? S = some (seqObj "list" arr c)

/-- the key of the j-th -/
theorem min_key {j : Nat} {H : Hp} {s : Shared} {arr : Array Value} {v : V} {u : Value} {E : Value → Shared → Prop} (F : MinFix X pins x qual name scope params body pm ctv c' f it S te) (M : MinAt X pins σ qual c' a it S xs j arr H s) (rv : RelV v u)
    (hq : te (some v :: σ) H Q) (hkeep : ∀ y H', Q y H' → SqL X.K H' a xs ∧ H' c' = some (codeX c' qual)) :
    wpAny (model X.prog X.w) X.A.in1 (call (.ref f) [u]) (fun u' s' => ∃ y H', RelV y u' ∧ Q y H' ∧ MinAt X pins σ qual c' a it S xs j arr H' s') E s := by
  obtain ⟨I, fr, hl, hc, st, c, hS⟩ := M
  have cd : s.heap.CodeRec (.ref c') qual := (I.hok c' _ hc).1
  obtain ⟨oi, ei, ci, di⟩ := id st
  have I2 : Inv X (pins ++ pinsAt [it, S] s.heap) σ H s := I.pinned (fun b hb => F.fp H b hb (fr b hb)) fun b hb => by
    rcases List.mem_cons.mp hb with e | hb
    · rw [e]
      exact ⟨oi, ei, fun v z => by rw [di] at z; cases z⟩
    · rw [List.mem_singleton.mp hb]
      exact ⟨_, hS, fun v z => by cases z⟩
  have ho := (I.pin _ (List.mem_append_right _ F.fpin)).1
  refine wpAny_mono (lam_call I2 F.blk F.xl F.co F.gen rfl F.hh F.room ho cd (F.bind u) (F.run s H) rv hq) (fun u' s' h => ?_) fun _ _ z => z
  obtain ⟨y, H', I3, r, q⟩ := I2.after h
  have pin3 : ∀ b o, b ∈ [it, S] → s.heap.get? b = some o → s'.heap.get? b = some o ∧ H' b = none := fun b o hb e => by
    have z := I3.pin (b, o) (List.mem_append_right _ (List.mem_append_right _ (mem_pinsAt hb e)))
    exact ⟨z.1, z.2.1⟩
  have pi := pin3 it oi (by simp) ei
  have pS := pin3 S _ (by simp) hS
  obtain ⟨k1, k2⟩ := hkeep y H' q
  refine ⟨y, H', r, q, I3.unpinned, fun b hb => ?_, k1, k2, ⟨oi, pi.1, ci, di⟩, c, pS.1⟩
  rcases List.mem_cons.mp hb with e | hb
  · rw [e]; exact pi.2
  · rw [List.mem_singleton.mp hb]; exact pS.2
/-- S is written -/
theorem min_put {j : Nat} {H : Hp} {s : Shared} {arr : Array Value} (g : Array Value) (F : MinFix X pins x qual name scope params body pm ctv c' f it S te) (M : MinAt X pins σ qual c' a it S xs j arr H s) :
    MinAt X pins σ qual c' a it S xs j g H { s with heap := s.heap.update S (Obj.mapSeq fun _ => g) } := by
  obtain ⟨I, fr, hl, hc, st, c, hS⟩ := M
  have s1 := Heap.SameBut.update s.heap S (Obj.mapSeq fun _ => g)
  obtain ⟨f0, f1, f2, f3, f4, f5⟩ := F.fp H S (by simp) (fr S (by simp))
  obtain ⟨oi, ei, ci, di⟩ := st
  exact ⟨I.turned (t' := s.toks) (it := S) (fun b o hb e => (s1.2 b hb).trans e) f0 f1 f3 f4 f5, fr, hl, hc, ⟨oi, (s1.2 it F.ne).trans ei, ci, di⟩, _, get?_update_seq hS fun _ => g⟩
/-- the iterator turns -/
theorem min_next {j : Nat} {H : Hp} {s : Shared} {arr : Array Value} {v : V} {Q : Option Value → Shared → Prop} {E : Value → Shared → Prop} (F : MinFix X pins x qual name scope params body pm ctv c' f it S te) (M : MinAt X pins σ qual c' a it S xs j arr H s) (hv : xs[j]? = some v)
    (hQ : ∀ u s', RelV v u → MinAt X pins σ qual c' a it S xs (j + 1) arr H s' → Q (some u) s') : wpAny (model X.prog X.w) X.A.in1 (pyNext (.ref it)) Q E s := by
  obtain ⟨I, fr, hl, hc, st, c, hS⟩ := M
  obtain ⟨its, r, pl, hz⟩ := I.list hl
  obtain ⟨u, hu, ru⟩ := r.get hv
  obtain ⟨f0, f1, f2, f3, f4, f5⟩ := F.fp H it (by simp) (fr it (by simp))
  refine wpAny_pyNext_list_item st pl.isList (x := u) (by simpa using hu) fun h' st' sb => hQ u _ ru ?_
  exact ⟨I.turned (t' := s.toks) (it := it) (fun b o hb e => (sb.2 b hb).trans e) f0 f1 f3 f4 f5, fr, hl, hc, st', c, (sb.2 S (Ne.symm F.ne)).trans hS⟩
/-- .. and ends -/
theorem min_stop {j : Nat} {H : Hp} {s : Shared} {arr : Array Value} {Q : Option Value → Shared → Prop} {E : Value → Shared → Prop} (F : MinFix X pins x qual name scope params body pm ctv c' f it S te) (M : MinAt X pins σ qual c' a it S xs j arr H s) (hj : xs.length ≤ j)
    (hQ : ∀ s', Inv X pins σ H s' → (∀ b ∈ [it, S], H b = none) → (∃ c, s'.heap.get? S = some (seqObj "list" arr c)) → Q none s') : wpAny (model X.prog X.w) X.A.in1 (pyNext (.ref it)) Q E s := by
  obtain ⟨I, fr, hl, hc, st, c, hS⟩ := M
  obtain ⟨its, r, pl, hz⟩ := I.list hl
  have hlen := r.length
  obtain ⟨f0, f1, f2, f3, f4, f5⟩ := F.fp H it (by simp) (fr it (by simp))
  refine wpAny_pyNext_list_end F.hh st pl.isList (by simp; omega) fun h' eb => hQ _ ?_ fr ⟨c, eb S _ (Ne.symm F.ne) hS⟩
  exact I.turned (t' := s.toks) (it := it) (fun b o hb e => eb b o hb e) f0 f1 f3 f4 f5

theorem min_loop (F : MinFix X pins x qual name scope params body pm ctv c' f it S te) (W : Nat → V → Int → Hp → Prop)
    (hW : ∀ j vb k H, W j vb k H → SqL X.K H a xs ∧ H c' = some (codeX c' qual))
    (step : ∀ j vb k H y, W j vb k H → xs[j]? = some y → te (some y :: σ) H fun z H' => ∃ k', z = .int k' ∧ W (j + 1) (if k' < k then y else vb) (if k' < k then k' else k) H')
    (fin : ∀ vb k H, W xs.length vb k H → Q vb H) (hR : ∀ u s', EP X pins σ Q u s' → R (.ok (.ret u)) s') :
    ∀ (r j : Nat) (vb : V) (ub : Value) (k : Int) (tb : Tok) (H : Hp) (s : Shared), xs.length - j = r → j ≤ xs.length → RelV vb ub → W j vb k H → MinAt X pins σ qual c' a it S xs j #[ub, .int k tb] H s →
      codeAny (model X.prog X.w) X.A (.builtin "min.loop" ⟨[.ref it, .ref f, .ref S], []⟩) R s := by
  have hname : (toString "min" ++ toString ".loop" : String) = "min.loop" := by decide
  intro r
  induction r with
  | zero =>
    intro j vb ub k tb H s hr hj rb hw M
    have e : j = xs.length := by omega
    subst e
    obtain ⟨c, hS⟩ := M.2.2.2.2.2
    refine codeAny_builtin PySem.F.entry_min_loop ?_
    rw [Around.under_plainId PySem.F.plain_min_loop _]
    show wpAny _ X.A.in1 (seqItems? (.ref S) >>= _) _ _ _
    refine wpAny_bind (wpAny_seqItems hS rfl ?_)
    show wpAny _ X.A.in1 (tryCatch (pyNext (.ref it)) _ >>= _) _ _ _
    refine wpAny_bind (wpAny_tryCatch (min_stop F M (Nat.le_refl _) fun s' I' fr' hS' => ?_))
    obtain ⟨c2, hS'⟩ := hS'
    show wpAny _ X.A.in1 (updateSeq S (fun _ => #[]) >>= _) _ _ _
    refine wpAny_bind ?_
    refine wpAny_updateSeq hS' rfl (wpAny_bind (wpAny_letGo (wpAny_pure ?_)))
    obtain ⟨f0, f1, f2, f3, f4, f5⟩ := F.fp H S (by simp) (fr' S (by simp))
    have s1 := Heap.SameBut.update s'.heap S (Obj.mapSeq fun _ => (#[] : Array Value))
    exact hR ub _ ⟨vb, H, I'.turned (t' := s'.toks) (it := S) (fun b o hb e => (s1.2 b hb).trans e) f0 f1 f3 f4 f5, rb, fin vb k H hw⟩
  | succ r ih =>
    intro j vb ub k tb H s hr hj rb hw M
    have hlt : j < xs.length := by omega
    obtain ⟨c, hS⟩ := M.2.2.2.2.2
    refine codeAny_builtin PySem.F.entry_min_loop ?_
    rw [Around.under_plainId PySem.F.plain_min_loop _]
    show wpAny _ X.A.in1 (seqItems? (.ref S) >>= _) _ _ _
    refine wpAny_bind (wpAny_seqItems hS rfl ?_)
    show wpAny _ X.A.in1 (tryCatch (pyNext (.ref it)) _ >>= _) _ _ _
    have hy : xs[j]? = some xs[j] := List.getElem?_eq_getElem hlt
    refine wpAny_bind (wpAny_tryCatch (min_next F M hy fun u s1 ru M1 => ?_))
    show wpAny _ X.A.in1 (tryCatch (holding [u] (call (.ref f) [u])) _ >>= _) _ _ _
    refine wpAny_bind (wpAny_tryCatch (wpAny_holding (wpAny_mono (min_key F M1 ru (step j vb k H _ hw hy) (fun y H' ⟨k', _, hq⟩ => hW _ _ _ _ hq)) (fun z s2 h2 => ?_) fun _ _ hF => hF)))
    obtain ⟨y, H', ry, ⟨k', rfl, hw'⟩, M2⟩ := h2
    obtain ⟨t2, rfl⟩ := ry
    show wpAny _ X.A.in1 (tryCatch (holding [u, .int k' t2] (richCompare .Lt (.int k' t2) (.int k tb) >>= _)) _ >>= _) _ _ _
    refine wpAny_bind (wpAny_tryCatch (wpAny_holding (wpAny_bind (CmpOf.ints_lt (prog := X.prog) (w := X.w) (A := X.A.in1) (P := fun i v => ∃ t, v = .int (if i = 0 then k' else k) t) (fun i => if i = 0 then k' else k) (fun i v h => h) 0 1 _ _ _ _ _ ⟨t2, rfl⟩ ⟨tb, rfl⟩ ?_))))
    refine wpAny_bind (wpAny_holding (wpAny_truthy_bool ?_))
    refine wpAny_bind (wpAny_letGo (wpAny_pure ?_))
    obtain ⟨c2, hS2⟩ := M2.2.2.2.2.2
    by_cases hb' : k' < k
    · rw [if_pos hb', if_pos hb'] at hw'
      have hb2 : (if (0 : Nat) = 0 then k' else k) < (if (1 : Nat) = 0 then k' else k) := by simpa using hb'
      rw [if_pos (decide_eq_true hb2)]
      refine wpAny_bind ?_
      refine wpAny_updateSeq hS2 rfl (wpAny_bind (wpAny_letGo ?_))
      rw [hname]
      exact wpAny_pure ⟨plainId_quiet PySem.F.plain_min_loop _, ih (j + 1) _ u k' t2 H' _ (by omega) hlt ru hw' (min_put _ F M2)⟩
    · rw [if_neg hb', if_neg hb'] at hw'
      have hb2 : ¬ (if (0 : Nat) = 0 then k' else k) < (if (1 : Nat) = 0 then k' else k) := by simpa using hb'
      rw [if_neg (fun z => hb2 (of_decide_eq_true z))]
      refine wpAny_bind (wpAny_letGo ?_)
      rw [hname]
      exact wpAny_pure ⟨plainId_quiet PySem.F.plain_min_loop _, ih (j + 1) _ ub k tb H' _ (by omega) hlt rb hw' M2⟩
end
end L2

namespace L2
open PySem PySem.Spec PyProof.Rows
variable [TabPar]

theorem codeX_ok {P : Program} {w : World} {H : Hp} {h : Heap} {c : Addr} {qual : Str} (x : h.CodeRec (.ref c) qual) : ObjOk P w H h c (codeX c qual) := by
  refine ⟨x, ?_, fun h1 h2 x1 k => ?_⟩
  · obtain ⟨c', o, vs, t, e, g, _⟩ := x
    cases e
    exact ⟨o, g⟩
  · obtain ⟨c', o, vs, t, e, g, r⟩ := x1
    cases e
    exact ⟨c, o, vs, t, rfl, k o g, r⟩
section
variable {X : Cx} {pins : List (Addr × Obj)} {σ : St} {H : Hp} {s : Shared} {x : Str} {scope : Scope} {params : Arguments} {body : Expr} {lpos : Pos} {c P : Addr} {Q : Value → Shared → Prop} {E : Value → Shared → Prop}
/-- the text's one lambda is made -/
theorem lam_make (I : Inv X pins σ H s) (B : BlkScope X [x] scope) (hcode : X.env.code = .ref c) (C : PySem.W.CodeHd X.base c P) (hb : X.base.BuiltinsAt X.mg P) (hdef : defaultsOf params X.env = ([], []))
    (hq : X.env.qual ++ "<lambda>" = TabPar.qual) (hp : TabPar.p = rawInt lpos.line) (hq2 : TabPar.q = rawInt lpos.col) (T : TabOk P H)
    (h : ∀ f c' ctv pm H2 s2, Same H H2 → TabOk P H2 → H2 c' = some (codeX c' TabPar.qual) → H2 f = none → s.heap.objs.size ≤ f → Inv X pins σ H2 s2 →
      s2.heap.get? f = some (PySem.W.kla_obj "<lambda>" TabPar.qual params body scope (clOf X.env.cells scope.names []) pm c' ctv) → Q (.ref f) s2) :
    wpAny (model X.prog X.w) X.A (eval (.Lambda params body scope lpos) X.env) Q E s := by
  refine PySem.W.kla_eval hdef ?_
  rw [hq]
  have hbm : s.heap.BuiltinsAt X.mg P := by
    obtain ⟨bm, o, h1, h2, h3, h4, h5, r⟩ := hb
    exact ⟨bm, o, h1, h2, h3, h4, I.bk _ _ h5, r⟩
  have hPn : ∃ o, H P = some o := by
    obtain ⟨ps, e⟩ := T.at
    exact ⟨_, e⟩
  have hgP : mainGlobals ≠ P := fun e => by
    obtain ⟨o, es, ep, g, _⟩ := I.mod.glob
    obtain ⟨o', hP⟩ := hPn
    have := (I.bs _ _ g).2
    rw [e, hP] at this
    cases this
  rcases T with T | ⟨c', T1, T2⟩
  · have hP : s.heap.get? P = some (PySem.W.tabObj #[]) := I.hok P _ T
    refine PySem.W.kla_makeFunction (mg := X.mg) (closure_ok I B) I.ok.glob (I.mod.glob.keeps I.bk) hcode (C.keeps I.bk) hP (by trivial) (by rfl) hgP hbm fun c' ctv h' tk hx hge hlt hrec htb => ?_
    have hPs : P < s.heap.objs.size := Heap.lt_size hP
    have hPc : P ≠ c' := Nat.ne_of_lt (Nat.lt_of_lt_of_le hPs hge)
    have hcf := I.hok.fresh hge
    have htb' : h'.get? P = some (PySem.W.tabObj #[TabPar.p, TabPar.q, .ref c']) := by rw [htb, hp, hq2]; rfl
    have kp : ∀ b o, b ≠ P → s.heap.get? b = some o → (h'.push (PySem.W.kla_obj "<lambda>" TabPar.qual params body scope (clOf X.env.cells scope.names []) ((X.mg "__name__").getD .none) c' ctv)).get? b = some o := fun b o hb e => Heap.get?_push_of_some _ (hx b o hb e)
    have e1 : upd (upd H P (.tbl #[TabPar.p, TabPar.q, .ref c'])) c' (codeX c' TabPar.qual) P = some (.tbl #[TabPar.p, TabPar.q, .ref c']) := by rw [upd_ne hPc, upd_same]
    have e2 : upd (upd H P (.tbl #[TabPar.p, TabPar.q, .ref c'])) c' (codeX c' TabPar.qual) c' = some (codeX c' TabPar.qual) := upd_same
    have e3 : ∀ b, b ≠ P → b ≠ c' → upd (upd H P (.tbl #[TabPar.p, TabPar.q, .ref c'])) c' (codeX c' TabPar.qual) b = H b := fun b h1 h2 => by rw [upd_ne h2, upd_ne h1]
    generalize upd (upd H P (.tbl #[TabPar.p, TabPar.q, .ref c'])) c' (codeX c' TabPar.qual) = H2 at e1 e2 e3
    have neP : ∀ b, H b = none → b ≠ P := fun b hn e => by rw [e, T] at hn; cases hn
    have neC : ∀ b o, s.heap.get? b = some o → b ≠ c' := fun b o e => Nat.ne_of_lt (Nat.lt_of_lt_of_le (Heap.lt_size e) hge)
    have neH : ∀ b o, H b = some o → b ≠ c' := fun b o e => ne_of_none e hcf
    have un : Un X.fs [] H H2 s.heap (h'.push (PySem.W.kla_obj "<lambda>" TabPar.qual params body scope (clOf X.env.cells scope.names []) ((X.mg "__name__").getD .none) c' ctv)) := by
      refine ⟨fun b o e n _ _ => kp b o (neP b n) e, fun b o e n _ _ => ⟨o.slots, kp b o (neP b n) e⟩, fun b o e n _ => by rw [e3 b (neP b n) (neC b o e)]; exact n, fun b o e _ => ?_, fun b xs e => ?_, fun b o u e => ?_, fun b ps e => ?_⟩
      · by_cases hbP : b = P
        · subst hbP
          exact ⟨_, Heap.get?_push_of_some _ htb'⟩
        · exact ⟨o, kp b o hbP e⟩
      · rw [e3 b (fun z => by rw [z, T] at e; cases e) (neH b _ e)]; exact e
      · rw [e3 b (fun z => by rw [z, T] at e; cases e) (neH b _ e)]; exact e
      · by_cases hbP : b = P
        · subst hbP
          rw [T] at e
          cases e
          exact ⟨#[TabPar.p, TabPar.q, .ref c'], by rw [e1]; simp⟩
        · exact ⟨#[], by rw [e3 b hbP (neH b _ e), e]; simp⟩
    have hok : HOk X.prog X.w H2 (h'.push (PySem.W.kla_obj "<lambda>" TabPar.qual params body scope (clOf X.env.cells scope.names []) ((X.mg "__name__").getD .none) c' ctv)) := fun b o e => by
      by_cases hbP : b = P
      · subst hbP
        rw [e1] at e
        cases e
        exact Heap.get?_push_of_some _ htb'
      · by_cases hbc : b = c'
        · subst hbc
          rw [e2] at e
          cases e
          exact codeX_ok (hrec.push _)
        · rw [e3 b hbP hbc] at e
          refine (I.hok b o e).stay (fun d u hd q => kp d u ?_ q) (fun d hd => ?_) fun d xs hd => ?_
          · rcases hd with z | z
            · rw [z]; exact hbP
            · exact fun y => by rw [y, T] at z; cases z
          · rw [e3 d (fun z => by rw [z, T] at hd; cases hd) (neH d _ hd)]; exact hd
          · rw [e3 d (fun z => by rw [z, T] at hd; cases hd) (neH d _ hd)]; exact hd
    have hff : H2 h'.objs.size = none := by
      have hsz : s.heap.objs.size ≤ h'.objs.size := Nat.le_trans hge (Nat.le_of_lt hlt)
      rw [e3 _ (Nat.ne_of_gt (Nat.lt_of_lt_of_le hPs hsz)) (Nat.ne_of_gt hlt)]
      exact I.hok.fresh hsz
    refine h h'.objs.size c' ctv _ H2 _ ⟨fun b o e n => ?_, fun b ps e => ?_, fun P' t => ?_⟩ (.inr ⟨c', e1, e2⟩) e2 hff (Nat.le_trans hge (Nat.le_of_lt hlt)) (I.un (t' := tk) un hok) (Heap.get?_push_size _ rfl)
    · rw [e3 b (fun z => by rw [z, T] at e; cases e; cases n) (neH b _ e)]; exact e
    · obtain ⟨more, e'⟩ := un.tbls b ps e
      exact ⟨_, e'⟩
    · by_cases hPP : P' = P
      · subst hPP
        exact .inr ⟨c', e1, e2⟩
      · rcases t with t | ⟨d, t1, t2⟩
        · exact .inl (by rw [e3 P' hPP (neH _ _ t)]; exact t)
        · refine .inr ⟨d, by rw [e3 P' hPP (neH _ _ t1)]; exact t1, ?_⟩
          rw [e3 d (fun z => by rw [z, T] at t2; cases t2) (neH _ _ t2)]
          exact t2
  · have hP : s.heap.get? P = some (PySem.W.tabObj #[TabPar.p, TabPar.q, .ref c']) := I.hok P _ T1
    refine PySem.W.kla_makeFunctionHit (cv := .ref c') (mg := X.mg) (closure_ok I B) I.ok.glob (I.mod.glob.keeps I.bk) hcode (C.keeps I.bk) hP ?_ ?_ hbm fun ctv h' tk hk hsz => ?_
    · rw [hp, hq2]; exact TriplesOk_snoc lpos.line lpos.col (.ref c') [] trivial
    · rw [hp, hq2]
      show codeAmong lpos [rawInt lpos.line, rawInt lpos.col, .ref c'] = some (.ref c')
      simp [codeAmong, rawInt]
    · exact h h'.objs.size c' ctv _ H _ (Same.refl H) (.inr ⟨c', T1, T2⟩) T2 (I.hok.fresh hsz) hsz (I.kept (t' := tk) fun b o e => Heap.get?_push_of_some _ (hk b o e)) (Heap.get?_push_size _ rfl)
end

/-- reading of min(xs, key = lambda x: e): W the invariant: turn, best, its key, heap -/
def tMinKey (K : PySem.W.Frag) (P : Addr) (ta : TA) (te : TE) : TE := fun σ H Q => ta σ H fun vs H1 => ∃ a xs x0, vs = [.ref a] ∧ SqL K H1 a xs ∧ xs[0]? = some x0 ∧ TabOk P H1 ∧
  ∀ H2 c', Same H1 H2 → TabOk P H2 → H2 c' = some (codeX c' TabPar.qual) → ∃ W : Nat → V → Int → Hp → Prop,
    (te (some x0 :: σ) H2 fun z H' => ∃ k, z = .int k ∧ W 1 x0 k H') ∧
    (∀ j vb k H, W j vb k H → SqL K H a xs ∧ H c' = some (codeX c' TabPar.qual)) ∧
    (∀ j vb k H y, W j vb k H → xs[j]? = some y → te (some y :: σ) H fun z H' => ∃ k', z = .int k' ∧ W (j + 1) (if k' < k then y else vb) (if k' < k then k' else k) H') ∧
    ∀ vb k H, W xs.length vb k H → Q vb H
section
variable {X : Cx} {x : Str} {scope : Scope} {params : Arguments} {body e : Expr} {lpos p pos kpos : Pos} {c P : Addr} {ta : TA} {te : TE}
theorem pe_minKey (hc : X.calm = true) (hr : X.A.depth < recursionLimit) (hg : Gl X "min") (hm : X.mg "min" = none) (hl : PA X [e] ta) (B : BlkScope X [x] scope) (hxl : scope.names.lookup x = some .local) (hco : scope.isCoroutine = false) (hgen : scope.isGenerator = false)
    (hcode : X.env.code = .ref c) (C : PySem.W.CodeHd X.base c P) (hb : X.base.BuiltinsAt X.mg P) (hdef : defaultsOf params X.env = ([], [])) (hq : X.env.qual ++ "<lambda>" = TabPar.qual) (hp : TabPar.p = rawInt lpos.line) (hq2 : TabPar.q = rawInt lpos.col)
    (hbind : ∀ cl pm cd ctv u, bindArgs (PySem.W.kla_fn "<lambda>" TabPar.qual params body scope cl pm cd ctv) ⟨[u], []⟩ = pure [(x, u)])
    (run : ∀ f c' s H, PE (lamC X [x] TabPar.qual scope f (.ref c') X.A.in1 s H) body te)
    (he : backTo pos (starEach [e] X.env) = (false, eval e X.env) :: backTo pos (starEach [] X.env) := by rfl) (hpl : (backTo pos (starEach [e] X.env)).any (·.1) = false := by rfl) :
    PE X (.Call (.Name "min" p) [e] [⟨some "key", .Lambda params body scope lpos, kpos⟩] pos) (tMinKey X.K P ta te) := by
  intro pins s σ H Q I h
  have hname : (toString "min" ++ toString ".loop" : String) = "min.loop" := by decide
  refine wpAny_Call_Name_kw (ld_blt I hg hm PyProof.Rows.boot_min ?_)
  refine PyProof.Rows.callWith_kw (thn (hl pos pins s σ H _ I h) fun us s1 ⟨vs, H1, I1, r1, a, xs, x0, e1, hS, hx0, T, rest⟩ => ?_) he hpl (by rfl) (by rfl)
  subst e1
  obtain ⟨u, rfl, ru⟩ := vals1 r1
  cases ru
  refine PyProof.Rows.kws_cons (lam_make I1 B hcode C hb hdef hq hp hq2 T fun f c' ctv pm H2 s2 sm T2 hc' hf hsz I2 ho => PyProof.Rows.kws_nil ?_)
  show wpAny _ _ (call (.builtin "min") [.ref a] [(Str.ofString "key", .ref f)]) _ _ _
  obtain ⟨W, first, hW, step, fin⟩ := rest H2 c' sm T2 hc'
  have fok := I1.fpOk hsz hf
  have I2' : Inv X (pins ++ [(f, PySem.W.kla_obj "<lambda>" TabPar.qual params body scope (clOf X.env.cells scope.names []) pm c' ctv)]) σ H2 s2 := I2.pins_of fun p hp => by
    rcases List.mem_append.mp hp with z | z
    · exact I2.pin p (List.mem_append_right _ z)
    · rw [List.mem_singleton.mp z]
      exact ⟨ho, hf, fok.2.1, fok.2.2.1, fun v z => by cases z⟩
  have hS2 : SqL X.K H2 a xs := sm.seq hS
  obtain ⟨its, r2, pl, hz⟩ := I2.list hS2
  refine kmk_tree PySem.F.kind_min PySem.F.plain_min PySem.F.entry_min (kmk_min_key _ _) ?_
  show wpAny _ X.A.in1 (Builtin.Builtins.bindParams "min" ["key", "default"] 0 ⟨[], [(Str.ofString "key", .ref f)]⟩ >>= _) _ _ s2
  refine wpAny_bind (wpAny_of_eq (show Builtin.Builtins.bindParams "min" ["key", "default"] 0 ⟨[], [(Str.ofString "key", .ref f)]⟩ = pure [some (.ref f), none] from rfl) ?_)
  refine wpAny_bind (wpAny_pure ?_)
  refine wpAny_bind (wpAny_pyIter_list pl.isList ?_)
  refine wpAny_bind (wpAny_newList ?_ (Nat.zero_le _))
  rw [hname]
  refine wpAny_pure ⟨plainId_quiet PySem.F.plain_min_loop _, ?_⟩
  have hsz1 : (s2.heap.push { cls := .type "list_iterator", data := .fields #[.ref a, .int 0 0] }).objs.size = s2.heap.objs.size + 1 := size_push' ..
  have kp : ∀ b o, s2.heap.get? b = some o → ((s2.heap.push { cls := .type "list_iterator", data := .fields #[.ref a, .int 0 0] }).push (seqObj "list" #[] 0)).get? b = some o := fun b o e => Heap.get?_push_of_some _ (Heap.get?_push_of_some _ e)
  have gI : ((s2.heap.push { cls := .type "list_iterator", data := .fields #[.ref a, .int 0 0] }).push (seqObj "list" #[] 0)).get? s2.heap.objs.size = some { cls := .type "list_iterator", data := .fields #[.ref a, .int 0 0] } :=
    Heap.get?_push_of_some _ (Heap.get?_push_size _ rfl)
  have gS : ((s2.heap.push { cls := .type "list_iterator", data := .fields #[.ref a, .int 0 0] }).push (seqObj "list" #[] 0)).get? (s2.heap.push { cls := .type "list_iterator", data := .fields #[.ref a, .int 0 0] }).objs.size = some (seqObj "list" #[] 0) := Heap.get?_push_size _ rfl
  rw [hsz1] at gS ⊢
  have low : ∀ b, b ∈ [s2.heap.objs.size, s2.heap.objs.size + 1] → s2.heap.objs.size ≤ b := fun b hb => by
    rcases List.mem_cons.mp hb with e | hb
    · rw [e]; exact Nat.le_refl _
    · rw [List.mem_singleton.mp hb]; exact Nat.le_succ _
  have F : MinFix X (pins ++ [(f, PySem.W.kla_obj "<lambda>" TabPar.qual params body scope (clOf X.env.cells scope.names []) pm c' ctv)]) x TabPar.qual "<lambda>" scope params body pm ctv c' f s2.heap.objs.size (s2.heap.objs.size + 1) te :=
    ⟨B, hxl, hco, hgen, I.ok.hd hc, hr, fun u => hbind _ _ _ _ u, List.mem_append_right _ (by simp), fun s H => run f c' s H, Nat.ne_of_lt (Nat.lt_succ_self _), fun H b hb hn => I2'.fpOk (low b hb) hn⟩
  have M0 : MinAt X (pins ++ [(f, PySem.W.kla_obj "<lambda>" TabPar.qual params body scope (clOf X.env.cells scope.names []) pm c' ctv)]) σ TabPar.qual c' a s2.heap.objs.size (s2.heap.objs.size + 1) xs 0 #[] H2
      { s2 with heap := (s2.heap.push { cls := .type "list_iterator", data := .fields #[.ref a, .int 0 0] }).push (seqObj "list" #[] 0) } :=
    ⟨I2'.kept (t' := s2.toks) kp, fun b hb => I2.hok.fresh (low b hb), hS2, hc', ⟨_, gI, rfl, rfl⟩, 0, gS⟩
  generalize { s2 with heap := (s2.heap.push { cls := .type "list_iterator", data := .fields #[.ref a, .int 0 0] }).push (seqObj "list" #[] 0) } = s3 at M0
  obtain ⟨c0, hS0⟩ := M0.2.2.2.2.2
  refine codeAny_builtin PySem.F.entry_min_loop ?_
  rw [Around.under_plainId PySem.F.plain_min_loop _]
  show wpAny _ X.A.in1 (seqItems? (.ref (s2.heap.objs.size + 1)) >>= _) _ _ _
  refine wpAny_bind (wpAny_seqItems hS0 rfl ?_)
  show wpAny _ X.A.in1 (tryCatch (pyNext (.ref s2.heap.objs.size)) _ >>= _) _ _ _
  refine wpAny_bind (wpAny_tryCatch (min_next F M0 hx0 fun u s4 ru M1 => ?_))
  show wpAny _ X.A.in1 (tryCatch (holding [u] (call (.ref f) [u])) _ >>= _) _ _ _
  refine wpAny_bind (wpAny_tryCatch (wpAny_holding (wpAny_mono (min_key F M1 ru first (fun y H' ⟨k', _, hq⟩ => hW _ _ _ _ hq)) (fun z s5 h2 => ?_) fun _ _ hF => hF)))
  obtain ⟨y, H', ry, ⟨k', rfl, hw'⟩, M2⟩ := h2
  obtain ⟨t2, rfl⟩ := ry
  obtain ⟨c2, hS2'⟩ := M2.2.2.2.2.2
  show wpAny _ X.A.in1 (updateSeq (s2.heap.objs.size + 1) (fun _ => #[u, .int k' t2]) >>= _) _ _ _
  refine wpAny_bind ?_
  refine wpAny_updateSeq hS2' rfl ?_
  rw [hname]
  have hlen : 0 < xs.length := (List.getElem?_eq_some_iff.mp hx0).1
  refine wpAny_pure ⟨plainId_quiet PySem.F.plain_min_loop _, min_loop F W hW step fin (fun u s' he => ?_) _ 1 x0 u k' t2 H' _ rfl hlen ru hw' (min_put _ F M2)⟩
  obtain ⟨v, H9, I9, r9, q9⟩ := he
  exact ⟨v, H9, I9.unpinned, r9, q9⟩
end
end L2

namespace L2
open PySem PySem.Spec PyProof.Rows

/-! ### zip of two tuples -/
section
variable {prog : Program} {w : World} {A : Around} {E : Value → Shared → Prop} {s : Shared}
theorem nxT_item {p t : Addr} {k : Nat} {xs : Array Value} {v : Value} {Q : Value → Shared → Prop} (hp : s.heap.IsTupleIter p t k) (ht : s.heap.IsTuple t xs) (hv : xs[k]? = some v)
    (go : ∀ g, g.IsTupleIter p t (k + 1) → Heap.SameBut p s.heap g → Q v { s with heap := g }) : wpAny (model prog w) A (Builtin.SmallTypes.nextOf (.ref p)) Q E s := by
  obtain ⟨op, e1, c1, d1⟩ := id hp
  obtain ⟨ot, e2, _, n2, d2⟩ := ht
  unfold Builtin.SmallTypes.nextOf
  refine wpAny_bind (wpAny_callSpecial?_slot (name := Str.ofString "__next__") hp.typeIs PySem.F.slot_tuple_iterator_next (wpAny_call_entry PySem.F.slot_tuple_iterator_next hp.typeIs PySem.F.entry_tuple_iterator_next ?_ (PySem.F.args_tuple_iterator_next_1 _)))
  show wpAny _ _ (field (.ref p) 0 >>= _) _ _ s
  refine wpAny_bind (wpAny_field e1 d1 (x := .ref t) rfl ?_)
  show wpAny _ _ (if (Value.ref t == Value.none) = true then _ else _) _ _ s; rw [if_neg (show ¬ ((Value.ref t == Value.none) = true) from Bool.false_ne_true)]
  show wpAny _ _ (field (.ref p) 1 >>= _) _ _ s
  refine wpAny_bind (wpAny_field e1 d1 (x := .int k 0) rfl ?_)
  show wpAny _ _ (seqItems? (.ref t) >>= _) _ _ s; refine wpAny_bind (wpAny_seqItems e2 d2 ?_)
  simp only [Int.toNat_natCast, hv]
  refine wpAny_bind (wpAny_setField e1 d1 (by simp) (wpAny_pure ⟨v, rfl, wpAny_pure (go _ ?_ (Heap.SameBut.update ..))⟩))
  refine ⟨_, Heap.get?_update_self _ e1 (Obj.isFreed_of_fields (Obj.data_mapFields d1 _)), (Obj.cls_mapFields ..).trans c1, ?_⟩
  rw [Obj.data_mapFields d1]
  simp [rawInt]
theorem nxT_end {p t : Addr} {k : Nat} {xs : Array Value} {Q : Value → Shared → Prop} (hh : A.handled = none) (hp : s.heap.IsTupleIter p t k) (ht : s.heap.IsTuple t xs) (hv : xs[k]? = none)
    (out : ∀ g e, Heap.ExtBut p s.heap g → (∃ o, g.get? e = some o ∧ o.cls = .type "StopIteration") → E (.ref e) { s with heap := g }) : wpAny (model prog w) A (Builtin.SmallTypes.nextOf (.ref p)) Q E s := by
  obtain ⟨op, e1, c1, d1⟩ := id hp
  obtain ⟨ot, e2, _, n2, d2⟩ := ht
  unfold Builtin.SmallTypes.nextOf
  refine wpAny_bind (wpAny_callSpecial?_slot (name := Str.ofString "__next__") hp.typeIs PySem.F.slot_tuple_iterator_next (wpAny_call_entry PySem.F.slot_tuple_iterator_next hp.typeIs PySem.F.entry_tuple_iterator_next ?_ (PySem.F.args_tuple_iterator_next_1 _)))
  show wpAny _ _ (field (.ref p) 0 >>= _) _ _ s
  refine wpAny_bind (wpAny_field e1 d1 (x := .ref t) rfl ?_)
  show wpAny _ _ (if (Value.ref t == Value.none) = true then _ else _) _ _ s; rw [if_neg (show ¬ ((Value.ref t == Value.none) = true) from Bool.false_ne_true)]
  show wpAny _ _ (field (.ref p) 1 >>= _) _ _ s
  refine wpAny_bind (wpAny_field e1 d1 (x := .int k 0) rfl ?_)
  show wpAny _ _ (seqItems? (.ref t) >>= _) _ _ s; refine wpAny_bind (wpAny_seqItems e2 d2 ?_)
  simp only [Int.toNat_natCast, hv]
  refine wpAny_bind (wpAny_rule (wpAny_bind (wpAny_setField e1 d1 (by simp) ?_)))
  show wpAny _ _ (newExc (.type "StopIteration") [] >>= _) _ _ _; refine wpAny_bind ?_
  simp only [newExc, newTuple]
  refine wpAny_bind (wpAny_newObj_type ?_ (by size_fits)); refine wpAny_bind (m := firstArgMember _ _) (wpAny_of_eq (a := Value.none) (by first | rfl | (simp only [firstArgMember]; rfl)) ?_)
  refine wpAny_newObj_type ?_ (by size_fits); simp only [raiseNew]; refine wpAny_bind (wpAny_handled ?_)
  first | rw [show A.in1.handled = none from hh] | rw [hh]
  exact wpAny_bind (wpAny_pure (wpAny_throw (out _ _ (((Heap.SameBut.update ..).extBut.push _).push _) ⟨_, Heap.get?_push_size _ rfl, rfl⟩)))

/-- y the zip, ti its iterators' pair, d its handed pair, p and q the iterators -/
structure ZAp (y ti d p q t u : Addr) : Prop where
  nd : List.Nodup [y, ti, d, p, q]
  tn : t ∉ [y, ti, d, p, q]
  un : u ∉ [y, ti, d, p, q]
theorem ZAp.ne {y ti d p q t u : Addr} (D : ZAp y ti d p q t u) : ti ≠ y ∧ d ≠ y ∧ p ≠ y ∧ q ≠ y ∧ ti ≠ d ∧ ti ≠ p ∧ ti ≠ q ∧ d ≠ p ∧ d ≠ q ∧ p ≠ q ∧ t ≠ y ∧ t ≠ d ∧ t ≠ p ∧ t ≠ q ∧ u ≠ y ∧ u ≠ d ∧ u ≠ p ∧ u ≠ q := by
  obtain ⟨nd, tn, un⟩ := D
  simp only [List.nodup_cons, List.mem_cons, List.not_mem_nil, or_false, not_or, not_false_eq_true, List.nodup_nil, and_true] at nd tn un
  obtain ⟨⟨a1, a2, a3, a4⟩, ⟨b1, b2, b3⟩, ⟨c1, c2⟩, d1⟩ := nd
  exact ⟨Ne.symm a1, Ne.symm a2, Ne.symm a3, Ne.symm a4, b1, b2, b3, c1, c2, d1, tn.1, tn.2.2.1, tn.2.2.2.1, tn.2.2.2.2, un.1, un.2.2.1, un.2.2.2.1, un.2.2.2.2⟩

theorem zT_item {y ti d p q t u : Addr} {k : Nat} {xs ys : Array Value} {v1 v2 a b : Value} {Q : Option Value → Shared → Prop} (D : ZAp y ti d p q t u) (hy : IsZip s.heap y ti d .none) (hti : IsPair s.heap ti (.ref p) (.ref q)) (hd : IsPair s.heap d a b)
    (h1 : s.heap.IsTupleIter p t k) (h2 : s.heap.IsTupleIter q u k) (ht : s.heap.IsTuple t xs) (hu : s.heap.IsTuple u ys) (e1 : xs[k]? = some v1) (e2 : ys[k]? = some v2)
    (go : ∀ g, IsZip g y ti d (rawInt s.heap.objs.size) → IsPair g d v1 v2 → g.IsTupleIter p t (k + 1) → g.IsTupleIter q u (k + 1) → IsPair g s.heap.objs.size v1 v2 →
      (∀ c o, c ≠ y → c ≠ d → c ≠ p → c ≠ q → s.heap.get? c = some o → g.get? c = some o) → Q (some (.ref s.heap.objs.size)) { s with heap := g }) : wpAny (model prog w) A (pyNext (.ref y)) Q E s := by
  obtain ⟨n1, n2, n3, n4, n5, n6, n7, n8, n9, n10, n11, n12, n13, n14, n15, n16, n17, n18⟩ := D.ne
  have ty : s.TypeIs (.ref y) "zip" := ⟨_, hy, rfl⟩
  unfold pyNext
  refine wpAny_bind (wpAny_attempt (wpAny_callSpecial?_slot (name := Str.ofString "__next__") ty PySem.F.slot_zip_next (wpAny_call_entry PySem.F.slot_zip_next ty PySem.F.entry_zip_next ?_ (PySem.F.args_zip_next_1 _))))
  show wpAny _ _ (field (.ref y) 2 >>= _) _ _ _
  refine wpAny_bind (wpAny_field hy rfl (x := .bool false) rfl ?_)
  show wpAny _ _ (field (.ref y) 3 >>= _) _ _ _
  refine wpAny_bind (wpAny_field hy rfl (x := .ref ti) rfl (wpAny_bind (wpAny_seqItems hti rfl ?_)))
  show wpAny _ _ (Builtin.SmallTypes.ownedTupleIsFree (.ref y) >>= _) _ _ _
  refine wpAny_bind ?_
  unfold Builtin.SmallTypes.ownedTupleIsFree
  refine wpAny_bind (wpAny_field hy rfl (x := .none) rfl (wpAny_pure ?_)); simp only [if_true]
  refine wpAny_bind (wpAny_rule (wpAny_bind (wpAny_field hy rfl (x := .ref d) rfl (wpAny_bind (wpAny_setField_rec hy (by simp) fun g1 k1 s1 => ?_)))))
  replace k1 : IsZip g1 y ti d .ellipsis := k1
  refine wpAny_bind ?_
  simp only [List.zipIdx_cons, List.zipIdx_nil, List.forIn_cons, List.forIn_nil]
  refine wpAny_bind (wpAny_bind (wpAny_onRaise ?_))
  show wpAny _ _ (Builtin.SmallTypes.nextOf (.ref p) >>= _) _ _ _
  refine wpAny_bind (nxT_item (h1.extBut s1.extBut n3) (ht.extBut s1.extBut n11) e1 fun g2 i2 s2 => wpAny_pure ?_)
  have d2 : IsPair g2 d a b := s2.extBut _ _ n8 (s1.extBut _ _ n2 hd)
  refine wpAny_bind (wpAny_seqItems d2 rfl (wpAny_bind (wpAny_updateSeq_pair d2 fun g3 d3 s3 => ?_)))
  replace d3 : IsPair g3 d v1 b := d3
  refine wpAny_bind (wpAny_letGo (wpAny_pure (wpAny_bind (wpAny_bind (wpAny_onRaise ?_)))))
  show wpAny _ _ (Builtin.SmallTypes.nextOf (.ref q) >>= _) _ _ _
  refine wpAny_bind (nxT_item (((h2.extBut s1.extBut n4).extBut s2.extBut (Ne.symm n10)).extBut s3.extBut (Ne.symm n9)) (((hu.extBut s1.extBut n15).extBut s2.extBut n17).extBut s3.extBut n16) e2 fun g4 i4 s4 => wpAny_pure ?_)
  have d4 : IsPair g4 d v1 b := s4.extBut _ _ n9 d3
  refine wpAny_bind (wpAny_seqItems d4 rfl (wpAny_bind (wpAny_updateSeq_pair d4 fun g5 d5 s5 => ?_)))
  replace d5 : IsPair g5 d v1 v2 := d5
  refine wpAny_bind (wpAny_letGo (wpAny_pure (wpAny_pure (wpAny_bind (wpAny_seqItems d5 rfl (wpAny_bind (wpAny_newTuple ?_)))))))
  have sz : g5.objs.size = s.heap.objs.size := by rw [s5.1, s4.1, s3.1, s2.1, s1.1]
  have k5 : IsZip g5 y ti d .ellipsis := s5.extBut _ _ (Ne.symm n2) (s4.extBut _ _ (Ne.symm n4) (s3.extBut _ _ (Ne.symm n2) (s2.extBut _ _ (Ne.symm n3) k1)))
  have up5 : ∀ c o, c ≠ y → c ≠ d → c ≠ p → c ≠ q → s.heap.get? c = some o → g5.get? c = some o := fun c o c1 c2 c3 c4 e => s5.extBut _ _ c2 (s4.extBut _ _ c4 (s3.extBut _ _ c2 (s2.extBut _ _ c3 (s1.extBut _ _ c1 e))))
  have p5 : g5.IsTupleIter p t (k + 1) := ((i2.extBut s3.extBut (Ne.symm n8)).extBut s4.extBut n10).extBut s5.extBut (Ne.symm n8)
  have q5 : g5.IsTupleIter q u (k + 1) := i4.extBut s5.extBut (Ne.symm n9)
  have ylt : y < g5.objs.size := Heap.lt_size k5
  show wpAny _ _ (Builtin.SmallTypes.ownedTupleHandOut (.ref y) (.ref g5.objs.size) >>= _) _ _ _
  refine wpAny_bind ?_
  unfold Builtin.SmallTypes.ownedTupleHandOut
  have k6 : IsZip (g5.push { cls := .type "tuple", data := .seq #[v1, v2] }) y ti d .ellipsis := Heap.get?_push_of_some _ k5
  refine wpAny_bind (wpAny_setField_rec k6 (by simp) fun g7 k7 s7 => ?_)
  replace k7 : IsZip g7 y ti d (rawInt g5.objs.size) := k7
  refine wpAny_setField_rec k7 (by simp) fun g8 k8 s8 => ?_
  replace k8 : IsZip g8 y ti d (rawInt g5.objs.size) := k8
  have up : ∀ c o, c ≠ y → g5.get? c = some o → g8.get? c = some o := fun c o c1 e => s8.extBut _ _ c1 (s7.extBut _ _ c1 (Heap.get?_push_of_some _ e))
  have t8 : IsPair g8 g5.objs.size v1 v2 := s8.extBut _ _ (Nat.ne_of_gt ylt) (s7.extBut _ _ (Nat.ne_of_gt ylt) (Heap.get?_push_size _ rfl))
  rw [sz] at k8 t8
  refine wpAny_pure ⟨_, rfl, wpAny_pure ?_⟩
  show Q (some (.ref g5.objs.size)) _
  rw [sz]
  exact go g8 k8 (up _ _ n2 d5) (p5.at fun o e => up _ o n3 e) (q5.at fun o e => up _ o n4 e) t8 fun c o c1 c2 c3 c4 e => up c o c1 (up5 c o c1 c2 c3 c4 e)

theorem zT_end {y ti d p q t u : Addr} {k : Nat} {xs : Array Value} {Q : Option Value → Shared → Prop} (hh : A.handled = none) (D : ZAp y ti d p q t u) (hy : IsZip s.heap y ti d .none) (hti : IsPair s.heap ti (.ref p) (.ref q))
    (h1 : s.heap.IsTupleIter p t k) (ht : s.heap.IsTuple t xs) (e1 : xs[k]? = none)
    (go : ∀ g, (∀ c o, c ≠ y → c ≠ d → c ≠ p → c ≠ q → s.heap.get? c = some o → g.get? c = some o) → Q none { s with heap := g }) : wpAny (model prog w) A (pyNext (.ref y)) Q E s := by
  obtain ⟨n1, n2, n3, n4, n5, n6, n7, n8, n9, n10, n11, n12, n13, n14, n15, n16, n17, n18⟩ := D.ne
  have ty : s.TypeIs (.ref y) "zip" := ⟨_, hy, rfl⟩
  unfold pyNext
  refine wpAny_bind (wpAny_attempt (wpAny_callSpecial?_slot (name := Str.ofString "__next__") ty PySem.F.slot_zip_next (wpAny_call_entry PySem.F.slot_zip_next ty PySem.F.entry_zip_next ?_ (PySem.F.args_zip_next_1 _))))
  show wpAny _ _ (field (.ref y) 2 >>= _) _ _ _
  refine wpAny_bind (wpAny_field hy rfl (x := .bool false) rfl ?_)
  show wpAny _ _ (field (.ref y) 3 >>= _) _ _ _
  refine wpAny_bind (wpAny_field hy rfl (x := .ref ti) rfl (wpAny_bind (wpAny_seqItems hti rfl ?_)))
  show wpAny _ _ (Builtin.SmallTypes.ownedTupleIsFree (.ref y) >>= _) _ _ _
  refine wpAny_bind ?_
  unfold Builtin.SmallTypes.ownedTupleIsFree
  refine wpAny_bind (wpAny_field hy rfl (x := .none) rfl (wpAny_pure ?_)); simp only [if_true]
  refine wpAny_bind (wpAny_rule (wpAny_bind (wpAny_field hy rfl (x := .ref d) rfl (wpAny_bind (wpAny_setField_rec hy (by simp) fun g1 k1 s1 => ?_)))))
  replace k1 : IsZip g1 y ti d .ellipsis := k1
  refine wpAny_bind ?_
  simp only [List.zipIdx_cons, List.zipIdx_nil, List.forIn_cons, List.forIn_nil]
  refine wpAny_bind (wpAny_bind (wpAny_onRaise ?_))
  show wpAny _ _ (Builtin.SmallTypes.nextOf (.ref p) >>= _) _ _ _
  refine wpAny_bind (nxT_end hh (h1.extBut s1.extBut n3) (ht.extBut s1.extBut n11) e1 fun g2 e s2 he => ?_)
  obtain ⟨oe, hoe, hce⟩ := he
  have k2 : IsZip g2 y ti d .ellipsis := s2 _ _ (Ne.symm n3) k1
  have ney : e ≠ y := fun z => by rw [z, k2] at hoe; cases hoe; simp at hce
  refine wpAny_setField_rec k2 (by simp) fun g3 _ s3 => ?_
  refine wpAny_bind (wpAny_isInstance (T := "StopIteration") (b := true) ⟨oe, s3.extBut _ _ ney hoe, hce⟩ isSubtype_stop ?_)
  exact wpAny_pure (go _ fun c o c1 _ c3 _ z => s3.extBut _ _ c1 (s2 _ _ c3 (s1.extBut _ _ c1 z)))
end
end L2

namespace L2
open PySem PySem.Spec PyProof.Rows

abbrev zA (h : Heap) (t : Addr) : Heap := h.push { cls := .type "tuple_iterator", data := .fields #[.ref t, .int 0 0] }
abbrev zB (h : Heap) (t u : Addr) : Heap := (zA h t).push { cls := .type "tuple_iterator", data := .fields #[.ref u, .int 0 0] }
abbrev zC (h : Heap) (t u : Addr) : Heap := (zB h t u).push { cls := .type "tuple", data := .seq #[.ref h.objs.size, .ref (zA h t).objs.size] }
abbrev zD (h : Heap) (t u : Addr) : Heap := (zC h t u).push { cls := .type "tuple", data := .seq #[.none, .none] }
abbrev zE (h : Heap) (t u : Addr) : Heap := (zD h t u).push { cls := .type "zip", data := .fields #[.none, .bool false, .bool false, .ref (zB h t u).objs.size, .ref (zC h t u).objs.size] }
theorem meetsZ (t u : Addr) (xs ys : Array Value) : Meets (Builtin.«zip.__new__» ⟨[.type "zip", .ref t, .ref u], []⟩) (fun _ R s => s.heap.IsTuple t xs ∧ s.heap.IsTuple u ys ∧ R (.ok (.ret (.ref (zD s.heap t u).objs.size))) { s with heap := zE s.heap t u }) :=
  .of_wp fun prog w A R s h => by
    obtain ⟨hp, g, dr, tk, os⟩ := s
    obtain ⟨ht, hu, h⟩ := h
    have sub := sub_zip
    have T1 : Heap.IsTuple (Shared.heap ⟨hp, g, dr, tk, os⟩) t xs := ht
    have T2 : Heap.IsTuple (Shared.heap ⟨hp.push { cls := .type "tuple_iterator", data := .fields #[.ref t, .int 0 0] }, g, dr, tk, os⟩) u ys := Heap.IsTuple.push hu _
    wp_walk using wpAny_pyIter_tuple T1, wpAny_pyIter_tuple T2
    exact ⟨_, rfl, h⟩
section
variable {prog : Program} {w : World} {A : Around} {E : Value → Shared → Prop} {s : Shared}
theorem call_zipT {t u : Addr} {xs ys : Array Value} {Q : Value → Shared → Prop} (ht : s.heap.IsTuple t xs) (hu : s.heap.IsTuple u ys)
    (h : ∀ g, IsZip g (s.heap.objs.size + 4) (s.heap.objs.size + 2) (s.heap.objs.size + 3) .none → IsPair g (s.heap.objs.size + 2) (.ref s.heap.objs.size) (.ref (s.heap.objs.size + 1)) → IsPair g (s.heap.objs.size + 3) .none .none →
      g.IsTupleIter s.heap.objs.size t 0 → g.IsTupleIter (s.heap.objs.size + 1) u 0 → (∀ c o, s.heap.get? c = some o → g.get? c = some o) → Q (.ref (s.heap.objs.size + 4)) { s with heap := g }) :
    wpAny (model prog w) A (call (.type "zip") [.ref t, .ref u]) Q E s := by
  refine callType_new PySem.F.called_zip (by decide) (PySem.F.typeCall_zip_2 _ _) (PySem.F.newCall_zip_2 _ _) (fun obj => PySem.F.args_object_init_3 obj _ _) PySem.F.entry_zip_new (meetsZ t u xs ys) ⟨ht, hu, ?_⟩
  have n1 : (zA s.heap t).objs.size = s.heap.objs.size + 1 := Heap.size_push ..
  have n2 : (zB s.heap t u).objs.size = s.heap.objs.size + 2 := by rw [Heap.size_push, n1]
  have n3 : (zC s.heap t u).objs.size = s.heap.objs.size + 3 := by rw [Heap.size_push, n2]
  have n4 : (zD s.heap t u).objs.size = s.heap.objs.size + 4 := by rw [Heap.size_push, n3]
  have f5 : (zE s.heap t u).get? (zD s.heap t u).objs.size = some _ := Heap.get?_push_size _ rfl
  have f4 : (zE s.heap t u).get? (zC s.heap t u).objs.size = some _ := Heap.get?_push_of_some _ (Heap.get?_push_size _ rfl)
  have f3 : (zE s.heap t u).get? (zB s.heap t u).objs.size = some _ := Heap.get?_push_of_some _ (Heap.get?_push_of_some _ (Heap.get?_push_size _ rfl))
  have f2 : (zE s.heap t u).get? (zA s.heap t).objs.size = some _ := Heap.get?_push_of_some _ (Heap.get?_push_of_some _ (Heap.get?_push_of_some _ (Heap.get?_push_size _ rfl)))
  have f1 : (zE s.heap t u).get? s.heap.objs.size = some _ := Heap.get?_push_of_some _ (Heap.get?_push_of_some _ (Heap.get?_push_of_some _ (Heap.get?_push_of_some _ (Heap.get?_push_size _ rfl))))
  show _ ∧ _
  rw [n2, n3, n4] at f5; rw [n1, n2] at f3; rw [n3] at f4; rw [n1] at f2; rw [n4]
  exact ⟨⟨_, f5, rfl⟩, h _ f5 f3 f4 ⟨_, f1, rfl, rfl⟩ ⟨_, f2, rfl, rfl⟩ fun c o e => Heap.get?_push_of_some _ (Heap.get?_push_of_some _ (Heap.get?_push_of_some _ (Heap.get?_push_of_some _ (Heap.get?_push_of_some _ e))))⟩
end

def Itz (K : PySem.W.Frag) (t u : Addr) : It :=
  ⟨fun i H => ∃ xs ys x y, SqT K H t xs ∧ SqT K H u ys ∧ xs[i]? = some x ∧ ys[i]? = some y, fun i H v H' => ∃ p x y, H p = none ∧ v = .ref p ∧ H' = upd H p (.tup [x, y]) ∧ ∀ xs ys, SqT K H t xs → SqT K H u ys → xs[i]? = some x ∧ ys[i]? = some y,
    fun i H => ∃ xs, SqT K H t xs ∧ xs.length ≤ i⟩
theorem turn_zip {P : Program} {w : World} {K : PySem.W.Frag} {elts : List Expr} {kk : Nat} {pos : Pos} {y ti d p q t u : Addr} (D : ZAp y ti d p q t u) :
    Turn P w K (.Tuple elts kk pos) (Itz K t u) [y, ti, d, p, q] y (fun i h => IsZip h y ti d .none ∧ IsPair h ti (.ref p) (.ref q) ∧ (∃ a b, IsPair h d a b) ∧ h.IsTupleIter p t i ∧ h.IsTupleIter q u i) where
  mem := by simp
  obj := fun i h st b hb => by
    obtain ⟨hy, hti, ⟨a0, b0, hd⟩, ⟨op, e1, c1, d1⟩, oq, e2, c2, d2⟩ := st
    have hb' : b = y ∨ b = ti ∨ b = d ∨ b = p ∨ b = q := by simpa using hb
    rcases hb' with rfl | rfl | rfl | rfl | rfl
    · exact ⟨_, hy, fun v z => by cases z⟩
    · exact ⟨_, hti, fun v z => by cases z⟩
    · exact ⟨_, hd, fun v z => by cases z⟩
    · exact ⟨op, e1, fun v z => by rw [d1] at z; cases z⟩
    · exact ⟨oq, e2, fun v z => by rw [d2] at z; cases z⟩
  keep := fun i h h' st k => by
    obtain ⟨hy, hti, ⟨a0, b0, hd⟩, h1, h2⟩ := st
    exact ⟨k y (by simp) _ hy, k ti (by simp) _ hti, ⟨a0, b0, k d (by simp) _ hd⟩, h1.at fun o z => k p (by simp) o z, h2.at fun o z => k q (by simp) o z⟩
  item := by
    intro X hP hw hK hc i pins s σ H E I hf st hg
    subst hP hw hK
    obtain ⟨xs, ys, v1, v2, hq1, hq2, hx, hy'⟩ := hg
    obtain ⟨its, rv, pl, hz⟩ := I.tuple hq1
    obtain ⟨its2, rv2, pl2, hz2⟩ := I.tuple hq2
    obtain ⟨u1, hu1, ru1⟩ := rv.get hx
    obtain ⟨u2, hu2, ru2⟩ := rv2.get hy'
    obtain ⟨hy, hti, ⟨a0, b0, hd⟩, h1, h2⟩ := st
    have HP : H s.heap.objs.size = none := I.hok.fresh (Nat.le_refl _)
    have ylt : y < s.heap.objs.size := Heap.lt_size hy
    refine zT_item D hy hti hd h1 h2 pl pl2 (v1 := u1) (v2 := u2) (by simpa using hu1) (by simpa using hu2) fun g gy gd gp gq gt kp => ?_
    refine ⟨_, rfl, wpAny_letOwnedTupleGo_zip gy fun g' gy' hs' => ?_⟩
    obtain ⟨n1, n2, n3, n4, n5, n6, n7, n8, n9, n10, _⟩ := D.ne
    have up : ∀ b o, b ≠ y → b ≠ d → b ≠ p → b ≠ q → s.heap.get? b = some o → g'.get? b = some o := fun b o c1 c2 c3 c4 e => (hs'.2 b c1).trans (kp b o c1 c2 c3 c4 e)
    have nch : ∀ b, b ∉ [y, d, p, q] → b ≠ y ∧ b ≠ d ∧ b ≠ p ∧ b ≠ q := fun b z => ⟨fun e => z (by simp [e]), fun e => z (by simp [e]), fun e => z (by simp [e]), fun e => z (by simp [e])⟩
    have Pt : g'.get? s.heap.objs.size = some { cls := .type "tuple", data := .seq #[u1, u2] } := (hs'.2 _ (Nat.ne_of_gt ylt)).trans gt
    have mem5 : ∀ b, b ∈ [y, d, p, q] → b ∈ [y, ti, d, p, q] := fun b hb => by
      simp only [List.mem_cons, List.not_mem_nil, or_false] at hb ⊢
      rcases hb with e | e | e | e
      · exact .inl e
      · exact .inr (.inr (.inl e))
      · exact .inr (.inr (.inr (.inl e)))
      · exact .inr (.inr (.inr (.inr e)))
    have unt : ∀ b o, H b = some o → b ≠ y ∧ b ≠ d ∧ b ≠ p ∧ b ≠ q := fun b o e => by
      have f : ∀ c, c ∈ [y, d, p, q] → b ≠ c := fun c hc z => by
        have := (hf c (mem5 c hc)).1
        rw [← z, e] at this
        cases this
      exact ⟨f y (by simp), f d (by simp), f p (by simp), f q (by simp)⟩
    have I1 : Inv X pins σ (upd H s.heap.objs.size (.tup [v1, v2])) { s with heap := g' } := by
      refine I.step (g' := s.gens) (t' := s.toks) (d' := s.drawn) (ch := [y, d, p, q]) (fun b hb => ?_) (fun b o _ _ hc e _ => up b o (nch b hc).1 (nch b hc).2.1 (nch b hc).2.2.1 (nch b hc).2.2.2 e) (fun b o _ _ hc e _ => ⟨o.slots, up b o (nch b hc).1 (nch b hc).2.1 (nch b hc).2.2.1 (nch b hc).2.2.2 e⟩)
        (fun b o _ e n => ?_) (fun b o hc e => ⟨o, up b o (nch b hc).1 (nch b hc).2.1 (nch b hc).2.2.1 (nch b hc).2.2.2 e⟩) (fun b zs e => ?_) (fun b o zs e => ?_) (fun b ps e => ⟨#[], ?_⟩) (fun m hm => ?_) (fun b o e => ?_) I.bare
      · obtain ⟨f0, f1, f2, f3, f4, f5⟩ := hf b (mem5 b hb)
        exact ⟨f3, f1, f4, f5⟩
      · rw [upd_ne (Nat.ne_of_lt (Heap.lt_size e))]; exact n
      · rw [upd_ne (ne_of_none e HP)]; exact e
      · rw [upd_ne (ne_of_none e HP)]; exact e
      · rw [upd_ne (ne_of_none e HP), e]; simp
      · obtain ⟨o, es, ep, ho2, r⟩ := hm
        have ne : ∀ c, c ∈ [y, d, p, q] → X.env.locals ≠ c := fun c hc => Ne.symm (hf c (mem5 c hc)).2.1
        exact ⟨o, es, ep, up _ o (ne y (by simp)) (ne d (by simp)) (ne p (by simp)) (ne q (by simp)) ho2, r⟩
      · by_cases hb : b = s.heap.objs.size
        · subst hb
          rw [upd_same] at e
          cases e
          exact ⟨by show 2 ≤ sizeLine; decide, [u1, u2], .cons ru1 (.cons ru2 .nil), ⟨_, Pt, rfl, _, rfl⟩⟩
        · rw [upd_ne hb] at e
          refine (I.hok b o e).stay (fun c v hc z => ?_) (fun c z => ?_) fun c zs z => ?_
          · have nn : c ≠ y ∧ c ≠ d ∧ c ≠ p ∧ c ≠ q := by
              rcases hc with r | r
              · rw [r]; exact unt b o e
              · exact unt c _ r
            exact up c v nn.1 nn.2.1 nn.2.2.1 nn.2.2.2 z
          · rw [upd_ne (ne_of_none z HP)]; exact z
          · rw [upd_ne (ne_of_none z HP)]; exact z
    refine ⟨.ref s.heap.objs.size, _, I1, rfl, ⟨_, v1, v2, HP, rfl, rfl, fun zs ws h3 h4 => by rw [I.tuple_inj h3 hq1, I.tuple_inj h4 hq2]; exact ⟨hx, hy'⟩⟩, ⟨gy', (hs'.2 ti n1).trans (kp ti _ n1 n5 n6 n7 hti), ⟨_, _, (hs'.2 d n2).trans gd⟩, gp.at fun o z => (hs'.2 p n3).trans z, gq.at fun o z => (hs'.2 q n4).trans z⟩, fun b hb => ?_⟩
    have there : ∀ b, b ∈ [y, ti, d, p, q] → ∃ o, s.heap.get? b = some o := fun b hb => by
      have hb' : b = y ∨ b = ti ∨ b = d ∨ b = p ∨ b = q := by simpa using hb
      obtain ⟨op, e1, _⟩ := id h1
      obtain ⟨oq, e2, _⟩ := id h2
      rcases hb' with rfl | rfl | rfl | rfl | rfl
      · exact ⟨_, hy⟩
      · exact ⟨_, hti⟩
      · exact ⟨_, hd⟩
      · exact ⟨_, e1⟩
      · exact ⟨_, e2⟩
    obtain ⟨o, eo⟩ := there b hb
    rw [upd_ne (Nat.ne_of_lt (Heap.lt_size eo))]
    exact (hf b hb).1
  done := by
    intro X hP hw hK hc i pins s σ H E I hf st hg
    subst hP hw hK
    obtain ⟨xs, hq1, hx⟩ := hg
    obtain ⟨its, rv, pl, hz⟩ := I.tuple hq1
    obtain ⟨hy, hti, ⟨a0, b0, hd⟩, h1, h2⟩ := st
    have hl := rv.length
    refine zT_end (I.ok.hd hc) D hy hti h1 pl (by simp; omega) fun g kp => ⟨rfl, ?_⟩
    have nch : ∀ b, b ∉ [y, d, p, q] → b ≠ y ∧ b ≠ d ∧ b ≠ p ∧ b ≠ q := fun b z => ⟨fun e => z (by simp [e]), fun e => z (by simp [e]), fun e => z (by simp [e]), fun e => z (by simp [e])⟩
    have mem5 : ∀ b, b ∈ [y, d, p, q] → b ∈ [y, ti, d, p, q] := fun b hb => by
      simp only [List.mem_cons, List.not_mem_nil, or_false] at hb ⊢
      rcases hb with e | e | e | e
      · exact .inl e
      · exact .inr (.inr (.inl e))
      · exact .inr (.inr (.inr (.inl e)))
      · exact .inr (.inr (.inr (.inr e)))
    have unt : ∀ b o, H b = some o → b ≠ y ∧ b ≠ d ∧ b ≠ p ∧ b ≠ q := fun b o e => by
      have f : ∀ c, c ∈ [y, d, p, q] → b ≠ c := fun c hc z => by
        have := (hf c (mem5 c hc)).1
        rw [← z, e] at this
        cases this
      exact ⟨f y (by simp), f d (by simp), f p (by simp), f q (by simp)⟩
    refine I.step (g' := s.gens) (t' := s.toks) (d' := s.drawn) (ch := [y, d, p, q]) (fun b hb => ?_) (fun b o _ _ hc e _ => kp b o (nch b hc).1 (nch b hc).2.1 (nch b hc).2.2.1 (nch b hc).2.2.2 e) (fun b o _ _ hc e _ => ⟨o.slots, kp b o (nch b hc).1 (nch b hc).2.1 (nch b hc).2.2.1 (nch b hc).2.2.2 e⟩)
        (fun b o _ e n => n) (fun b o hc e => ⟨o, kp b o (nch b hc).1 (nch b hc).2.1 (nch b hc).2.2.1 (nch b hc).2.2.2 e⟩) (fun b zs e => e) (fun b o zs e => e) (fun b ps e => ⟨#[], by rw [e]; simp⟩) (fun m hm => ?_) (fun b o e => ?_) I.bare
    · obtain ⟨f0, f1, f2, f3, f4, f5⟩ := hf b (mem5 b hb)
      exact ⟨f3, f1, f4, f5⟩
    · obtain ⟨o, es, ep, ho2, r⟩ := hm
      have ne : ∀ c, c ∈ [y, d, p, q] → X.env.locals ≠ c := fun c hc => Ne.symm (hf c (mem5 c hc)).2.1
      exact ⟨o, es, ep, kp _ o (ne y (by simp)) (ne d (by simp)) (ne p (by simp)) (ne q (by simp)) ho2, r⟩
    · refine (I.hok b o e).stay (fun c v hc z => ?_) (fun c z => z) fun c zs z => z
      have nn : c ≠ y ∧ c ≠ d ∧ c ≠ p ∧ c ≠ q := by
        rcases hc with r | r
        · rw [r]; exact unt b o e
        · exact unt c _ r
      exact kp c v nn.1 nn.2.1 nn.2.2.1 nn.2.2.2 z
  self := fun _ _ _ _ _ st h => wpAny_pyIter_zip st.1 h

section
variable {X : Cx}
def iZip (K : PySem.W.Frag) (ta : TA) : TI := fun σ H R => ta σ H fun vs H1 => ∃ t u, vs = [.ref t, .ref u] ∧ (∃ xs, SqT K H1 t xs) ∧ (∃ ys, SqT K H1 u ys) ∧ R (Itz K t u) H1
theorem pi_zip {a b : Expr} {ta : TA} {elts : List Expr} {k : Nat} {p pos tpos : Pos} (hg : Gl X "zip") (hm : X.mg "zip" = none) (hv : bootBuiltins "zip" = some (.type "zip")) (ha : PA X [a, b] ta) (hs : starEach [a, b] X.env = (false, eval a X.env) :: starEach [b] X.env := by rfl) (hpl : (backTo pos (starEach [b] X.env)).any (·.1) = false := by rfl) :
    PI X (.Tuple elts k tpos) (.Call (.Name "zip" p) [a, b] [] pos) (iZip X.K ta) := by
  intro pins s σ H R I h
  refine Call_ (ld_blt I hg hm hv (PyProof.Rows.callWith_type1 (thn (ha pos pins s σ H _ I h) fun us s1 ⟨vs, H1, I1, r1, q1⟩ => ?_) hs hpl))
  obtain ⟨t, u, e, ⟨xs, hq⟩, ⟨ys, hq2⟩, q⟩ := q1
  subst e
  obtain ⟨v1, v2, rfl, ru, ru2⟩ := vals2 r1
  cases ru
  cases ru2
  obtain ⟨its, rv, pl, hz⟩ := I1.tuple hq
  obtain ⟨its2, rv2, pl2, hz2⟩ := I1.tuple hq2
  refine call_zipT pl pl2 fun g g1 g2 g3 g4 g5 kp => ?_
  have I2 : Inv X pins σ H1 { s1 with heap := g } := I1.kept (t' := s1.toks) kp
  have tl : t < s1.heap.objs.size := by obtain ⟨o, e, _⟩ := id pl; exact Heap.lt_size e
  have ul : u < s1.heap.objs.size := by obtain ⟨o, e, _⟩ := id pl2; exact Heap.lt_size e
  have D : ZAp (s1.heap.objs.size + 4) (s1.heap.objs.size + 2) (s1.heap.objs.size + 3) s1.heap.objs.size (s1.heap.objs.size + 1) t u := by
    generalize s1.heap.objs.size = n at tl ul
    have nt : ∀ k, t ≠ n + k := fun k => Nat.ne_of_lt (Nat.lt_of_lt_of_le tl (Nat.le_add_right n k))
    have nu : ∀ k, u ≠ n + k := fun k => Nat.ne_of_lt (Nat.lt_of_lt_of_le ul (Nat.le_add_right n k))
    have nt0 : t ≠ n := nt 0
    have nu0 : u ≠ n := nu 0
    refine ⟨?_, ?_, ?_⟩
    · simp
    · simp [nt, nt0]
    · simp [nu, nu0]
  refine wpAny_pyIter_zip g1 ⟨s1.heap.objs.size + 4, [s1.heap.objs.size + 4, s1.heap.objs.size + 2, s1.heap.objs.size + 3, s1.heap.objs.size, s1.heap.objs.size + 1], _, _, H1, rfl, I2, turn_zip D, ⟨g1, g2, ⟨_, _, g3⟩, g4, g5⟩, fun b hb => ?_, q⟩
  have hb' : s1.heap.objs.size ≤ b := by
    simp only [List.mem_cons, List.not_mem_nil, or_false] at hb
    rcases hb with e | e | e | e | e <;> rw [e]
    · exact Nat.le_add_right _ _
    · exact Nat.le_add_right _ _
    · exact Nat.le_add_right _ _
    · exact Nat.le_refl _
    · exact Nat.le_add_right _ _
  exact I1.fpOk hb' (I1.hok.fresh hb')
end
end L2

namespace L2
open PySem PySem.Spec PyProof.Rows
variable [TabPar]

section
variable {X : Cx}
/-! ### t + (x,) -/
def rSnocT (K : PySem.W.Frag) : R2 := fun x y H Q => ∃ a b xs v, x = .ref a ∧ y = .ref b ∧ SqT K H a xs ∧ H b = some (.tup [v]) ∧ xs.length + 1 ≤ sizeLine ∧ ∀ p H', Same H H' → H' p = some (.tup (xs ++ [v])) → Q (.ref p) H'
theorem op_snocT : OpR X (binaryOp .Add) (rSnocT X.K) := by
  intro pins s σ H x y v u Q I rx ry h
  obtain ⟨a, b, xs, z, rfl, rfl, ha, hb, hz, q⟩ := h
  cases rx
  cases ry
  obtain ⟨its, r1, p1, _⟩ := I.tuple ha
  obtain ⟨its2, r2, p2, _⟩ := I.tuple (SqT.of hb)
  by_cases hx : xs = []
  · subst hx
    have e1 : its = [] := r1.nil_iff.mpr rfl
    subst e1
    obtain ⟨⟨cls, dd, data, sl⟩, ho, hc, n, hd⟩ := id p1
    obtain ⟨⟨cls2, dd2, data2, sl2⟩, ho2, hc2, n2, hd2⟩ := id p2
    simp only at hc hd hc2 hd2
    subst hc hd hc2 hd2
    exact concat_meets ⟨_, ho, rfl⟩ ⟨_, ho2, rfl⟩ noFill_tuple_add seq_tuple_add PySem.F.slot_tuple_add PySem.F.entry_tuple_add (PySem.F.args_tuple_add_2 _ _) (tuple_addW0 a b _ its2.toArray n n2 dd dd2 sl sl2 (by simp)) ⟨ho, ho2, ⟨.ref b, H, I, rfl, q b H (Same.refl H) hb⟩⟩
  · refine HT.cat_tup p1 p2 (fun w => hx (r1.nil_iff.mp w)) (fun w => absurd (r2.nil_iff.mp w) (by simp)) (fun w => ?_) (by rw [← r1.length, ← r2.length]; exact hz)
    have hn := I.hok.fresh (Nat.le_refl s.heap.objs.size)
    refine ⟨.ref s.heap.objs.size, _, I.laid (t' := s.toks) (o := .tup (xs ++ [z])) (fun b ob w => Heap.get?_push_of_some _ w) (Nat.le_refl _) ?_, rfl, q _ _ (same_new hn _) upd_same⟩
    exact ⟨by rw [List.length_append]; exact hz, _, r1.append r2, IsTup.new _ _⟩
/-! ### xs[k] -= 1 -/
/-! ### a list or a tuple by its place -/
def SqE (K : PySem.W.Frag) (H : Hp) (a : Addr) (xs : List V) : Prop := SqL K H a xs ∨ SqT K H a xs
theorem Same.sqe {K : PySem.W.Frag} {H H' : Hp} {a : Addr} {xs : List V} (e : Same H H') (h : SqE K H a xs) : SqE K H' a xs := h.elim (fun h => .inl (e.seq h)) fun h => .inr (e.tup h)
def rIxE (K : PySem.W.Frag) : R2 := fun x y H Q => ∃ p xs i v, x = .ref p ∧ y = .int i ∧ SqE K H p xs ∧ atI xs i = some v ∧ Q v H
theorem ix_either : IxR X (rIxE X.K) := by
  intro value slice pins s σ H x y v u Q I rx ry h hs
  obtain ⟨p, xs, i, z, e1, e2, hq, he, q⟩ := h
  rcases hq with hq | hq
  · exact ix_list value slice pins s σ H x y v u Q I rx ry ⟨p, xs, i, z, e1, e2, hq, he, q⟩ hs
  · exact ix_tup value slice pins s σ H x y v u Q I rx ry ⟨p, xs, i, z, e1, e2, hq, he, q⟩ hs
variable {own : List Str} {scope : Scope} {C : Addr} {s₀ : Shared} {H₀ : Hp} {ex : List Addr}
theorem pe_bmB {o e : Expr} {es : List Expr} {to : TE} {t : TA} {name : Str} {apos cpos : Pos} {T id : String} {r : V → List V → Hp → VK → Prop} (pa : PlainAttrs T) (slot : Slot T name id) (hty : typeOf (.builtin id) = pure (.type "method_descriptor")) (hm : MtR (blk X own scope C s₀ H₀ ex) id r)
    (ho : PE (blk X own scope C s₀ H₀ ex) o to) (ha : PA (blk X own scope C s₀ H₀ ex) (e :: es) t)
    (h1 : attributeBase o name (blk X own scope C s₀ H₀ ex).env (eval o (blk X own scope C s₀ H₀ ex).env) = eval o (blk X own scope C s₀ H₀ ex).env := by rfl)
    (h2 : ((backTo cpos (starEach (e :: es) (blk X own scope C s₀ H₀ ex).env)).all (fun x => !x.1) && (backToKw cpos (keywordEach [] (blk X own scope C s₀ H₀ ex).env)).all (fun x => x.1.isSome) && decide ((e :: es).length + ([] : List Keyword).length + (if ([] : List Keyword).isEmpty then 0 else 1) < 30)) = true := by rfl)
    (h3 : (apos.endLine == cpos.line) = true := by rfl) (h4 : starEach (e :: es) (blk X own scope C s₀ H₀ ex).env = (false, eval e (blk X own scope C s₀ H₀ ex).env) :: starEach es (blk X own scope C s₀ H₀ ex).env := by rfl) (h5 : (backTo cpos (starEach es (blk X own scope C s₀ H₀ ex).env)).any (·.1) = false := by rfl) :
    PE (blk X own scope C s₀ H₀ ex) (.Call (.Attribute o name apos) (e :: es) [] cpos) (tBM X.K T r to t) := pe_bm (X := blk X own scope C s₀ H₀ ex) pa slot hty hm ho ha h1 h2 h3 h4 h5
theorem ix_eitherB : IxR (blk X own scope C s₀ H₀ ex) (rIxE X.K) := ix_either
theorem op_snocTB : OpR (blk X own scope C s₀ H₀ ex) (binaryOp .Add) (rSnocT X.K) := op_snocT
end
section
variable {K : PySem.W.Frag} {σ : St} {H : Hp} {Q : VK} {t u : Addr} {xs ys : List V} {te : TE}
/-- [e for x, y in zip(t, u)], nothing that is tracked changes -/
theorem comp_zip0 (F : Nat → V) (h1 : SqT K H t xs) (h2 : SqT K H u ys) (hl : xs.length ≤ 1000) (he : ys.length = xs.length)
    (step : ∀ (i : Nat) (x y : V) (H1 : Hp) (R : V → Hp → Prop), xs[i]? = some x → ys[i]? = some y → Same H H1 → (∀ H4, Same H1 H4 → R (F i) H4) → te (some x :: some y :: σ) H1 R)
    (fin : retL H ((List.range xs.length).map F) Q) : CompEnd (Itz K t u) 2 (g2 K) tNoIf te σ H Q := by
  refine ⟨fun i m zs H1 => m = xs.length - i ∧ i ≤ xs.length ∧ Same H H1 ∧ zs = (List.range i).map F, ⟨xs.length, by simp, Nat.zero_le _, Same.refl H, rfl⟩, ?_⟩
  rintro i m zs H1 os hos ⟨rfl, hi, hs, rfl⟩
  have q1 := hs.tup h1
  have q2 := hs.tup h2
  by_cases hlt : i < xs.length
  · have hlt2 : i < ys.length := by omega
    refine .inr ⟨⟨xs, ys, xs[i], ys[i], q1, q2, by simp [hlt], by simp [hlt2]⟩, small1000 (by rw [List.length_map, List.length_range]; omega), fun zs' H' => Same H H' ∧ zs' = (List.range (i + 1)).map F, fun zs' H' ⟨a1, a2⟩ => ⟨xs.length - (i + 1), by omega, rfl, hlt, a1, a2⟩, ?_⟩
    rintro v H' ⟨p, x, y, hp, rfl, rfl, hv⟩
    obtain ⟨hx, hy⟩ := hv xs ys q1 q2
    have hs' : Same H (upd H1 p (.tup [x, y])) := hs.trans (same_new hp _)
    obtain ⟨o1, o2, rfl⟩ : ∃ o1 o2, os = [o1, o2] := by
      match os, hos with
      | [o1, o2], _ => exact ⟨o1, o2, rfl⟩
    refine ⟨p, _, rfl, SqT.of upd_same, rfl, _, _, rfl, _, _, rfl, rfl, ⟨[some x, some y], rfl, rfl⟩, ?_⟩
    refine iteT (B := False) ?_
    refine step i x y _ _ hx hy hs' fun H4 h4 => ⟨hs'.trans h4, ?_⟩
    rw [List.range_succ, List.map_append]
    rfl
  · have e : i = xs.length := by omega
    subst e
    exact .inl ⟨⟨xs, q1, Nat.le_refl _⟩, fun D hD => fin D _ (hs.free hD) (hs.trans (same_new hD _)) upd_same⟩
end
section
variable {P : Program} {w : World} {K : PySem.W.Frag} {mg : Str → Option Value} {base : Heap} {x : Str} {ps N : List Str} {st : Stmt} {k : Nat} {sp : Sp}
/-- the rule for a def, with its code's value -/
theorem Tx.okC (T : Tx K mg x ps st) (S : FnScope N ps (defScope st)) (len : ∀ vs H Q E, sp vs H Q E → vs.length = ps.length)
    (hbody : ∀ (f : Addr) (cdv : Value), (∃ (fd : FuncData) (oc : Value) (od : Option Addr) (osl : Array (Option Value)), mg x = some (.ref f) ∧ K.lookup f = some ⟨oc, od, .func fd, osl⟩ ∧ fd.code = cdv) →
      ∀ (A : Around) (outer : List Env) (s : Shared) (H : Hp) (vs : List V) (Q : VK) (E : XK), Room k (A.deeper (envOfC x (defScope st) s.heap.objs.size f cdv)) → sp vs H Q E →
      ∃ t, PSs (cxOf CX0 P w K mg base N x (defScope st) f cdv A outer s H E).nox (defBody st) t ∧ t { nx := fun _ H' => Q .non H', rt := Q } (start N vs) H) : Df P w K mg base (k + 1) x ps sp := by
  obtain ⟨f, fd, F, b, m⟩ := T
  obtain ⟨oc, od, kV, doc, pm, an, cdv, ct, osl, rfl, lk, hcd⟩ := F.ex
  refine ⟨f, _, fn_of lk hcd S len fun A outer s H vs Q E hr hsp => ?_, b, F.kp, m, oc, od, osl, lk⟩
  obtain ⟨t, h, q⟩ := hbody f cdv ⟨_, oc, od, osl, m, lk, rfl⟩ A outer s H vs Q E hr hsp
  exact ⟨t, h.nox, q⟩
end
end L2

namespace L2
open PySem PySem.Spec PyProof.Rows
variable [TabPar]

/-- THE HEAD where one code table may grow: tc the code, PT its table -/
theorem law_callT {P : Program} {w : World} {K : PySem.W.Frag} {mg mb : Str → Option Value} {CX : CXT} {k : Nat} {fa a tc PT : Addr} {fd : FuncData} {x : Str} {sp : Sp} {s₁ : Shared} {vs : List Value} {ns : List Int}
    (KX : K.In s₁.heap) (hns : s₁.heap.Ns mainGlobals mg) (hb : s₁.heap.Ns builtinsNs mb) (hbb : ∀ x : Str, x ≠ "__name__" → mb x = bootBuiltins x) (hlim : s₁.heap.NoLimit) (hg : s₁.gens = #[])
    (ha : s₁.heap.get? a = some { cls := .type "list", data := .seq vs.toArray }) (hi : IntsAre vs ns) (hl : ns.length ≤ sizeLine) (hr : Room k callerA)
    (hC : PySem.W.CodeHd s₁.heap tc PT) (hPT : s₁.heap.get? PT = some (PySem.W.tabObj #[])) (hKP : K.lookup PT = none) (hBm : s₁.heap.BuiltinsAt mg PT)
    (F : ∀ base : Heap, K.In base → base.Ns mainGlobals mg → PySem.W.CodeHd base tc PT → base.BuiltinsAt mg PT → FnOk P w K mg base CX k fa fd [x] sp) (hbind : ∀ (s : Shared) (u : Value), BindsTo s fd ⟨[u], []⟩ [(x, u)])
    (hsp : ∀ H : Hp, TabOk PT H → SqL K H a (ns.map V.int) → sp [.ref a] H (fun v _ => v = .bl true) fun _ _ _ => False)
    (hCX : ∀ H e s', CX [] H s₁ (fun _ _ _ => False) e s' → False) :
    codeAny (model P w) callerA (.call (.ref fa) ⟨[.ref a], []⟩) (fun r s' => r = .ok (.ret (.bool true)) ∧ OldK s₁.heap s'.heap ∧ s'.os = s₁.os ∧ AllBare s'.gens) s₁ := by
  have rv := vals_ints hi
  have lenV := hi.length
  have neA : PT ≠ a := fun e => by rw [e, ha] at hPT; cases hPT
  have core : ∀ H : Hp, H PT = some (.tbl #[]) → (∀ b, b ≠ PT → H b = none ∨ (b = a ∧ K.lookup a = none ∧ ∃ o xs, H b = some (.frz o (.lst xs)))) → SqL K H a (ns.map V.int) → HOk P w H s₁.heap →
      codeAny (model P w) callerA (.call (.ref fa) ⟨[.ref a], []⟩) (fun r s' => r = .ok (.ret (.bool true)) ∧ OldK s₁.heap s'.heap ∧ s'.os = s₁.os ∧ AllBare s'.gens) s₁ := by
    intro H hP hO hS hok
    have free : ∀ {b : Addr} {o : Obj}, s₁.heap.get? b = some o → o.cls ≠ .none → o.cls ≠ .type "list" → H b = none := fun {b o} e c1 c2 => by
      by_cases hbP : b = PT
      · rw [hbP, hPT] at e
        cases e
        exact absurd rfl c1
      · rcases hO b hbP with z | ⟨z, _⟩
        · exact z
        · rw [z, ha] at e
          cases e
          exact absurd rfl c2
    have freeD : ∀ {b : Addr} {o : Obj} {es : Array DictEntry} {ep : Nat}, s₁.heap.get? b = some o → o.data = .dict es ep → H b = none := fun {b o es ep} e d => by
      by_cases hbP : b = PT
      · rw [hbP, hPT] at e
        cases e
        cases d
      · rcases hO b hbP with z | ⟨z, _⟩
        · exact z
        · rw [z, ha] at e
          cases e
          have d' : Data.seq vs.toArray _ = Data.dict es ep := d
          cases d'
    have nsK : ∀ {b : Addr} {m : Str → Option Value}, s₁.heap.Ns b m → (hidT s₁.heap H).Ns b m := fun {b m} ⟨o, es, ep, e, d, r⟩ => ⟨o, es, ep, hidT_get e (freeD e d), d, r⟩
    have hKb : K.In (hidT s₁.heap H) := fun b o e => hidT_get (KX b o e) (by
      by_cases hbP : b = PT
      · rw [hbP, hKP] at e; cases e
      · rcases hO b hbP with z | ⟨z, z2, _⟩
        · exact z
        · rw [z, z2] at e; cases e)
    have hM : Mod K mg (hidT s₁.heap H) := ⟨hKb, nsK hns, ⟨mb, nsK hb, hbb⟩, let ⟨mc, h1, h2⟩ := hlim; ⟨mc, nsK h1, h2⟩⟩
    have hCb : PySem.W.CodeHd (hidT s₁.heap H) tc PT := by
      obtain ⟨o, ws, file, tf, flags, tg, inF, text, tt, e, c, r⟩ := hC
      exact ⟨o, ws, file, tf, flags, tg, inF, text, tt, hidT_get e (free e (by rw [c]; exact fun z => by cases z) (by rw [c]; decide)), c, r⟩
    have hBb : (hidT s₁.heap H).BuiltinsAt mg PT := by
      obtain ⟨bm, o, h1, h2, h3, h4, h5, c, r⟩ := hBm
      exact ⟨bm, o, h1, h2, h3, h4, hidT_get h5 (free h5 (by rw [c]; exact fun z => by cases z) (by rw [c]; decide)), c, r⟩
    have e0 : Env0 P w K mg (hidT s₁.heap H) callerA [] s₁ H := ⟨rfl, hM, fun b o e => of_hidT e, Nat.le_of_eq (hidT_size _ _), trivial, fun b hb => absurd (show b ∈ ([] : List Addr) from hb) (by simp), hok, .of_eq hg⟩
    refine codeAny_mono ((F _ hKb (nsK hns) hCb hBb).run callerA [] s₁ H ⟨[.ref a], []⟩ [.ref a] [.ref a] _ _ hr e0 (hbind s₁ (.ref a)) (.cons rfl .nil) (hsp H (.inl hP) hS)) fun r s' h => ?_
    cases r with
    | error e => exact (hCX H e s' h).elim
    | ok fl =>
      cases fl with
      | next => exact False.elim h
      | brk => exact False.elim h
      | cont => exact False.elim h
      | ret u =>
        obtain ⟨v, H', os, bare, un, hok', r', q⟩ := h
        have q' : v = .bl true := q
        subst q'
        obtain rfl : u = Value.bool true := r'
        have keep : ∀ b o, b ≠ PT → s₁.heap.get? b = some o → s'.heap.get? b = some o := fun b o hbP e => by
          rcases hO b hbP with z | ⟨_, _, ob, xs, z⟩
          · exact un.keep b o e z (by intro y; exact absurd (show b ∈ ([] : List Addr) from y) (by simp)) (by simp)
          · have z2 := un.frzs b ob _ z
            obtain ⟨e1, _⟩ := hok b _ z
            obtain ⟨e2, _⟩ := hok' b _ z2
            rw [e] at e1; cases e1
            exact e2
        obtain ⟨more, em⟩ := un.tbls PT _ hP
        have hP' : s'.heap.get? PT = some (PySem.W.tabObj (#[] ++ more)) := hok' PT _ em
        refine ⟨rfl, ⟨fun b o e => ?_, fun b o e => ?_⟩, os, bare⟩
        · by_cases hbP : b = PT
          · subst hbP
            have e' := e
            rw [hPT] at e'
            cases e'
            exact .inr (.inl ⟨(hC.tab hPT).isCodeTable, rfl, #[], more, rfl, hP'⟩)
          · exact .inl (keep b o hbP e)
        · by_cases hbP : b = PT
          · subst hbP
            exact ⟨_, hP'⟩
          · exact ⟨o, keep b o hbP e⟩
  cases hk : K.lookup a with
  | some o =>
    have e := KX a o hk
    rw [ha] at e
    cases e
    refine core (fun b => if b = PT then some (.tbl #[]) else none) (if_pos rfl) (fun b hb => .inl (if_neg hb)) (.inr ⟨_, vs.toArray, _, hk, rfl, rfl, rfl, by rw [List.size_toArray, lenV]; exact hl, by simpa using rv⟩) (fun b u z => ?_)
    by_cases hbP : b = PT
    · have z' := (if_pos hbP).symm.trans z
      cases z'
      subst hbP
      exact hPT
    · have z' := (if_neg hbP).symm.trans z
      cases z'
  | none =>
    refine core (fun b => if b = PT then some (.tbl #[]) else if b = a then some (.frz { cls := .type "list", data := .seq vs.toArray } (.lst (ns.map V.int))) else none) (if_pos rfl) (fun b hb => ?_) (.inl (.inr ⟨{ cls := .type "list", data := .seq vs.toArray }, (if_neg (Ne.symm neA)).trans (if_pos rfl)⟩)) (fun b u z => ?_)
    · by_cases hba : b = a
      · exact .inr ⟨hba, hk, _, _, (if_neg hb).trans (if_pos hba)⟩
      · exact .inl ((if_neg hb).trans (if_neg hba))
    · by_cases hbP : b = PT
      · have z' := (if_pos hbP).symm.trans z
        cases z'
        subst hbP
        exact hPT
      · have z1 := (if_neg hbP).symm.trans z
        by_cases hba : b = a
        · have z' := (if_pos hba).symm.trans z1
          cases z'
          subst hba
          exact ⟨ha, by rw [List.length_map]; exact hl, vs, _, rv, ha⟩
        · have z' := (if_neg hba).symm.trans z1
          cases z'

/-- best_pick's code and its table, by the written part -/
def tabCP (K : PySem.W.Frag) : Addr × Addr := (PySem.W.tabIn K "best_pick").getD (0, 0)
/-- the facts of the lambda's making, over a base -/
def LamF (K : PySem.W.Frag) (mg : Str → Option Value) (base : Heap) : Prop :=
  (∀ (f : Addr) (fd : FuncData) (oc : Value) (od : Option Addr) (osl : Array (Option Value)), mg "best_pick" = some (.ref f) → K.lookup f = some ⟨oc, od, .func fd, osl⟩ → ∃ c, fd.code = .ref c ∧ PySem.W.CodeHd base c (tabCP K).2) ∧ base.BuiltinsAt mg (tabCP K).2
theorem walk_ofT {l : PySem.W.OpenLaw} {n k : Nat} {q : Program} {loose : List Str} {XP : (Str → Option Value) → Heap → Prop} {YP : World → Heap → Prop} {d : DefRec} {K : Params → PySem.W.Frag} {CX : World → CXT} {sp : World → Sp} {x : Str} {ts : List Addr}
    (hn : l.most = some n) (hn2 : n ≤ sizeLine) (hdf : d.params.defaults = []) (hr : Room k callerA)
    (hY : ∀ (w : World) (h : Heap), YP w h → (K w.params).In h) (hYt : ∀ (w : World) (h : Heap), YP w h → ∀ P ∈ ts, h.get? P = some (PySem.W.tabObj #[]))
    (h1 : ∀ w : World, PySem.W.codeHdIn (K w.params) (tabCP (K w.params)).1 (tabCP (K w.params)).2 = true) (h2 : ∀ w : World, ((K w.params).lookup (tabCP (K w.params)).2).isNone = true) (h3 : ∀ w : World, ts.contains (tabCP (K w.params)).2 = true)
    (F : ∀ (w : World) (mg : Str → Option Value) (fa : Addr) (h : Heap), (K w.params).In h → h.Ns mainGlobals mg → mg d.name = some (.ref fa) →
      ∃ fd : FuncData, (∀ (s : Shared) (u : Value), BindsTo s fd ⟨[u], []⟩ [(x, u)]) ∧
        ∀ base : Heap, (K w.params).In base → base.Ns mainGlobals mg → LamF (K w.params) mg base → FnOk l.prog w (K w.params) mg base (CX w) k fa fd [x] (sp w))
    (hsp : ∀ (w : World) (H : Hp) (a : Addr) (ns : List Int), ns.length ≤ n → TabOk (tabCP (K w.params)).2 H → SqL (K w.params) H a (ns.map V.int) → sp w [.ref a] H (fun v _ => v = .bl true) fun _ _ _ => False)
    (hCX : ∀ (w : World) (H : Hp) (s : Shared) (e : Value) (s' : Shared), CX w [] H s (fun _ _ _ => False) e s' → False) :
    PySem.W.WalkO q loose XP YP l.row.toRowW d [] (fun f vs => PySem.call f vs) := by
  refine Att.attach_call hn hdf fun w s₀ s₁ mg mb fa o pm cd doc a vs ns G Y ho hd hcd hmg hobj hints hlen hg => ?_
  have KX := hY w _ Y
  obtain ⟨fd, hb, hF⟩ := F w mg fa _ KX G.T.g hmg
  have hC := PySem.W.codeHd_of_K KX (h1 w)
  have hPT := hYt w _ Y (tabCP (K w.params)).2 (by have := h3 w; simpa using this)
  have hKP : (K w.params).lookup (tabCP (K w.params)).2 = none := by have := h2 w; simpa using this
  have ht : PySem.W.tabIn (K w.params) "best_pick" = some (tabCP (K w.params)) := by
    have e := h1 w
    unfold tabCP at e ⊢
    cases q : PySem.W.tabIn (K w.params) "best_pick" with
    | some r => rfl
    | none =>
      rw [q] at e
      exfalso
      have ne : ∀ {h : Heap} {c P : Addr}, PySem.W.CodeHd h c P → c ≠ P := fun ⟨_, _, _, _, _, _, _, _, _, _, _, _, _, _, _, _, _, _, z⟩ => z
      exact ne (PySem.W.codeHd_of_K KX e) rfl
  have hBm : s₁.heap.BuiltinsAt mg (tabCP (K w.params)).2 := by
    obtain ⟨bm, ob, b1, b2, b3, b4, b5, b6⟩ := G.T.bmain
    refine ⟨bm, ob, b1, b2, fun e => ?_, fun e => ?_, b3, b4, b5, b6⟩
    · obtain ⟨o', es, ep, e', hd', _⟩ := G.T.g
      rw [e, e'] at b3; cases b3; rw [hd'] at b6; cases b6
    · rw [e, hPT] at b3; cases b3; cases b4
  refine law_callT KX G.T.g G.T.b G.T.builtins G.T.nolimit hg hobj hints (Nat.le_trans hlen hn2) hr hC hPT hKP hBm (fun base kb nb cb bb => hF base kb nb ⟨fun f fd' oc od osl hm lk => ?_, bb⟩) hb (fun H hO hS => hsp w H a ns hlen hO hS) fun H e s' => hCX w H s₁ e s'
  exact ⟨_, PySem.W.law_code kb nb ht hm (kb _ _ lk) rfl, cb⟩
/-! ### a name that a block has too: its slot is forgotten while the statement runs -/
abbrev Cx.hid (X : Cx) (k : Nat) : Cx := { X with N := X.N.set k "" }
section
variable {X : Cx} {pins : List (Addr × Obj)} {σ : St} {H : Hp} {s : Shared} {k : Nat}
theorem Inv.hid (I : Inv X pins σ H s) (hz : X.env.scope.names.lookup ("" : Str) = none) : Inv (X.hid k) pins (σ.set k none) H s := by
  refine ⟨⟨I.ok.mod, I.ok.kind, I.ok.glob, I.ok.blt, I.ok.above, I.ok.inj, I.ok.has, I.ok.cab, I.ok.hd, I.ok.frames, I.ok.stk, I.ok.exf, I.ok.bs, I.ok.bsz, I.ok.noex, I.ok.exfs, I.ok.funs, I.ok.frf⟩, I.os, I.bare, I.base, ?_, I.cell, I.free, I.freeC, I.pin, I.hok, ?_⟩
  · obtain ⟨m, hn, hl⟩ := I.loc
    refine ⟨m, hn, fun i x v e1 e2 e3 => ?_⟩
    have e1' : (X.N.set k "")[i]? = some x := e1
    rw [List.getElem?_set] at e1' e2
    by_cases hi : k = i
    · rw [if_pos hi] at e2
      split at e2 <;> cases e2
    · rw [if_neg hi] at e1' e2
      exact hl i x v e1' e2 e3
  · rw [List.length_set]
    show σ.length = (X.N.set k "").length
    rw [List.length_set]
    exact I.len
def tHide (k : Nat) (t : TS) : TS := fun D σ H => t { nx := fun σ' H' => (∀ v, σ'[k]? ≠ some (some v)) ∧ D.nx σ' H', rt := D.rt, bk := fun _ _ => False, ct := fun _ _ => False } (σ.set k none) H
end
end L2

namespace L2
open PySem PySem.Spec PyProof.Rows
variable [TabPar]

/-! ### texts -/
section
variable {X : Cx}
def rSlS : V → Option Int → Option Int → Hp → VK → Prop := fun x lo hi H Q => ∃ z, x = .str z ∧ z.length ≤ sizeLine ∧ Q (.str (Txt.slice z lo hi)) H
def rJoin (K : PySem.W.Frag) : V → List V → Hp → VK → Prop := fun x vs H Q => ∃ sep D texts, x = .str sep ∧ vs = [.ref D] ∧ SqL K H D (texts.map V.str) ∧ JoinOk sep texts = true ∧ Q (.str (Txt.join sep texts)) H
def findT (x y : Str) : Int := match Builtin.Str.occurrences x y 0 x.length 1 with | i :: _ => (i : Int) | [] => -1
def rFind : V → List V → Hp → VK → Prop := fun x vs H Q => ∃ z y, x = .str z ∧ vs = [.str y] ∧ Q (.int (findT z y)) H
/-! ### for c in text (plain signs) -/
def Its (x : Str) : It := ⟨fun i _ => i < x.cps.size, fun i H v H' => H' = H ∧ ∃ c, x.cps[i]? = some c ∧ v = .str ⟨#[c]⟩, fun i _ => x.cps.size ≤ i⟩
def iStr (tl : TE) : TI := fun σ H R => tl σ H fun x H1 => ∃ z, x = .str z ∧ z.cps.all (· < 128) = true ∧ R (Its z) H1
/-- a text at the module's top -/
def CstS (mg : Str → Option Value) (x : Str) (z : Str) : Prop := ∃ u, mg x = some u ∧ RelV (.str z) u
variable {own : List Str} {scope : Scope} {C : Addr} {s₀ : Shared} {H₀ : Hp} {ex : List Addr}
end
section
variable {K : PySem.W.Frag} {σ : St} {H : Hp} {Q : VK} {te : TE}
end
end L2

namespace L2
open PySem PySem.Spec PyProof.Rows
variable [TabPar]

/-! ### sorted: what comes out is a rearrangement -/
inductive Lf (n : Nat) {α : Type} (P : α → Prop) : PySem.W.KasT α → Prop
  | ret {a : α} : P a → Lf n P (.ret a)
  | ask {i j : Nat} {k : Bool → PySem.W.KasT α} : i < n → j < n → (∀ b, Lf n P (k b)) → Lf n P (.ask i j k)
theorem Lf.bind {n : Nat} {α β : Type} {P : α → Prop} {R : β → Prop} {t : PySem.W.KasT α} {f : α → PySem.W.KasT β} (h : Lf n P t) (hf : ∀ a, P a → Lf n R (f a)) : Lf n R (t.bind f) := by
  induction h with
  | ret h => exact hf _ h
  | ask h1 h2 _ ih => exact .ask h1 h2 ih
def PermA (n : Nat) (p : Array Nat) : Prop := p.toList.Perm (List.range n)
theorem PermA.lt {n : Nat} {p : Array Nat} (h : PermA n p) (hn : 0 < n) (i : Nat) : p.getD i 0 < n := by
  by_cases hi : i < p.size
  · have e : p.getD i 0 = p[i] := by simp [Array.getD, hi]
    rw [e]
    exact List.mem_range.mp (h.mem_iff.mp (by simp))
  · have e : p.getD i 0 = 0 := by simp [Array.getD, hi]
    rw [e]
    exact hn
theorem PermA.of {n : Nat} {p q : Array Nat} (h : PermA n p) (k : q.Perm p) : PermA n q := (Array.perm_iff_toList_perm.mp k).trans h
section
variable {prog : Program} {w : World} {A : Around} {E : Value → Shared → Prop} {s : Shared}
/-- how the items are compared: nothing changes, any answer may come -/
def Asks (prog : Program) (w : World) (A : Around) (vs : List Value) (s : Shared) : Prop :=
  ∃ κ, (∀ Q : SortKind → Shared → Prop, Q κ s → wpAny (model prog w) A (keyKind' vs.toArray) Q (fun _ _ => False) s) ∧
    ∀ i j C, i < vs.length → j < vs.length → (∀ b, C b s) → PySem.W.kas_ask prog w A κ vs i j C s
end
/-! ### .. of pairs of numbers -/
def IsPair (h : Heap) (v : Value) : Prop := ∃ a o n i t j u, v = .ref a ∧ h.get? a = some o ∧ o.cls = .type "tuple" ∧ o.data = .seq #[.int i t, .int j u] n
section
variable {X : Cx}
theorem ints_vals : ∀ {vs : List Value} {ns : List Int}, IntsAre vs ns → Vals (ns.map V.int) vs
  | _, _, .nil => .nil
  | _, _, .cons _ _ t => .cons ⟨_, rfl⟩ (ints_vals t)
/-- sorted(list of numbers) -/
theorem call_sortI : CallR X (.builtin "sorted") (fun xs H Q => ∃ l, ∃ ns : List Int, xs = [.ref l] ∧ SqL X.K H l (ns.map V.int) ∧ ns.length < 64 ∧
    ∀ D (ns' : List Int), H D = none → ns'.Perm ns → ns'.Pairwise (· ≤ ·) → Q (.ref D) (upd H D (.lst (ns'.map V.int)))) := by
  intro pins s σ H xs us Q I r h
  obtain ⟨l, ns, rfl, hq, h64, q⟩ := h
  obtain ⟨u, rfl, rx⟩ := vals1 r
  cases rx
  obtain ⟨its, r', pl, hz⟩ := I.list hq
  have hlen := r'.length
  rw [List.length_map] at hlen
  refine sorted_ints pl.isList (intsAre_of r') (by omega) fun out ns' a1 a2 a3 => ?_
  obtain ⟨e, he⟩ := sortedAll_at s.heap its out
  refine ⟨.ref (s.heap.objs.size + 1), _, I.laid (t' := s.toks) (o := .lst (ns'.map V.int)) (fun b o e => sortedAll_old e) (Nat.le_succ _) ?_, rfl, q _ ns' (I.hok.fresh (Nat.le_succ _)) a2 a3⟩
  refine ⟨?_, out.toList, e, ints_vals a1, he⟩
  rw [List.length_map, a2.length_eq]
  have : ns.length < sizeLine := small1000 (by omega)
  omega
end
end L2

namespace L2
open PySem PySem.Spec PyProof.Rows
variable [TabPar]

/-! ### an exception that leaves a comprehension -/
section
variable {M : Model} {A : Around} {E : Value → Shared → Prop} {s : Shared}
end
section
variable {X : Cx} {pins : List (Addr × Obj)} {σ : St} {H : Hp} {s : Shared} {own : List Str} {scope : Scope} {fp : List Addr}
end
section
variable {P : Program} {w : World} {K : PySem.W.Frag} {mg : Str → Option Value} {base : Heap} {N : List Str} {qual : Str} {scope0 : Scope} {f : Addr} {cd : Value} {A : Around} {outer : List Env} {s0 : Shared} {H0 : Hp} {E : XK}
  {pins : List (Addr × Obj)} {σ : St} {H : Hp} {s : Shared} {own : List Str} {scope : Scope} {fp : List Addr}
/-- what is asked of an exception within the block -/
def compX (X : Cx) (cenv : Env) (x : Value) (s' : Shared) : Prop :=
  ∃ m, s'.heap.Ns cenv.locals m ∧ ∀ h', Heap.SameBut cenv.locals s'.heap h' → wpAny (model X.prog X.w) X.A (PySem.passOn "comprehension.variables-let-go" x cenv : Sem Value) (fun _ _ => False) X.xe { s' with heap := h' }
end
end L2

namespace L2
open PySem PySem.Spec PyProof.Rows
variable [TabPar]

section
variable {M : Model} {A : Around} {E : Value → Shared → Prop} {s : Shared} {env : Env}
end
section
variable {X : Cx} {pins : List (Addr × Obj)} {σ : St} {H : Hp} {s : Shared} {own : List Str} {scope : Scope} {fp : List Addr}
end
section
variable {P : Program} {w : World} {K : PySem.W.Frag} {mg : Str → Option Value} {base : Heap} {N : List Str} {qual : Str} {scope0 : Scope} {f : Addr} {cd : Value} {A : Around} {outer : List Env} {s0 : Shared} {H0 : Hp} {E : XK}
  {own : List Str} {scope : Scope} {elt tg iter : Expr} {ifs : List Expr} {pos : Pos} {wi : TI} {g : TG} {tt : TT} {te : TE}
end
end L2

namespace L2
open PySem PySem.Spec PyProof.Rows
variable [TabPar]
theorem RoomH.mono {j k : Nat} {A : Around} (r : RoomH k A) (h : j ≤ k) : RoomH j A := ⟨by have := r.dp; omega, by have := r.un; omega⟩
theorem DfH.mono {P : Program} {w : World} {K : PySem.W.Frag} {mg : Str → Option Value} {base : Heap} {x : Str} {ps : List Str} {j k : Nat} {sp : Sp} (D : DfH P w K mg base j x ps sp) (h : j ≤ k) : DfH P w K mg base k x ps sp := by
  obtain ⟨f, fd, F, z⟩ := D
  exact ⟨f, fd, ⟨F.len, fun A outer s H args us vs Q E hr => F.run A outer s H args us vs Q E (hr.mono h)⟩, z⟩
/-- what is known of the i-th of five classes of errors -/
structure ErrC (K : PySem.W.Frag) (C C0 C1 C2 C3 C4 : Addr) (i : Nat) : Prop where
  k : ExcK K C
  cs : (PySem.W.clsIn K C).isSome = true
  t0 : PySem.W.kitOne K (.ref C) (.ref C0) = some (0 == i)
  t1 : PySem.W.kitOne K (.ref C) (.ref C1) = some (1 == i)
  t2 : PySem.W.kitOne K (.ref C) (.ref C2) = some (2 == i)
  t3 : PySem.W.kitOne K (.ref C) (.ref C3) = some (3 == i)
  t4 : PySem.W.kitOne K (.ref C) (.ref C4) = some (4 == i)
  tv : PySem.W.kitOne K (.ref C) (.type "ValueError") = some true
section
variable {K : PySem.W.Frag} {σ : St} {H : Hp} {Q : VK} {te : TE}
end
end L2

namespace L2
open PySem PySem.Spec PyProof.Rows
/-! ### a dict whose keys are pairs: a tuple of ints, and an int -/
abbrev NK := List Int × Int
/-- raw entries -/
abbrev KN (H : Hp) : List (NK × V) → List (NK × Addr × Value) → Prop := Paired fun p q => p.1 = q.1 ∧ (∃ b, H q.2.1 = some (.tup [.ref b, V.int p.1.2]) ∧ H b = some (.tup (p.1.1.map V.int))) ∧ RelV p.2 q.2.2
theorem KN.val {H : Hp} {kvs : List (NK × V)} {xs : List (NK × Addr × Value)} (r : KN H kvs xs) (k : NK) : RelO (valV kvs k) ((atKey xs k).map (·.2)) := by
  induction r with
  | nil => exact True.intro
  | @cons p q ps qs h t ih =>
    obtain ⟨h1, _, h2⟩ := h
    by_cases e : p.1 = k
    · have e' : q.1 = k := h1.symm.trans e
      have b : atKey (q :: qs) k = some q.2 := by simp [atKey, List.find?_cons, e']
      rw [valV_pos e, b]; exact h2
    · have e' : ¬ q.1 = k := fun z => e (h1.trans z)
      have b : atKey (q :: qs) k = atKey qs k := by simp [atKey, List.find?_cons, e']
      rw [valV_neg e, b]; exact ih
theorem KN.repl {H : Hp} {kvs : List (NK × V)} {xs : List (NK × Addr × Value)} (r : KN H kvs xs) (k : NK) {y : V} {u : Value} (ry : RelV y u) :
    KN H (kvs.map fun kv => if kv.1 = k then (kv.1, y) else kv) (xs.map (putAt k u)) := by
  induction r with
  | nil => exact .nil
  | @cons p q ps qs h t ih =>
    rw [List.map_cons, List.map_cons]
    refine .cons ?_ ih
    obtain ⟨h1, h2, h3⟩ := h
    unfold putAt
    by_cases e : p.1 = k
    · rw [if_pos e, if_pos (h1.symm.trans e)]; exact ⟨h1, h2, ry⟩
    · rw [if_neg e, if_neg (fun z => e (h1.trans z))]; exact ⟨h1, h2, h3⟩
theorem KN.put {H : Hp} {kvs : List (NK × V)} {xs : List (NK × Addr × Value)} (r : KN H kvs xs) (k : NK) {c b : Addr} {y : V} {u : Value} (hc : H c = some (.tup [.ref b, V.int k.2])) (hb : H b = some (.tup (k.1.map V.int))) (ry : RelV y u) :
    KN H (putK kvs k y) (storedH xs k c u) := by
  have e : (kvs.any fun kv => decide (kv.1 = k)) = (atKey xs k).isSome := by
    rw [valV_any, (r.val k).isSome_eq, Option.isSome_map]
  unfold putK storedH
  rw [e]
  by_cases q : (atKey xs k).isSome = true
  · rw [if_pos q, if_pos q]; exact r.repl k ry
  · rw [if_neg q, if_neg q]; exact Paired.snoc r ⟨rfl, ⟨b, hc, hb⟩, ry⟩
theorem KN.keeps {H H' : Hp} {kvs : List (NK × V)} {xs : List (NK × Addr × Value)} (r : KN H kvs xs) (ht : ∀ b ys, H b = some (.tup ys) → H' b = some (.tup ys)) : KN H' kvs xs :=
  Paired.mapP r fun _ _ z => ⟨z.1, ⟨z.2.1.choose, ht _ _ z.2.1.choose_spec.1, ht _ _ z.2.1.choose_spec.2⟩, z.2.2⟩
section
variable {P : Program} {w : World} {H : Hp} {h : Heap} {a : Addr}
theorem key_ofN {k : NK} {b : Addr} (ok : HOk P w H h) (e : H a = some (.tup [.ref b, V.int k.2])) (eb : H b = some (.tup (k.1.map V.int))) : (pairKind P w).is h k a := by
  obtain ⟨_, its, r, ht⟩ := (show ObjOk P w H h a (.tup [.ref b, V.int k.2]) from ok a _ e)
  obtain ⟨_, us, r', hb⟩ := (show ObjOk P w H h b (.tup (k.1.map V.int)) from ok b _ eb)
  cases r with
  | cons r1 r2 =>
    cases r2 with
    | cons r3 r4 =>
      cases r4
      cases (show _ = Value.ref b from r1)
      obtain ⟨t, rfl⟩ := r3
      exact ⟨b, t, ht, us, hb, r'⟩
theorem dn_of {kvs : List (NK × V)} (ok : HOk P w H h) (e : H a = some (.dN kvs)) : kvs.length ≤ sizeLine ∧ (a == sysModules) = false ∧
    ∃ xs, KN H kvs xs ∧ h.DictOfH (pairKind P w) a xs := by
  obtain ⟨z, y, xs, r, o, es, ep, h1, h2, h3, h4, h5⟩ := (show ObjOk P w H h a (.dN kvs) from ok a _ e)
  refine ⟨z, y, xs, r, o, es, ep, h1, h2, h3, h4, fun x hx => ?_, h5⟩
  have all : ∀ {l : List (NK × V)} {m : List (NK × Addr × Value)}, KN H l m → ∀ x ∈ m, (pairKind P w).is h x.1 x.2.1 := by
    intro l m q
    induction q with
    | nil => intro x hx; exact nomatch hx
    | @cons p q ps qs hq t ih =>
      intro x hx
      rcases List.mem_cons.mp hx with e | hx
      · subst e
        obtain ⟨hq1, ⟨b, hq2, hq3⟩, _⟩ := hq
        exact key_ofN ok (by rw [← hq1]; exact hq2) (by rw [← hq1]; exact hq3)
      · exact ih x hx
  exact all r x hx
end
/-- what the dict at a holds at the key y -/
def NGet (H : Hp) (a : Addr) (y : V) (r : Option V) : Prop := ∃ kvs k c b, H a = some (.dN kvs) ∧ y = .ref c ∧ H c = some (.tup [.ref b, V.int k.2]) ∧ H b = some (.tup (k.1.map V.int)) ∧ r = valV kvs k
/-- the heap behind a[y] = v -/
def NPut (H : Hp) (a : Addr) (y v : V) (H' : Hp) : Prop := ∃ kvs k c b, H a = some (.dN kvs) ∧ y = .ref c ∧ H c = some (.tup [.ref b, V.int k.2]) ∧ H b = some (.tup (k.1.map V.int)) ∧ kvs.length < sizeLine ∧ H' = upd H a (.dN (putK kvs k v))
theorem NGet.t {H : Hp} {a c b : Addr} {kvs : List (NK × V)} {k : NK} (e : H a = some (.dN kvs)) (ec : H c = some (.tup [.ref b, V.int k.2])) (eb : H b = some (.tup (k.1.map V.int))) : NGet H a (.ref c) (valV kvs k) := ⟨kvs, k, c, b, e, rfl, ec, eb, rfl⟩
theorem NPut.t {H : Hp} {a c b : Addr} {kvs : List (NK × V)} {k : NK} {v : V} (e : H a = some (.dN kvs)) (ec : H c = some (.tup [.ref b, V.int k.2])) (eb : H b = some (.tup (k.1.map V.int))) (hl : kvs.length < sizeLine) :
    NPut H a (.ref c) v (upd H a (.dN (putK kvs k v))) := ⟨kvs, k, c, b, e, rfl, ec, eb, hl, rfl⟩
theorem NotX.dN {H : Hp} {r : Addr} {xs : List (NK × V)} (h : H r = some (.dN xs)) : NotX H r := fun φ e => by rw [h] at e; cases e
section
variable {X : Cx} {pins : List (Addr × Obj)} {σ : St} {H : Hp} {s : Shared} {a : Addr} {y v : V} {u r : Value} {o : Option V} {A : Around} {E : Value → Shared → Prop}
theorem n_getItem {Q : Value → Shared → Prop} (hu : A.units + 2 < cLine) (I : Inv X pins σ H s) (g : NGet H a y (some v)) (ry : RelV y u) (h : ∀ w' s', Inv X pins σ H s' → RelV v w' → Q w' s') :
    wpAny (model X.prog X.w) A (getItem (.ref a) u) Q E s := by
  obtain ⟨kvs, k, c, b, e, ey, ec, eb, l⟩ := g
  subst ey
  cases (show u = Value.ref c from ry)
  obtain ⟨z, hd, xs, rel, dd⟩ := dn_of I.hok e
  obtain ⟨w', hw, rw'⟩ := RelO.some_of (v := v) (o := (atKey xs k).map (·.2)) (by rw [l]; exact rel.val k)
  obtain ⟨p, hp, hp2⟩ := Option.map_eq_some_iff.mp hw
  refine wpAny_getItem_heap (knd := pairKind X.prog X.w) hu (key_ofN I.hok ec eb) dd hp ?_
  rw [hp2]
  exact h w' _ (I.tok _) rw'
theorem n_in {Q : Value → Shared → Prop} (hu : A.units + 2 < cLine) (I : Inv X pins σ H s) (g : NGet H a y o) (ry : RelV y u) (h : ∀ s', Inv X pins σ H s' → Q (.bool o.isSome) s') :
    wpAny (model X.prog X.w) A (compareOp .In u (.ref a)) Q E s := by
  obtain ⟨kvs, k, c, b, e, ey, ec, eb, l⟩ := g
  subst ey
  cases (show u = Value.ref c from ry)
  obtain ⟨z, hd, xs, rel, dd⟩ := dn_of I.hok e
  refine wpAny_in_heap (knd := pairKind X.prog X.w) hu (key_ofN I.hok ec eb) hd dd ?_
  have q := (rel.val k).isSome_eq
  rw [Option.isSome_map] at q
  rw [← q, ← l]
  exact h _ (I.tok _)
theorem n_setItem {H' : Hp} {Q : Unit → Shared → Prop} (hu : A.units + 2 < cLine) (I : Inv X pins σ H s) (g : NPut H a y v H') (ry : RelV y u) (rv : RelV v r) (h : ∀ s', Inv X pins σ H' s' → Q () s') :
    wpAny (model X.prog X.w) A (setItem (.ref a) u r) Q E s := by
  obtain ⟨kvs, k, c, b, e, ey, ec, eb, l, eH⟩ := g
  subst ey eH
  cases (show u = Value.ref c from ry)
  obtain ⟨z, hd, xs, rel, dd⟩ := dn_of I.hok e
  have hz : xs.length ≤ sizeLine := by rw [← Paired.length rel]; exact z
  have hl : (putK kvs k v).length ≤ sizeLine := by have := length_putK kvs k v; omega
  refine wpAny_setItem_heap (knd := pairKind X.prog X.w) (hsz := hz) hu (key_ofN I.hok ec eb) dd fun h' dd' hs => h _ ?_
  obtain ⟨q, es, ep, hq, h2, h3, h4, _, h5⟩ := dd'
  refine d_write I (by rw [e]; exact True.intro) hs ⟨q, hq⟩ ⟨hl, hd, _, (rel.put k ec eb rv).keeps fun c ys ec => ?_, q, es, ep, hq, h2, h3, h4, h5⟩
  rw [upd_ne (ne_of ec e (fun z => nomatch z))]
  exact ec
theorem dn_typeIs (I : Inv X pins σ H s) (g : NGet H a y o) : s.TypeIs (.ref a) "dict" := by
  obtain ⟨kvs, k, c, b, e, _⟩ := g
  obtain ⟨_, _, xs, _, dd⟩ := dn_of I.hok e
  exact dd.typeIs
end
def tNGet (td ty : TE) : TE := fun σ H Q => td σ H fun x H1 => ty σ H1 fun y H2 => ∃ a v, x = .ref a ∧ NGet H2 a y (some v) ∧ Q v H2
def tNIn (ty td : TE) : TE := fun σ H Q => ty σ H fun y H1 => td σ H1 fun x H2 => ∃ a o, x = .ref a ∧ NGet H2 a y o ∧ Q (.bl o.isSome) H2
def sNPut (td ty tv : TE) : TS := fun D σ H => tv σ H fun v H1 => td σ H1 fun x H2 => ty σ H2 fun y H3 => ∃ a H4, x = .ref a ∧ NPut H3 a y v H4 ∧ D.nx σ H4
section
variable {X : Cx} {o i e value : Expr} {pos pos' tpos : Pos} {td ty tv : TE}
theorem pe_nget (hu : X.A.units + 2 < cLine) (ho : PE X o td) (hi : PE X i ty) (hs : NoSl i) : PE X (.Subscript o i pos) (tNGet td ty) := by
  intro pins s σ H Q I h
  refine subD_of PySem.F.slot_dict_getitem.lookup hs (thn (ho pins s σ H _ I h) fun u s1 ⟨x, H1, I1, rx, q1⟩ => thn (hi pins s1 σ H1 _ I1 q1) fun iv s2 ⟨y, H2, I2, ry, a, v, ex, g, q2⟩ => ?_)
  subst ex
  obtain rfl : u = Value.ref a := rx
  exact ⟨dn_typeIs I2 g, n_getItem hu I2 g ry fun w' s3 I3 rw' => ⟨v, H2, I3, rw', q2⟩⟩
theorem pc_nin (hu : X.A.units + 2 < cLine) (hi : PE X i ty) (ho : PE X o td) : PC X .In i o (tNIn ty td) := by
  intro pins s σ H Q I h
  refine thn (hi pins s σ H _ I h) fun iv s1 ⟨y, H1, I1, ry, q1⟩ => thn (ho pins s1 σ H1 _ I1 q1) fun u s2 ⟨x, H2, I2, rx, a, ov, ex, g, q2⟩ => ?_
  subst ex
  obtain rfl : u = Value.ref a := rx
  exact n_in hu I2 g ry fun s3 I3 => ⟨.bl ov.isSome, H2, I3, rfl, q2⟩
theorem ps_nput (hu : X.A.units + 2 < cLine) (ho : PE X o td) (hi : PE X i ty) (hv : PE X value tv) (hs : swapsWith value (some (.Subscript o i pos')) pos.line X.env = pure false) :
    PS X (.Assign [.Subscript o i pos'] value pos) (sNPut td ty tv) := by
  intro pins s σ H D I h
  refine wpAny_Assign_Subscript (thn (hv pins s σ H _ I h) fun r s1 ⟨v, H1, I1, rv, q1⟩ => thn (ho pins s1 σ H1 _ I1 q1) fun u s2 ⟨x, H2, I2, rx, q2⟩ => thn (hi pins s2 σ H2 _ I2 q2) fun iv s3 ⟨y, H3, I3, ry, a, H4, ex, g, q3⟩ => ?_) hs
  subst ex
  obtain rfl : u = Value.ref a := rx
  exact n_setItem hu I3 g ry rv fun s4 I4 => ⟨σ, H4, I4, q3⟩
theorem dn_empty {P : Program} {w : World} {H : Hp} (h : Heap) (hb : sysModules < h.objs.size) : ObjOk P w H (h.push { cls := .type "dict", data := .dict #[] }) h.objs.size (.dN []) :=
  ⟨Nat.zero_le _, beq_eq_false_iff_ne.mpr (Ne.symm (Nat.ne_of_lt hb)), [], .nil, _, #[], 0, Heap.get?_push_size _ rfl, ⟨rfl, rfl, rfl⟩, rfl, rfl, List.nodup_nil⟩
def tDNewN : TE := fun _ H Q => ∀ p, H p = none → Q (.ref p) (upd H p (.dN []))
theorem pe_dnewN : PE X (.Dict [] [] pos) tDNewN := fun pins s σ H Q I h =>
  wpAny_Dict_empty ⟨.ref s.heap.objs.size, _, I.laid (a := s.heap.objs.size) (o := .dN []) (t' := s.toks) (fun _ _ q => Heap.get?_push_of_some _ q) (Nat.le_refl _) (dn_empty s.heap I.big), rfl, h _ (I.hok.fresh (Nat.le_refl _))⟩
end
theorem hu_of2 {A : Around} {k : Nat} (hr : Room k A) : A.units + 2 < cLine := Nat.lt_of_le_of_lt (Nat.add_le_add_left (by decide : 2 ≤ 64) _) hr.units
end L2

namespace My
open PySem L2
instance tabPar : TabPar := ⟨rawInt 38, rawInt 43, "best_pick.<locals>.<lambda>"⟩
def top (i : Nat) : Stmt := PySem.Challenge.pw_lieask_k03_needs_of_few.main.body.getD i (.Pass ⟨0, 0, 0, 0⟩)
abbrev s_check_lies : Stmt := top 7
abbrev s_check_things : Stmt := top 8
abbrev s_check_marks : Stmt := top 9
abbrev s_need : Stmt := top 11
abbrev s_tally_of : Stmt := top 12
abbrev s_is_found : Stmt := top 13
abbrev s_need_of : Stmt := top 14
abbrev s_best_pick : Stmt := top 15
abbrev s_need_behind : Stmt := top 16
abbrev s_moved : Stmt := top 17
abbrev s_picks_that_tell : Stmt := top 18
abbrev s_all_picks : Stmt := top 19
abbrev s_l_cell_at : Stmt := top 21
abbrev s_l_whole : Stmt := top 22
abbrev s_l_marks_by : Stmt := top 23
abbrev s_l_asked_by : Stmt := top 24
abbrev s_l_after : Stmt := top 25
abbrev s_l_stands : Stmt := top 26
abbrev s_l_enough : Stmt := top 27
abbrev s_law : Stmt := top 28
section
variable {P : Program} {w : World} {K : PySem.W.Frag} {mg : Str → Option Value} {base : Heap} {n : Nat}
theorem flat_ints : ∀ ms : List Int, (ms.map V.int).all flatV = true
  | [] => rfl
  | _ :: r => flat_ints r
theorem at_nat {ns : List Int} {k : Int} (h0 : 0 ≤ k) (h : k < (ns.length : Int)) : atI (ns.map V.int) k = some (.int (ns.getD k.toNat 0)) := by
  have hk : k.toNat < ns.length := by omega
  have ek : k = ((k.toNat : Nat) : Int) := by omega
  have q : atI (ns.map V.int) ((k.toNat : Nat) : Int) = some (.int (ns.getD k.toNat 0)) := atI_nat (by rw [List.getElem?_map, List.getElem?_eq_getElem hk, List.getD_eq_getElem?_getD, List.getElem?_eq_getElem hk]; rfl)
  rw [← ek] at q
  exact q
theorem getD_beyond {ns : List Int} {k : Nat} (h : ns.length ≤ k) : ns.getD k 0 = 0 := by
  rw [List.getD_eq_getElem?_getD, List.getElem?_eq_none h]
  rfl
theorem sc_check_lies : FnScope ["lies"] ["lies"] (defScope s_check_lies) := ⟨rfl, rfl, rfl, by decide +kernel, rfl, by decide +kernel, by decide +kernel⟩
def sp_check_lies (K : PySem.W.Frag) : Sp := fun vs H Q E => ∃ (l : Int), vs = [.int l] ∧ (0 ≤ l) ∧ (l ≤ 2) ∧ (Q .non H)
theorem ok_check_lies (T : Tx K mg "check_lies" ["lies"] s_check_lies) (c_MOST_LIES : Cst mg "MOST_LIES" 2) : Df P w K mg base (n + 1) "check_lies" ["lies"] (sp_check_lies K) := by
  refine T.ok sc_check_lies (fun vs H Q E h => ?_) (fun f cdv A outer s H vs Q E hr h => ?_)
  · obtain ⟨l, rfl, _⟩ := h
    rfl
  obtain ⟨l, rfl, h0, h2, q⟩ := h
  have nd := sc_check_lies.nd
  refine ⟨_, (pss_one (ps_if (PW.pt (pw_or (pt_cmpR op_lt (pv 0) pe_int (nomark _)) (pw_or1 (pt_cmpR op_gt (pv 0) (pe_cst c_MOST_LIES rfl) (nomark _))))) (pss_one ps_never) pss_nil)), ?_⟩
  refine ⟨_, rfl, _, _, rfl, rfl, _, rfl, ?_⟩
  refine ite2 (fun c => absurd (of_decide_eq_true c) (by omega)) fun _ => ?_
  refine ⟨_, rfl, _, _, rfl, rfl, _, rfl, ?_⟩
  refine ite2 (fun c => absurd (of_decide_eq_true c) (by omega)) fun _ => ?_
  exact q
theorem sc_check_things : FnScope ["things"] ["things"] (defScope s_check_things) := ⟨rfl, rfl, rfl, by decide +kernel, rfl, by decide +kernel, by decide +kernel⟩
def sp_check_things (K : PySem.W.Frag) : Sp := fun vs H Q E => ∃ (l : Int), vs = [.int l] ∧ (1 ≤ l) ∧ (l ≤ 8) ∧ (Q .non H)
theorem ok_check_things (T : Tx K mg "check_things" ["things"] s_check_things) (c_MOST_THINGS : Cst mg "MOST_THINGS" 8) : Df P w K mg base (n + 1) "check_things" ["things"] (sp_check_things K) := by
  refine T.ok sc_check_things (fun vs H Q E h => ?_) (fun f cdv A outer s H vs Q E hr h => ?_)
  · obtain ⟨l, rfl, _⟩ := h
    rfl
  obtain ⟨l, rfl, h0, h2, q⟩ := h
  have nd := sc_check_things.nd
  refine ⟨_, (pss_one (ps_if (PW.pt (pw_or (pt_cmpR op_lt (pv 0) pe_int (nomark _)) (pw_or1 (pt_cmpR op_gt (pv 0) (pe_cst c_MOST_THINGS rfl) (nomark _))))) (pss_one ps_never) pss_nil)), ?_⟩
  refine ⟨_, rfl, _, _, rfl, rfl, _, rfl, ?_⟩
  refine ite2 (fun c => absurd (of_decide_eq_true c) (by omega)) fun _ => ?_
  refine ⟨_, rfl, _, _, rfl, rfl, _, rfl, ?_⟩
  refine ite2 (fun c => absurd (of_decide_eq_true c) (by omega)) fun _ => ?_
  exact q
/-- marks of some things, by the lies -/
structure Good (l : Int) (ms : List Int) : Prop where
  lo : 0 ≤ l
  hi : l ≤ 2
  few : 1 ≤ ms.length
  most : ms.length ≤ 8
  each : ∀ m ∈ ms, 0 ≤ m ∧ m ≤ l + 1
theorem sc_check_marks : FnScope ["marks", "lies", "mark"] ["marks", "lies"] (defScope s_check_marks) := ⟨rfl, rfl, rfl, by decide +kernel, rfl, by decide +kernel, by decide +kernel⟩
def sp_check_marks (K : PySem.W.Frag) : Sp := fun vs H Q E => ∃ (a : Addr) (l : Int) (ms : List Int), vs = [.ref a, .int l] ∧ (SqL K H a (ms.map V.int)) ∧ (Good l ms) ∧ (Q .non H)
theorem ok_check_marks (T : Tx K mg "check_marks" ["marks", "lies"] s_check_marks) (D_check_things : Df P w K mg base n "check_things" ["things"] (sp_check_things K)) (m_len : mg "len" = none) : Df P w K mg base (n + 1) "check_marks" ["marks", "lies"] (sp_check_marks K) := by
  refine T.ok sc_check_marks (fun vs H Q E h => ?_) (fun f cdv A outer s H vs Q E hr h => ?_)
  · obtain ⟨a, l, ms, rfl, _⟩ := h
    rfl
  obtain ⟨a, l, ms, rfl, hS, g, q⟩ := h
  have nd := sc_check_marks.nd
  refine ⟨_, (pss_cons (ps_expr (pe_callD D_check_things hr rfl (pa_cons (pe_callB call_len_seq rfl m_len PySem.boot_len (pa_cons (pv 0) pa_nil)) pa_nil))) (pss_one (ps_for PassesOwn.never rfl (pi_list (pv 0)) (pg_name (i := 2) nd rfl (Or.inl rfl)) (pss_one (ps_if (PW.pt (pw_or (pt_cmpR op_lt (pv 2) pe_int (nomark _)) (pw_or1 (pt_cmpR op_gt (pv 2) (pe_op op_add (pv 1) pe_int) (nomark _))))) (pss_one ps_never) pss_nil))))), ?_⟩
  have hl : (ms.map V.int).length = ms.length := List.length_map _
  refine ⟨_, rfl, a, _, rfl, .inl hS, _, rfl, by rw [hl]; have := g.few; omega, by rw [hl]; have := g.most; omega, ?_⟩
  refine ⟨_, rfl, a, rfl, ⟨_, hS⟩, ?_⟩
  refine for_list (xs := ms.map V.int) (fun i σ H1 => H1 = H ∧ ∃ o, σ = [some (.ref a), some (.int l), o]) ⟨rfl, _, rfl⟩ (fun i σ H1 _ h => by rw [h.1]; exact hS) ?_ ?_
  · rintro i x σ H1 hx ⟨rfl, o, rfl⟩
    obtain ⟨m, hm, rfl⟩ : ∃ m, ms[i]? = some m ∧ x = .int m := by
      rw [List.getElem?_map] at hx
      cases e : ms[i]? with
      | none => rw [e] at hx; cases hx
      | some m => rw [e] at hx; cases hx; exact ⟨m, rfl, rfl⟩
    have gm := g.each m (List.mem_of_getElem? hm)
    refine ⟨_, rfl, _, _, rfl, rfl, _, rfl, ?_⟩
    refine ite2 (fun c => absurd (of_decide_eq_true c) (by omega)) fun _ => ?_
    refine ⟨_, rfl, _, rfl, _, _, rfl, rfl, _, _, rfl, rfl, _, rfl, ?_⟩
    refine ite2 (fun c => absurd (of_decide_eq_true c) (by omega)) fun _ => ?_
    exact ⟨rfl, _, rfl⟩
  · rintro σ H1 ⟨rfl, _⟩
    exact q
/-- rising from above last, below n -/
def Rise (last n : Int) : List Int → Prop
  | [] => True
  | q :: r => last < q ∧ q < n ∧ Rise q n r
def mAfter (m l : Int) (lied : Bool) : Int := if lied = true then (if l + 1 < m + 1 then l + 1 else m + 1) else m
def isIn (qs : List Int) (i : Int) : Bool := inV (.int i) (qs.map V.int)
def afterM (ms : List Int) (l : Int) (qs : List Int) (yes : Bool) : List Int := (List.range ms.length).map fun i => mAfter (ms.getD i 0) l (!decide (V.bl (isIn qs (i : Int)) = V.bl yes))
theorem aft_len (ms : List Int) (l : Int) (qs : List Int) (yes : Bool) : (afterM ms l qs yes).length = ms.length := by
  unfold afterM
  simp
theorem aft_good {l : Int} {ms : List Int} (g : Good l ms) (qs : List Int) (yes : Bool) : Good l (afterM ms l qs yes) := by
  have h1 := g.lo
  refine ⟨g.lo, g.hi, by rw [aft_len]; exact g.few, by rw [aft_len]; exact g.most, fun m hm => ?_⟩
  unfold afterM at hm
  obtain ⟨i, hi, rfl⟩ := List.mem_map.mp hm
  have hi' : i < ms.length := List.mem_range.mp hi
  have ge := g.each _ (List.getElem_mem hi')
  have e : ms.getD i 0 = ms[i] := by rw [List.getD_eq_getElem?_getD, List.getElem?_eq_getElem hi']; rfl
  rw [e]
  unfold mAfter
  split
  · split <;> omega
  · exact ge
def standM (ms : List Int) (l : Int) : List Int := ((List.range ms.length).filter fun i => decide (ms.getD i 0 ≤ l)).map fun (i : Nat) => (i : Int)
theorem sc_l_cell_at : FnScope ["script", "k"] ["script", "k"] (defScope s_l_cell_at) := ⟨rfl, rfl, rfl, by decide +kernel, rfl, by decide +kernel, by decide +kernel⟩
def sp_l_cell_at (K : PySem.W.Frag) : Sp := fun vs H Q E => ∃ (a : Addr) (ns : List Int) (k : Int), vs = [.ref a, .int k] ∧ (SqL K H a (ns.map V.int)) ∧ (0 ≤ k) ∧ (Q (.int (ns.getD k.toNat 0)) H)
theorem ok_l_cell_at (T : Tx K mg "_law_cell_at" ["script", "k"] s_l_cell_at) (m_len : mg "len" = none) : Df P w K mg base (n + 1) "_law_cell_at" ["script", "k"] (sp_l_cell_at K) := by
  refine T.ok sc_l_cell_at (fun vs H Q E h => ?_) (fun f cdv A outer s H vs Q E hr h => ?_)
  · obtain ⟨a, ns, k, rfl, _⟩ := h
    rfl
  obtain ⟨a, ns, k, rfl, hS, h0, q⟩ := h
  have nd := sc_l_cell_at.nd
  refine ⟨_, (pss_cons (ps_if (pt_cmpR op_lt (pv 1) (pe_callB call_len_seq rfl m_len PySem.boot_len (pa_cons (pv 0) pa_nil)) (nomark _)) (pss_one (ps_ret (pe_ix ix_list (pv 0) (pv 1) (fun _ _ => rfl)))) pss_nil) (pss_one (ps_ret pe_int))), ?_⟩
  have hl : (ns.map V.int).length = ns.length := List.length_map _
  refine ⟨_, rfl, _, rfl, a, _, rfl, .inl hS, _, _, rfl, rfl, _, rfl, ?_⟩
  refine ite2 (fun c => ?_) fun c => ?_
  · have c' : k < (((ns.map V.int).length : Nat) : Int) := of_decide_eq_true c
    rw [hl] at c'
    exact ⟨_, rfl, _, rfl, a, _, k, _, rfl, rfl, hS, at_nat h0 c', q⟩
  · have c' : ¬ k < (((ns.map V.int).length : Nat) : Int) := of_decide_eq_false (Bool.eq_false_iff.mpr c)
    rw [hl] at c'
    rw [getD_beyond (by omega)] at q
    exact q
theorem sc_l_whole : FnScope ["found"] ["found"] (defScope s_l_whole) := ⟨rfl, rfl, rfl, by decide +kernel, rfl, by decide +kernel, by decide +kernel⟩
def sp_l_whole (K : PySem.W.Frag) : Sp := fun vs H Q E => ∃ (i : Int), vs = [.int i] ∧ (Q (.bl true) H)
theorem ok_l_whole (T : Tx K mg "_law_whole" ["found"] s_l_whole) (m_isinstance : mg "isinstance" = none) (m_bool : mg "bool" = none) (m_int : mg "int" = none) : Df P w K mg base (n + 1) "_law_whole" ["found"] (sp_l_whole K) := by
  refine T.ok sc_l_whole (fun vs H Q E h => ?_) (fun f cdv A outer s H vs Q E hr h => ?_)
  · obtain ⟨i, rfl, _⟩ := h
    rfl
  obtain ⟨i, rfl, q⟩ := h
  have nd := sc_l_whole.nd
  refine ⟨_, (pss_one (ps_ret (pe_and (pe_callB call_isinst rfl m_isinstance PyProof.Rows.boot_isinstance (pa_cons (pv 0) (pa_cons (pe_bltn (v := .ty "int") rfl m_int PyProof.Rows.boot_int rfl) pa_nil))) (pe_one (pe_not (pe_callB call_isinst rfl m_isinstance PyProof.Rows.boot_isinstance (pa_cons (pv 0) (pa_cons (pe_bltn (v := .ty "bool") rfl m_bool PyProof.Rows.boot_bool rfl) pa_nil)))))))), ?_⟩
  refine ⟨_, rfl, _, _, _, true, rfl, .int i, rfl, true, rfl, ?_⟩
  refine iteT ?_
  exact ⟨_, rfl, _, _, _, false, rfl, .int i, rfl, false, rfl, q⟩
def liesBy (ns : List Int) : Int := ns.getD 0 0 % 3
def thingsBy (ns zs : List Int) : Int := 1 + ns.getD 1 0 % zs.getD (liesBy ns).toNat 0
def marksBy (ns zs : List Int) : List Int := if 0 < ns.getD 2 0 % 3 then (List.range (thingsBy ns zs).toNat).map fun i => ns.getD (3 + i) 0 % (liesBy ns + 2) else (List.range (thingsBy ns zs).toNat).map fun _ => 0
/-- three sizes of one to eight -/
structure Sizes (zs : List Int) : Prop where
  len : zs.length = 3
  each : ∀ z ∈ zs, 1 ≤ z ∧ z ≤ 8
theorem liesBy_lo (ns : List Int) : 0 ≤ liesBy ns := by unfold liesBy; omega
theorem liesBy_hi (ns : List Int) : liesBy ns ≤ 2 := by unfold liesBy; omega
theorem Sizes.at {zs : List Int} (h : Sizes zs) (ns : List Int) : 1 ≤ zs.getD (liesBy ns).toNat 0 ∧ zs.getD (liesBy ns).toNat 0 ≤ 8 := by
  have h1 := liesBy_lo ns
  have h2 := liesBy_hi ns
  have hk : (liesBy ns).toNat < zs.length := by rw [h.len]; omega
  rw [List.getD_eq_getElem?_getD, List.getElem?_eq_getElem hk]
  exact h.each _ (List.getElem_mem hk)
theorem thingsBy_lo {zs : List Int} (h : Sizes zs) (ns : List Int) : 1 ≤ thingsBy ns zs ∧ thingsBy ns zs ≤ 8 := by
  have h1 := h.at ns
  unfold thingsBy
  have h2 := Int.emod_nonneg (ns.getD 1 0) (b := zs.getD (liesBy ns).toNat 0) (by omega)
  have h3 := Int.emod_lt_of_pos (ns.getD 1 0) (b := zs.getD (liesBy ns).toNat 0) (by omega)
  omega
theorem marksBy_len (ns zs : List Int) : (marksBy ns zs).length = (thingsBy ns zs).toNat := by
  unfold marksBy
  split <;> simp
theorem marksBy_good {zs : List Int} (h : Sizes zs) (ns : List Int) : Good (liesBy ns) (marksBy ns zs) := by
  have h1 := liesBy_lo ns
  have h2 := liesBy_hi ns
  have h3 := thingsBy_lo h ns
  refine ⟨h1, h2, by rw [marksBy_len]; omega, by rw [marksBy_len]; omega, fun m hm => ?_⟩
  unfold marksBy at hm
  split at hm
  · obtain ⟨i, _, rfl⟩ := List.mem_map.mp hm
    have h4 := Int.emod_nonneg (ns.getD (3 + i) 0) (b := liesBy ns + 2) (by omega)
    have h5 := Int.emod_lt_of_pos (ns.getD (3 + i) 0) (b := liesBy ns + 2) (by omega)
    omega
  · obtain ⟨i, _, rfl⟩ := List.mem_map.mp hm
    omega
theorem sc_l_marks_by : FnScope ["script", "sizes", "lies", "things", "marks"] ["script", "sizes"] (defScope s_l_marks_by) := ⟨rfl, rfl, rfl, by decide +kernel, rfl, by decide +kernel, by decide +kernel⟩
def sp_l_marks_by (K : PySem.W.Frag) : Sp := fun vs H Q E => ∃ (a : Addr) (b : Addr) (ns : List Int) (zs : List Int), vs = [.ref a, .ref b] ∧ (SqL K H a (ns.map V.int)) ∧ (SqL K H b (zs.map V.int)) ∧ (Sizes zs) ∧ (∀ r p H', H r = none → H p = none → Same H H' → H' r = some (.lst ((marksBy ns zs).map V.int)) → H' p = some (.tup [.ref r, .int (liesBy ns)]) → Q (.ref p) H')
theorem ok_l_marks_by (T : Tx K mg "_law_marks_by" ["script", "sizes"] s_l_marks_by) (D_l_cell_at : Df P w K mg base n "_law_cell_at" ["script", "k"] (sp_l_cell_at K)) (m_range : mg "range" = none) : Df P w K mg base (n + 1) "_law_marks_by" ["script", "sizes"] (sp_l_marks_by K) := by
  refine T.ok sc_l_marks_by (fun vs H Q E h => ?_) (fun f cdv A outer s H vs Q E hr h => ?_)
  · obtain ⟨a, b, ns, zs, rfl, _⟩ := h
    rfl
  obtain ⟨a, b, ns, zs, rfl, hS, hZ, gz, q⟩ := h
  have nd := sc_l_marks_by.nd
  have nb1 : List.Nodup (["thing", "script", "sizes", "lies", "things", "marks"] : List Str) := by decide +kernel
  have nb2 : List.Nodup (["thing", "script", "sizes", "lies", "things", "marks"] : List Str) := by decide +kernel
  refine ⟨_, (pss_cons (ps_set (i := 2) nd rfl (Or.inr rfl) (pe_op op_mod (pe_callD D_l_cell_at hr rfl (pa_cons (pv 0) (pa_cons pe_int pa_nil))) pe_int)) (pss_cons (ps_set (i := 3) nd rfl (Or.inl rfl) (pe_op op_add pe_int (pe_op op_mod (pe_callD D_l_cell_at hr rfl (pa_cons (pv 0) (pa_cons pe_int pa_nil))) (pe_ix ix_list (pv 1) (pv 2) (fun _ _ => rfl))))) (pss_cons (ps_setComp (j := 4) (own := ["thing"]) rfl nd rfl (Or.inl rfl) (BlkScope.mk' (xs := defScope s_l_marks_by) (N := ["script", "sizes", "lies", "things", "marks"]) rfl rfl rfl (by decide +kernel)) (pi_range1 rfl m_range (pa_cons (pv 3) pa_nil)) (fun C s₀ H₀ ex => pg1B nb2) (fun C s₀ H₀ ex => pif_nil) (fun C s₀ H₀ ex => pe_int)) (pss_cons (ps_if (pt_cmpR op_gt (pe_op op_mod (pe_callD D_l_cell_at hr rfl (pa_cons (pv 0) (pa_cons pe_int pa_nil))) pe_int) pe_int (nomark _)) (pss_one (ps_setComp (j := 4) (own := ["thing"]) rfl nd rfl (Or.inl rfl) (BlkScope.mk' (xs := defScope s_l_marks_by) (N := ["script", "sizes", "lies", "things", "marks"]) rfl rfl rfl (by decide +kernel)) (pi_range1 rfl m_range (pa_cons (pv 3) pa_nil)) (fun C s₀ H₀ ex => pg1B nb1) (fun C s₀ H₀ ex => pif_nil) (fun C s₀ H₀ ex => (pe_op op_mod (pe_callDB D_l_cell_at hr rfl (pa_cons (pv 1) (pa_cons (pe_op op_add pe_int (pv 0)) pa_nil))) (pe_op op_add (pv 3) pe_int))))) pss_nil) (pss_one (ps_ret (pe_tup (pa_cons (pv 4) (pa_cons (pv 2) pa_nil))))))))), ?_⟩
  have l1 := liesBy_lo ns
  have l2 := liesBy_hi ns
  have z1 := gz.at ns
  have t1 := thingsBy_lo gz ns
  refine ⟨_, rfl, a, ns, 0, rfl, hS, Int.le_refl 0, _, _, rfl, rfl, by show (0 : Int) < 3; decide, ?_⟩
  refine ⟨_, rfl, a, ns, 1, rfl, hS, by decide, _, rfl, _, rfl, b, _, _, _, rfl, rfl, hZ, at_nat (ns := zs) (k := liesBy ns) l1 (by rw [gz.len]; omega), _, _, rfl, rfl, by omega, _, _, rfl, rfl, ?_⟩
  refine ⟨_, rfl, thingsBy ns zs, rfl, by omega, by omega, ?_⟩
  refine comp_range0 (n := (thingsBy ns zs).toNat) (fun _ => .int 0) (by omega) ?_ fun r1 H1 hr1 hs1 e1 => ?_
  · intro i H1 R hi hs r1
    exact r1 H1 (Same.refl H1)
  refine ⟨_, rfl, a, ns, 2, rfl, hs1.seq hS, by decide, _, _, rfl, rfl, by show (0 : Int) < 3; decide, _, _, rfl, rfl, _, rfl, ?_⟩
  refine ite2 (fun c => ?_) fun c => ?_
  · have c' : 0 < ns.getD 2 0 % 3 := of_decide_eq_true c
    refine ⟨_, rfl, thingsBy ns zs, rfl, by omega, by omega, ?_⟩
    refine comp_range0 (n := (thingsBy ns zs).toNat) (fun i => .int (ns.getD (3 + i) 0 % (liesBy ns + 2))) (by omega) (fun i H2 R hi hs r2 => ?_) fun r2 H2 hr2 hs2 e2 => ?_
    · refine ⟨_, rfl, _, rfl, _, _, rfl, rfl, a, ns, 3 + (0 + (i : Int)), rfl, (hs1.trans hs).seq hS, by omega, _, rfl, _, _, rfl, rfl, _, _, rfl, rfl, by show 0 < liesBy ns + 2; omega, ?_⟩
      have e : (3 + (0 + (i : Int))).toNat = 3 + i := by omega
      rw [e]
      exact r2 H2 (Same.refl H2)
    · refine ⟨_, rfl, _, rfl, by show 2 ≤ sizeLine; decide, fun p hp => ?_⟩
      have hs3 := hs1.trans hs2
      refine q r2 p _ (hs1.free hr2) (hs3.free hp) (hs3.trans (same_new hp _)) ?_ upd_same
      rw [upd_ne (ne_of_none e2 hp), e2]
      unfold marksBy
      rw [if_pos c', List.map_map]
      rfl
  · have c' : ¬ 0 < ns.getD 2 0 % 3 := of_decide_eq_false (Bool.eq_false_iff.mpr c)
    refine ⟨_, rfl, _, rfl, by show 2 ≤ sizeLine; decide, fun p hp => ?_⟩
    refine q r1 p _ hr1 (hs1.free hp) (hs1.trans (same_new hp _)) ?_ upd_same
    rw [upd_ne (ne_of_none e1 hp), e1]
    unfold marksBy
    rw [if_neg c', List.map_map]
    rfl
def askedFrom (c t : Int) : Nat → List Int
  | 0 => []
  | k + 1 => if c % 2 = 1 then t :: askedFrom (c / 2) (t + 1) k else askedFrom (c / 2) (t + 1) k
def askedBy (c : Int) (n : Nat) : List Int := askedFrom c 0 n
theorem askedFrom_rise (k : Nat) : ∀ c t last n : Int, last < t → t + k ≤ n → Rise last n (askedFrom c t k) := by
  induction k with
  | zero => intro c t last n _ _; trivial
  | succ k ih =>
    intro c t last n h1 h2
    unfold askedFrom
    split
    · exact ⟨h1, by omega, ih _ _ _ _ (by omega) (by omega)⟩
    · exact ih _ _ _ _ (by omega) (by omega)
theorem askedBy_rise (c : Int) (k : Nat) : Rise (-1) k (askedBy c k) := askedFrom_rise k c 0 (-1) k (by decide) (by omega)
theorem sc_l_asked_by : FnScope ["cell", "things", "found", "thing"] ["cell", "things"] (defScope s_l_asked_by) := ⟨rfl, rfl, rfl, by decide +kernel, rfl, by decide +kernel, by decide +kernel⟩
def sp_l_asked_by (K : PySem.W.Frag) : Sp := fun vs H Q E => ∃ (c : Int) (t : Int), vs = [.int c, .int t] ∧ (0 ≤ t) ∧ (t ≤ 1000) ∧ (retL H ((askedBy c t.toNat).map V.int) Q)
theorem ok_l_asked_by (T : Tx K mg "_law_asked_by" ["cell", "things"] s_l_asked_by) (m_range : mg "range" = none) : Df P w K mg base (n + 1) "_law_asked_by" ["cell", "things"] (sp_l_asked_by K) := by
  refine T.ok sc_l_asked_by (fun vs H Q E h => ?_) (fun f cdv A outer s H vs Q E hr h => ?_)
  · obtain ⟨c, t, rfl, _⟩ := h
    rfl
  obtain ⟨c, t, rfl, h0, h1, q⟩ := h
  have nd := sc_l_asked_by.nd
  refine ⟨_, (pss_cons (ps_set (i := 2) nd rfl (Or.inl rfl) (pe_lst pa_nil)) (pss_cons (ps_for PassesOwn.never rfl (pi_range1 rfl m_range (pa_cons (pv 1) pa_nil)) (pg_name (i := 3) nd rfl (Or.inl rfl)) (pss_cons (ps_if (pt_cmpR op_eq (pe_op op_mod (pv 0) pe_int) pe_int (nomark _)) (pss_one (ps_expr (pe_bm PySem.F.plainAttrs_list PySem.F.slot_list_append PySem.F.type_list_append mt_append (pv 2) (pa_cons (pv 3) pa_nil)))) pss_nil) (pss_one (ps_set (i := 0) nd rfl (Or.inl rfl) (pe_op op_fdiv (pv 0) pe_int))))) (pss_one (ps_ret (pv 2))))), ?_⟩
  refine ⟨by show 0 ≤ sizeLine; decide, fun r hr' => ?_⟩
  refine ⟨_, rfl, _, rfl, by omega, by omega, ?_⟩
  refine for_range (fun i σ H1 => ∃ (c1 : Int) (ys : List Int) (o : Option V), σ = [some (.int c1), some (.int t), some (.ref r), o] ∧ Same H H1 ∧ H1 r = some (.lst (ys.map V.int)) ∧ ys.length ≤ i ∧ i ≤ t.toNat ∧ ys ++ askedFrom c1 i (t.toNat - i) = askedBy c t.toNat)
    ⟨c, [], none, rfl, same_new hr' _, upd_same, Nat.zero_le _, Nat.zero_le _, rfl⟩ ?_ ?_
  · rintro i σ H1 hi ⟨c1, ys, o, rfl, hs, e1, hy, _, inv⟩
    have hk : t.toNat - i = (t.toNat - (i + 1)) + 1 := by omega
    rw [hk] at inv
    unfold askedFrom at inv
    refine ⟨_, rfl, _, _, rfl, rfl, by show (0 : Int) < 2; decide, rfl, _, rfl, ?_⟩
    refine ite2 (fun d => ?_) fun d => ?_
    · have d' : c1 % 2 = 1 := by
        have := of_decide_eq_true d
        injection this
      rw [if_pos d'] at inv
      refine ⟨_, rfl, .inl ⟨rfl, _, SqL.of e1⟩, _, rfl, r, _, _, rfl, rfl, e1, small1000 (by rw [List.length_map]; omega), ?_⟩
      refine ⟨_, rfl, _, _, rfl, rfl, ⟨by decide, by decide⟩, ?_⟩
      refine ⟨c1 / 2, ys ++ [(i : Int)], _, rfl, hs.upd hr', ?_, by rw [List.length_append]; exact Nat.succ_le_succ hy, by omega, ?_⟩
      · rw [upd_same, List.map_append]
        have z : (0 : Int) + (i : Int) = (i : Int) := by omega
        rw [z]
        rfl
      · rw [List.append_assoc]
        exact inv
    · have d' : ¬ c1 % 2 = 1 := fun z => d (decide_eq_true (congrArg V.int z))
      rw [if_neg d'] at inv
      refine ⟨_, rfl, _, _, rfl, rfl, ⟨by decide, by decide⟩, ?_⟩
      exact ⟨c1 / 2, ys, _, rfl, hs, e1, by omega, by omega, inv⟩
  · rintro σ H1 ⟨c1, ys, o, rfl, hs, e1, hy, _, inv⟩
    rw [Nat.sub_self] at inv
    have inv' : ys = askedBy c t.toNat := by
      rw [← inv]
      show ys = ys ++ []
      rw [List.append_nil]
    subst inv'
    exact ⟨_, rfl, q r H1 hr' hs e1⟩
def lMark (m l : Int) (same : Bool) : Int := if same = true then m else if l < m then m else m + 1
def lAfter (ms : List Int) (l : Int) (qs : List Int) (yes : Bool) : List Int := (List.range ms.length).map fun i => lMark (ms.getD i 0) l (decide (V.bl (isIn qs (i : Int)) = V.bl yes))
theorem lMark_eq {m l : Int} (h : m ≤ l + 1) (same : Bool) : lMark m l same = mAfter m l (!same) := by
  unfold lMark mAfter
  cases same with
  | true => rfl
  | false =>
    simp
    split <;> omega
theorem lAfter_eq {l : Int} {ms : List Int} (g : Good l ms) (qs : List Int) (yes : Bool) : lAfter ms l qs yes = afterM ms l qs yes := by
  unfold lAfter afterM
  refine List.map_congr_left fun i hi => ?_
  have hi' : i < ms.length := List.mem_range.mp hi
  refine lMark_eq ?_ _
  rw [List.getD_eq_getElem?_getD, List.getElem?_eq_getElem hi']
  exact (g.each _ (List.getElem_mem hi')).2
theorem sc_l_after : FnScope ["marks", "lies", "asked", "yes", "found", "thing", "told_so"] ["marks", "lies", "asked", "yes"] (defScope s_l_after) := ⟨rfl, rfl, rfl, by decide +kernel, rfl, by decide +kernel, by decide +kernel⟩
def sp_l_after (K : PySem.W.Frag) : Sp := fun vs H Q E => ∃ (a : Addr) (l : Int) (ms : List Int) (b : Addr) (qs : List Int) (yes : Bool), vs = [.ref a, .int l, .ref b, .bl yes] ∧ (SqL K H a (ms.map V.int)) ∧ (SqL K H b (qs.map V.int)) ∧ (ms.length ≤ 1000) ∧ (retL H ((lAfter ms l qs yes).map V.int) Q)
theorem ok_l_after (T : Tx K mg "_law_after" ["marks", "lies", "asked", "yes"] s_l_after) (m_range : mg "range" = none) (m_len : mg "len" = none) : Df P w K mg base (n + 1) "_law_after" ["marks", "lies", "asked", "yes"] (sp_l_after K) := by
  refine T.ok sc_l_after (fun vs H Q E h => ?_) (fun f cdv A outer s H vs Q E hr h => ?_)
  · obtain ⟨a, l, ms, b, qs, yes, rfl, _⟩ := h
    rfl
  obtain ⟨a, l, ms, b, qs, yes, rfl, hS, hB, hz, q⟩ := h
  have nd := sc_l_after.nd
  refine ⟨_, (pss_cons (ps_set (i := 4) nd rfl (Or.inl rfl) (pe_lst pa_nil)) (pss_cons (ps_for PassesOwn.never rfl (pi_range1 rfl m_range (pa_cons (pe_callB call_len_seq rfl m_len PySem.boot_len (pa_cons (pv 0) pa_nil)) pa_nil)) (pg_name (i := 5) nd rfl (Or.inl rfl)) (pss_cons (ps_set (i := 6) nd rfl (Or.inl rfl) (pe_cmpR op_in_seq (pv 5) (pv 2) rfl)) (pss_one (ps_if (PW.pt (pw_or (pt_cmpR op_eq (pv 6) (pv 3) (nomark _)) (pw_or1 (pt_cmpR op_gt (pe_ix ix_list (pv 0) (pv 5) (fun _ _ => rfl)) (pv 1) (nomark _))))) (pss_one (ps_expr (pe_bm PySem.F.plainAttrs_list PySem.F.slot_list_append PySem.F.type_list_append mt_append (pv 4) (pa_cons (pe_ix ix_list (pv 0) (pv 5) (fun _ _ => rfl)) pa_nil)))) (pss_one (ps_expr (pe_bm PySem.F.plainAttrs_list PySem.F.slot_list_append PySem.F.type_list_append mt_append (pv 4) (pa_cons (pe_op op_add (pe_ix ix_list (pv 0) (pv 5) (fun _ _ => rfl)) pe_int) pa_nil)))))))) (pss_one (ps_ret (pv 4))))), ?_⟩
  have hl : (ms.map V.int).length = ms.length := List.length_map _
  refine ⟨by show 0 ≤ sizeLine; decide, fun r hr' => ?_⟩
  have s0 : Same H (upd H r (.lst [])) := same_new hr' _
  refine ⟨_, rfl, a, _, rfl, .inl (s0.seq hS), _, rfl, by omega, by rw [hl]; omega, ?_⟩
  refine for_range (fun i σ H1 => ∃ (o1 o2 : Option V), σ = [some (.ref a), some (.int l), some (.ref b), some (.bl yes), some (.ref r), o1, o2] ∧ Same H H1 ∧ i ≤ ms.length ∧
      H1 r = some (.lst (((List.range i).map fun i => lMark (ms.getD i 0) l (decide (V.bl (isIn qs (i : Int)) = V.bl yes))).map V.int)))
    ⟨none, none, rfl, s0, Nat.zero_le _, upd_same⟩ ?_ ?_
  · rintro i σ H1 hi ⟨o1, o2, rfl, hs, hi2, e1⟩
    have hi' : i < ms.length := by rw [hl] at hi; omega
    have z0 : (0 : Int) + (i : Int) = (i : Int) := by omega
    have ix := at_nat (ns := ms) (k := 0 + (i : Int)) (by omega) (by omega)
    have zt : ((0 : Int) + (i : Int)).toNat = i := by omega
    rw [zt] at ix
    have hin : isIn qs (i : Int) = inV (.int (0 + (i : Int))) (qs.map V.int) := by rw [z0]; rfl
    have hlen : (((List.range i).map fun i => lMark (ms.getD i 0) l (decide (V.bl (isIn qs (i : Int)) = V.bl yes))).map V.int).length < sizeLine := small1000 (by simp; omega)
    have put : ∀ v, v = lMark (ms.getD i 0) l (decide (V.bl (isIn qs (i : Int)) = V.bl yes)) →
        (upd H1 r (.lst ((((List.range i).map fun i => lMark (ms.getD i 0) l (decide (V.bl (isIn qs (i : Int)) = V.bl yes))).map V.int) ++ [.int v]))) r = some (.lst (((List.range (i + 1)).map fun i => lMark (ms.getD i 0) l (decide (V.bl (isIn qs (i : Int)) = V.bl yes))).map V.int)) := fun v hv => by
      rw [upd_same, hv, List.range_succ, List.map_append, List.map_append]
      rfl
    refine ⟨_, rfl, _, rfl, b, _, rfl, .inl (hs.seq hB), rfl, flat_ints qs, ?_⟩
    refine ⟨_, rfl, _, rfl, rfl, _, rfl, ?_⟩
    refine ite2 (fun c => ?_) fun c => ?_
    · have c' : decide (V.bl (isIn qs (i : Int)) = V.bl yes) = true := by rw [hin]; exact c
      refine iteT ?_
      refine ⟨_, rfl, .inl ⟨rfl, _, SqL.of e1⟩, _, rfl, _, rfl, a, _, _, _, rfl, rfl, hs.seq hS, ix, r, _, _, rfl, rfl, e1, hlen, ?_⟩
      exact ⟨_, _, rfl, hs.upd hr', hi', put _ (by rw [c']; rfl)⟩
    · have c' : decide (V.bl (isIn qs (i : Int)) = V.bl yes) = false := by rw [hin]; exact Bool.eq_false_iff.mpr c
      refine ⟨_, rfl, _, rfl, a, _, _, _, rfl, rfl, hs.seq hS, ix, _, rfl, _, _, rfl, rfl, _, rfl, ?_⟩
      refine ite2 (fun d => ?_) fun d => ?_
      · have d' : l < ms.getD i 0 := of_decide_eq_true d
        refine ⟨_, rfl, .inl ⟨rfl, _, SqL.of e1⟩, _, rfl, _, rfl, a, _, _, _, rfl, rfl, hs.seq hS, ix, r, _, _, rfl, rfl, e1, hlen, ?_⟩
        exact ⟨_, _, rfl, hs.upd hr', hi', put _ (by rw [c']; unfold lMark; rw [if_neg Bool.false_ne_true, if_pos d'])⟩
      · have d' : ¬ l < ms.getD i 0 := of_decide_eq_false (Bool.eq_false_iff.mpr d)
        refine ⟨_, rfl, .inl ⟨rfl, _, SqL.of e1⟩, _, rfl, _, rfl, a, _, _, _, rfl, rfl, hs.seq hS, ix, _, _, rfl, rfl, r, _, _, rfl, rfl, e1, hlen, ?_⟩
        exact ⟨_, _, rfl, hs.upd hr', hi', put _ (by rw [c']; unfold lMark; rw [if_neg Bool.false_ne_true, if_neg d'])⟩
  · rintro σ H1 ⟨o1, o2, rfl, hs, _, e1⟩
    rw [hl] at e1
    exact ⟨_, rfl, q r H1 hr' hs e1⟩
theorem sc_l_stands : FnScope ["marks", "lies"] ["marks", "lies"] (defScope s_l_stands) := ⟨rfl, rfl, rfl, by decide +kernel, rfl, by decide +kernel, by decide +kernel⟩
def sp_l_stands (K : PySem.W.Frag) : Sp := fun vs H Q E => ∃ (a : Addr) (l : Int) (ms : List Int), vs = [.ref a, .int l] ∧ (SqL K H a (ms.map V.int)) ∧ (ms.length ≤ 1000) ∧ (retL H ((standM ms l).map V.int) Q)
theorem ok_l_stands (T : Tx K mg "_law_stands" ["marks", "lies"] s_l_stands) (m_range : mg "range" = none) (m_len : mg "len" = none) : Df P w K mg base (n + 1) "_law_stands" ["marks", "lies"] (sp_l_stands K) := by
  refine T.ok sc_l_stands (fun vs H Q E h => ?_) (fun f cdv A outer s H vs Q E hr h => ?_)
  · obtain ⟨a, l, ms, rfl, _⟩ := h
    rfl
  obtain ⟨a, l, ms, rfl, hS, hz, q⟩ := h
  have nd := sc_l_stands.nd
  have nb1 : List.Nodup (["thing", "marks", "lies"] : List Str) := by decide +kernel
  refine ⟨_, (pss_one (ps_ret (pe_comp (own := ["thing"]) rfl (BlkScope.mk' (xs := defScope s_l_stands) (N := ["marks", "lies"]) rfl rfl rfl (by decide +kernel)) (pi_range1 rfl m_range (pa_cons (pe_callB call_len_seq rfl m_len PySem.boot_len (pa_cons (pv 0) pa_nil)) pa_nil)) (fun C s₀ H₀ ex => pg1B nb1) (fun C s₀ H₀ ex => pif_one (pt_cmpR op_le (pe_ix ix_listB (pv 1) (pv 0) (fun _ _ => rfl)) (pv 2) (nomark _))) (fun C s₀ H₀ ex => (pv 0))))), ?_⟩
  have hl : (ms.map V.int).length = ms.length := List.length_map _
  refine ⟨_, rfl, a, _, rfl, .inl hS, (ms.length : Int), by rw [hl], by omega, by omega, ?_⟩
  refine comp_range (n := ms.length) (fun i => decide (ms.getD i 0 ≤ l)) (fun i => .int (i : Int)) hz ?_ ?_
  · intro i H1 R ys hi hs r1 r2
    have z0 : (0 : Int) + (i : Int) = (i : Int) := by omega
    have zt : ((0 : Int) + (i : Int)).toNat = i := by omega
    have ix := at_nat (ns := ms) (k := 0 + (i : Int)) (by omega) (by omega)
    rw [zt] at ix
    refine ⟨_, rfl, _, rfl, a, _, _, _, rfl, rfl, hs.seq hS, ix, _, rfl, _, _, rfl, rfl, _, rfl, ?_⟩
    refine ite2 (fun c => ?_) fun c => ?_
    · refine ⟨_, rfl, ?_⟩
      rw [z0]
      exact r1 H1 (Same.refl H1) c
    · exact r2 H1 (Same.refl H1) (Bool.eq_false_iff.mpr c)
  · have e : (standM ms l).map V.int = ((List.range ms.length).filter fun i => decide (ms.getD i 0 ≤ l)).map fun (i : Nat) => V.int (i : Int) := by
      unfold standM
      rw [List.map_map]
      rfl
    rw [← e]
    exact q
/-! ### the mathematics of needs, apart from the program -/
/-- how many stand -/
def stN (l : Int) (ms : List Int) : Nat := ms.countP fun m => decide (m ≤ l)
/-- the marks behind an answer: with each thing whether the answer is a lie for it -/
def aftZ (l : Int) (ps : List (Int × Bool)) : List Int := ps.map fun p => mAfter p.1 l p.2
def notZ (ps : List (Int × Bool)) : List (Int × Bool) := ps.map fun p => (p.1, !p.2)
/-- q questions are enough -/
def En (l : Int) : Nat → List Int → Prop
  | 0, ms => stN l ms ≤ 1
  | q + 1, ms => stN l ms ≤ 1 ∨ ∃ ps : List (Int × Bool), ps.map (·.1) = ms ∧ En l q (aftZ l ps) ∧ En l q (aftZ l (notZ ps))
theorem En.found {l : Int} {q : Nat} {ms : List Int} (h : stN l ms ≤ 1) : En l q ms := by
  cases q with
  | zero => exact h
  | succ q => exact .inl h
theorem En.succ {l : Int} : ∀ {q : Nat} {ms : List Int}, En l q ms → En l (q + 1) ms
  | 0, ms, h => .inl h
  | q + 1, ms, h => by
    rcases h with h | ⟨ps, e, h1, h2⟩
    · exact .inl h
    · exact .inr ⟨ps, e, En.succ h1, En.succ h2⟩
theorem En.mono {l : Int} {q q' : Nat} {ms : List Int} (h : En l q ms) (hq : q ≤ q') : En l q' ms := by
  induction hq with
  | refl => exact h
  | step _ ih => exact En.succ ih
/-- the need of marks -/
def IsNeed (l : Int) (ms : List Int) (q : Nat) : Prop := En l q ms ∧ ∀ q', q' < q → ¬ En l q' ms
theorem IsNeed.unique {l : Int} {ms : List Int} {q q' : Nat} (h : IsNeed l ms q) (h' : IsNeed l ms q') : q = q' := by
  rcases Nat.lt_trichotomy q q' with z | z | z
  · exact absurd h.1 (h'.2 q z)
  · exact z
  · exact absurd h'.1 (h.2 q' z)
theorem IsNeed.le {l : Int} {ms : List Int} {q k : Nat} (h : IsNeed l ms q) (e : En l k ms) : q ≤ k := by
  rcases Nat.lt_or_ge k q with z | z
  · exact absurd e (h.2 k z)
  · exact z
theorem need_of {l : Int} {ms : List Int} : ∀ {k : Nat}, En l k ms → ∃ q, q ≤ k ∧ IsNeed l ms q := by
  intro k
  induction k using Nat.strongRecOn with
  | ind k ih =>
    intro h
    by_cases z : ∃ j, j < k ∧ En l j ms
    · obtain ⟨j, hj, hE⟩ := z
      obtain ⟨q, hq, hN⟩ := ih j hj hE
      exact ⟨q, Nat.le_trans hq (Nat.le_of_lt hj), hN⟩
    · exact ⟨k, Nat.le_refl _, h, fun q' hq' hE => z ⟨q', hq', hE⟩⟩
/-! the order of the things does not matter -/
theorem perm_lift {α β : Type} {f : α → β} {xs ys : List β} (h : xs.Perm ys) : ∀ {ps : List α}, ps.map f = xs → ∃ ps', ps.Perm ps' ∧ ps'.map f = ys := by
  induction h with
  | nil => intro ps e; exact ⟨ps, .refl _, e⟩
  | cons x _ ih =>
    intro ps e
    cases ps with
    | nil => cases e
    | cons p r =>
      rw [List.map_cons] at e
      injection e with e1 e2
      obtain ⟨r', h1, h2⟩ := ih e2
      exact ⟨p :: r', h1.cons p, by rw [List.map_cons, e1, h2]⟩
  | swap x y zs =>
    intro ps e
    match ps, e with
    | p :: p' :: r, e =>
      rw [List.map_cons, List.map_cons] at e
      injection e with e1 e2
      injection e2 with e2 e3
      exact ⟨p' :: p :: r, .swap .., by rw [List.map_cons, List.map_cons, e1, e2, e3]⟩
  | trans _ _ ih1 ih2 =>
    intro ps e
    obtain ⟨ps', h1, h2⟩ := ih1 e
    obtain ⟨ps'', h3, h4⟩ := ih2 h2
    exact ⟨ps'', h1.trans h3, h4⟩
theorem stN_perm {l : Int} {ms ms' : List Int} (h : ms.Perm ms') : stN l ms = stN l ms' := h.countP_eq _
theorem En.perm {l : Int} : ∀ {q : Nat} {ms ms' : List Int}, ms.Perm ms' → En l q ms → En l q ms'
  | 0, ms, ms', h, e => by
    show stN l ms' ≤ 1
    rw [← stN_perm h]
    exact e
  | q + 1, ms, ms', h, e => by
    rcases e with e | ⟨ps, e, h1, h2⟩
    · exact .inl (by rw [← stN_perm h]; exact e)
    · obtain ⟨ps', p1, p2⟩ := perm_lift h e
      exact .inr ⟨ps', p2, En.perm (p1.map _) h1, En.perm ((p1.map _).map _) h2⟩
theorem IsNeed.perm {l : Int} {q : Nat} {ms ms' : List Int} (h : ms.Perm ms') (e : IsNeed l ms q) : IsNeed l ms' q := ⟨e.1.perm h, fun q' hq z => e.2 q' hq (z.perm h.symm)⟩
/-! more marks, no greater need -/
inductive Up : List Int → List Int → Prop where
  | nil : Up [] []
  | cons {m m' : Int} {r r' : List Int} : m ≤ m' → Up r r' → Up (m :: r) (m' :: r')
theorem Up.refl : ∀ ms : List Int, Up ms ms
  | [] => .nil
  | m :: r => .cons (Int.le_refl m) (Up.refl r)
theorem Up.st {l : Int} : ∀ {ms ms' : List Int}, Up ms ms' → stN l ms' ≤ stN l ms
  | _, _, .nil => Nat.le_refl _
  | _, _, .cons (m := m) (m' := m') h t => by
    have z := Up.st (l := l) t
    unfold stN at z ⊢
    rw [List.countP_cons, List.countP_cons]
    by_cases h1 : m' ≤ l
    · have h2 : m ≤ l := Int.le_trans h h1
      simp [h1, h2]
      exact z
    · simp [h1]
      split <;> omega
theorem mAfter_up {m m' l : Int} (h : m ≤ m') (b : Bool) : mAfter m l b ≤ mAfter m' l b := by
  unfold mAfter
  cases b with
  | false => simpa using h
  | true => simp; split <;> split <;> omega
theorem Up.lift {l : Int} : ∀ {ms ms' : List Int}, Up ms ms' → ∀ {ps : List (Int × Bool)}, ps.map (·.1) = ms → ∃ ps', ps'.map (·.1) = ms' ∧ Up (aftZ l ps) (aftZ l ps') ∧ Up (aftZ l (notZ ps)) (aftZ l (notZ ps'))
  | _, _, .nil, ps, e => by
    cases ps with
    | nil => exact ⟨[], rfl, .nil, .nil⟩
    | cons p r => cases e
  | _, _, .cons (m := m) (m' := m') h t, ps, e => by
    cases ps with
    | nil => cases e
    | cons p r =>
      obtain ⟨a, b⟩ := p
      rw [List.map_cons] at e
      injection e with e1 e2
      obtain ⟨r', h1, h2, h3⟩ := Up.lift t e2
      refine ⟨(m', b) :: r', by rw [List.map_cons, h1], .cons (mAfter_up (by show a ≤ m'; have : a = m := e1; omega) b) h2, .cons (mAfter_up (by show a ≤ m'; have : a = m := e1; omega) (!b)) h3⟩
theorem En.up {l : Int} : ∀ {q : Nat} {ms ms' : List Int}, Up ms ms' → En l q ms → En l q ms'
  | 0, ms, ms', h, e => Nat.le_trans h.st e
  | q + 1, ms, ms', h, e => by
    rcases e with e | ⟨ps, e, h1, h2⟩
    · exact .inl (Nat.le_trans h.st e)
    · obtain ⟨ps', p1, p2, p3⟩ := h.lift (l := l) e
      exact .inr ⟨ps', p1, En.up p2 h1, En.up p3 h2⟩
/-! some number of questions is always enough -/
def pot (l : Int) (ms : List Int) : Nat := (ms.map fun m => (l + 1 - m).toNat).sum
theorem pot_one (l m : Int) (b : Bool) : (l + 1 - mAfter m l b).toNat + (if (decide (m ≤ l) && b) = true then 1 else 0) = (l + 1 - m).toNat := by
  unfold mAfter
  cases b with
  | false => simp
  | true =>
    by_cases h : m ≤ l
    · have h2 : ¬ l + 1 < m + 1 := by omega
      simp [h, h2]
      omega
    · have h2 : l + 1 < m + 1 := by omega
      simp [h, h2]
      omega
theorem pot_step (l : Int) : ∀ ps : List (Int × Bool), pot l (aftZ l ps) + ps.countP (fun p => decide (p.1 ≤ l) && p.2) = pot l (ps.map (·.1))
  | [] => rfl
  | p :: r => by
    have ih := pot_step l r
    have h1 := pot_one l p.1 p.2
    unfold pot aftZ at ih ⊢
    rw [List.countP_cons]
    simp only [List.map_cons, List.sum_cons]
    omega
theorem En.pot {l : Int} : ∀ (k : Nat) (ms : List Int), pot l ms ≤ k → En l k ms
  | 0, ms, h => by
    show stN l ms ≤ 1
    have h0 : stN l ms = 0 := by
      unfold stN
      refine List.countP_eq_zero.mpr fun m hm => ?_
      have z : (l + 1 - m).toNat = 0 := by
        have all : ∀ xs : List Int, My.pot l xs = 0 → ∀ m ∈ xs, (l + 1 - m).toNat = 0 := by
          intro xs
          induction xs with
          | nil => intro _ m hm; cases hm
          | cons x r ih =>
            intro h m hm
            unfold My.pot at h ih
            simp only [List.map_cons, List.sum_cons] at h
            rcases List.mem_cons.mp hm with rfl | hm
            · omega
            · exact ih (by omega) m hm
        exact all ms (Nat.le_zero.mp h) m hm
      simp
      omega
    omega
  | k + 1, ms, h => by
    by_cases h1 : stN l ms ≤ 1
    · exact .inl h1
    · -- a thing that stands, and the others
      obtain ⟨pre, m, suf, e, hm⟩ : ∃ pre m suf, ms = pre ++ m :: suf ∧ m ≤ l := by
        have : 0 < stN l ms := by omega
        obtain ⟨m, hm, hp⟩ := List.countP_pos_iff.mp this
        obtain ⟨pre, suf, e⟩ := List.append_of_mem hm
        exact ⟨pre, m, suf, e, of_decide_eq_true hp⟩
      have rest : 1 ≤ stN l pre + stN l suf := by
        unfold stN at h1 ⊢
        rw [e, List.countP_append, List.countP_cons] at h1
        simp [hm] at h1
        omega
      let ps : List (Int × Bool) := pre.map (fun x => (x, true)) ++ (m, false) :: suf.map (fun x => (x, true))
      have eps : ps.map (·.1) = ms := by
        show (pre.map (fun x => (x, true)) ++ (m, false) :: suf.map (fun x => (x, true))).map (·.1) = ms
        rw [List.map_append, List.map_cons, List.map_map, List.map_map, e]
        simp [Function.comp_def]
      have enot : (notZ ps).map (·.1) = ms := by
        rw [← eps]
        unfold notZ
        rw [List.map_map]
        rfl
      have c1 : ps.countP (fun p => decide (p.1 ≤ l) && p.2) = stN l pre + stN l suf := by
        show (pre.map (fun x => (x, true)) ++ (m, false) :: suf.map (fun x => (x, true))).countP _ = _
        rw [List.countP_append, List.countP_cons, List.countP_map, List.countP_map]
        simp [stN, Function.comp_def]
      have c2 : 1 ≤ (notZ ps).countP (fun p => decide (p.1 ≤ l) && p.2) := by
        refine List.countP_pos_iff.mpr ⟨(m, true), ?_, by simp [hm]⟩
        exact List.mem_map.mpr ⟨(m, false), List.mem_append_right _ List.mem_cons_self, rfl⟩
      have s1 := pot_step l ps
      have s2 := pot_step l (notZ ps)
      rw [eps] at s1
      rw [enot] at s2
      exact .inr ⟨ps, eps, En.pot k _ (by omega), En.pot k _ (by omega)⟩
/-! weights -/
def ch : Nat → Nat → Nat
  | _, 0 => 1
  | 0, _ + 1 => 0
  | n + 1, k + 1 => ch n k + ch n (k + 1)
/-- the ways to pick at most r of q -/
def sb (q : Nat) : Nat → Nat
  | 0 => ch q 0
  | r + 1 => sb q r + ch q (r + 1)
/-- the weight of one mark -/
def wtM (l : Int) (q : Nat) (m : Int) : Nat := if m ≤ l then sb q (l - m).toNat else 0
def wt (l : Int) (q : Nat) (ms : List Int) : Nat := (ms.map (wtM l q)).sum
/-! ### the same by questions, as the program has them -/
theorem isIn_iff (qs : List Int) (i : Int) : isIn qs i = true ↔ i ∈ qs := by
  unfold isIn inV
  rw [List.any_map, List.any_eq_true]
  constructor
  · rintro ⟨x, hx, h⟩
    have : (x == i) = true := h
    rw [beq_iff_eq] at this
    rw [← this]
    exact hx
  · intro h
    exact ⟨i, h, by show (i == i) = true; simp⟩
def bitsZ (ms : List Int) (f : Nat → Bool) : List (Int × Bool) := (List.range ms.length).map fun i => (ms.getD i 0, f i)
theorem range_getD (ms : List Int) : (List.range ms.length).map (fun i => ms.getD i 0) = ms := by
  refine List.ext_getElem? fun i => ?_
  rw [List.getElem?_map]
  by_cases h : i < ms.length
  · rw [List.getElem?_range h, List.getElem?_eq_getElem h]
    show some (ms.getD i 0) = _
    rw [List.getD_eq_getElem?_getD, List.getElem?_eq_getElem h]
    rfl
  · rw [List.getElem?_eq_none (by rw [List.length_range]; omega), List.getElem?_eq_none (by omega)]
    rfl
theorem bitsZ_fst (ms : List Int) (f : Nat → Bool) : (bitsZ ms f).map (·.1) = ms := by
  unfold bitsZ
  rw [List.map_map]
  exact range_getD ms
theorem bitsZ_not (ms : List Int) (f : Nat → Bool) : notZ (bitsZ ms f) = bitsZ ms fun i => !f i := by
  unfold notZ bitsZ
  rw [List.map_map]
  rfl
theorem bitsZ_congr {ms : List Int} {f g : Nat → Bool} (h : ∀ i, i < ms.length → f i = g i) : bitsZ ms f = bitsZ ms g := by
  unfold bitsZ
  exact List.map_congr_left fun i hi => by rw [h i (List.mem_range.mp hi)]
theorem ps_bits (ps : List (Int × Bool)) : ps = bitsZ (ps.map (·.1)) fun i => (ps.getD i (0, false)).2 := by
  refine List.ext_getElem? fun i => ?_
  unfold bitsZ
  rw [List.getElem?_map, List.length_map]
  by_cases h : i < ps.length
  · rw [List.getElem?_range h, List.getElem?_eq_getElem h]
    show some ps[i] = some ((ps.map (·.1)).getD i 0, (ps.getD i (0, false)).2)
    rw [List.getD_eq_getElem?_getD, List.getD_eq_getElem?_getD, List.getElem?_map, List.getElem?_eq_getElem h]
    rfl
  · rw [List.getElem?_eq_none (by omega), List.getElem?_eq_none (by rw [List.length_range]; omega)]
    rfl
theorem lie_yes (b : Bool) : (!decide (V.bl b = V.bl true)) = !b := by cases b <;> simp
theorem lie_no (b : Bool) : (!decide (V.bl b = V.bl false)) = b := by cases b <;> simp
theorem after_yes (ms : List Int) (l : Int) (qs : List Int) : afterM ms l qs true = aftZ l (bitsZ ms fun i => !isIn qs (i : Int)) := by
  unfold afterM aftZ bitsZ
  rw [List.map_map]
  exact List.map_congr_left fun i _ => by rw [lie_yes]; rfl
theorem after_no (ms : List Int) (l : Int) (qs : List Int) : afterM ms l qs false = aftZ l (notZ (bitsZ ms fun i => !isIn qs (i : Int))) := by
  rw [bitsZ_not]
  unfold afterM aftZ bitsZ
  rw [List.map_map]
  exact List.map_congr_left fun i _ => by
    rw [lie_no]
    show _ = mAfter (ms.getD i 0) l (!!isIn qs (i : Int))
    rw [Bool.not_not]
/-- the list of the things below n that f tells -/
def askF (f : Nat → Bool) (n : Nat) : List Int := ((List.range n).filter f).map fun (i : Nat) => (i : Int)
theorem askF_in (f : Nat → Bool) {n i : Nat} (h : i < n) : isIn (askF f n) (i : Int) = f i := by
  cases hf : f i with
  | true => exact (isIn_iff _ _).mpr (List.mem_map.mpr ⟨i, List.mem_filter.mpr ⟨List.mem_range.mpr h, hf⟩, rfl⟩)
  | false =>
    refine Bool.eq_false_iff.mpr fun z => ?_
    obtain ⟨j, hj, e⟩ := List.mem_map.mp ((isIn_iff _ _).mp z)
    have e' : j = i := by exact_mod_cast e
    subst e'
    rw [(List.mem_filter.mp hj).2] at hf
    cases hf
theorem En.ask {l : Int} {ms : List Int} {q : Nat} {qs : List Int} (h1 : En l q (afterM ms l qs true)) (h2 : En l q (afterM ms l qs false)) : En l (q + 1) ms := by
  rw [after_yes] at h1
  rw [after_no] at h2
  exact .inr ⟨_, bitsZ_fst ms _, h1, h2⟩
theorem stN_stand (l : Int) (ms : List Int) : (standM ms l).length = stN l ms := by
  unfold standM stN
  rw [List.length_map, ← List.countP_eq_length_filter]
  conv => rhs; rw [← range_getD ms]
  rw [List.countP_map]
  rfl
/-! no lies: halving -/
/-- the answer is a lie for the first k that stand -/
def halfZ : Nat → List Int → List (Int × Bool)
  | _, [] => []
  | 0, m :: r => (m, false) :: halfZ 0 r
  | k + 1, m :: r => if m ≤ 0 then (m, true) :: halfZ k r else (m, false) :: halfZ (k + 1) r
theorem aftZ_nn {l : Int} (hl : 0 ≤ l) {ps : List (Int × Bool)} (h : ∀ m ∈ ps.map (·.1), 0 ≤ m) : ∀ m ∈ aftZ l ps, 0 ≤ m := fun m hm => by
  obtain ⟨p, hp, rfl⟩ := List.mem_map.mp hm
  have := h p.1 (List.mem_map.mpr ⟨p, hp, rfl⟩)
  unfold mAfter
  split
  · split <;> omega
  · exact this
/-! ### tallies: how many things have each mark -/
def cntI (ms : List Int) (i : Int) : Nat := ms.countP fun m => decide (m = i)
def talN (l : Int) (ms : List Int) : List Nat := (List.range (l + 1).toNat).map fun (i : Nat) => cntI ms (i : Int)
def mvC (c : Nat) : List Nat → List Nat → List Nat
  | x :: xs, y :: ys => (x + c) :: mvC y xs ys
  | _, _ => []
/-- the kept as they are, the rising to the next mark -/
def mv (p r : List Nat) : List Nat := mvC 0 p r
def subT : List Nat → List Nat → List Nat
  | x :: xs, y :: ys => (x - y) :: subT xs ys
  | _, _ => []
inductive LeT : List Nat → List Nat → Prop where
  | nil : LeT [] []
  | cons {x y : Nat} {xs ys : List Nat} : x ≤ y → LeT xs ys → LeT (x :: xs) (y :: ys)
theorem LeT.len : ∀ {p t : List Nat}, LeT p t → p.length = t.length
  | _, _, .nil => rfl
  | _, _, .cons _ h => by rw [List.length_cons, List.length_cons, LeT.len h]
theorem LeT.sum : ∀ {p t : List Nat}, LeT p t → p.sum + (subT t p).sum = t.sum
  | _, _, .nil => rfl
  | _, _, .cons h r => by
    have := LeT.sum r
    unfold subT
    simp only [List.sum_cons]
    omega
theorem LeT.subLen : ∀ {p t : List Nat}, LeT p t → (subT t p).length = t.length
  | _, _, .nil => rfl
  | _, _, .cons _ r => by
    unfold subT
    rw [List.length_cons, List.length_cons, LeT.subLen r]
theorem mvC_len : ∀ (p r : List Nat) (c : Nat), p.length = r.length → (mvC c p r).length = p.length
  | [], _, _, _ => by unfold mvC; rfl
  | x :: xs, [], _, h => by cases h
  | x :: xs, y :: ys, c, h => by
    unfold mvC
    rw [List.length_cons, List.length_cons, mvC_len xs ys y (by simpa using h)]
theorem mvC_sum : ∀ (p r : List Nat) (c : Nat), p.length = r.length → (mvC c p r).sum ≤ c + p.sum + r.sum
  | [], _, _, _ => by unfold mvC; simp
  | x :: xs, [], _, h => by cases h
  | x :: xs, y :: ys, c, h => by
    have := mvC_sum xs ys y (by simpa using h)
    unfold mvC
    simp only [List.sum_cons]
    omega
def potT : List Nat → Nat
  | [] => 0
  | x :: xs => x * (xs.length + 1) + potT xs
theorem mvC_pot : ∀ (p r : List Nat) (c : Nat), p.length = r.length → potT (mvC c p r) + r.sum = potT p + potT r + c * p.length
  | [], [], _, _ => by unfold mvC; simp [potT]
  | x :: xs, [], _, h => by cases h
  | [], y :: ys, _, h => by cases h
  | x :: xs, y :: ys, c, h => by
    have hl : xs.length = ys.length := by simpa using h
    have ih := mvC_pot xs ys y hl
    have e := mvC_len xs ys y hl
    unfold mvC
    unfold potT
    rw [e, List.sum_cons, List.length_cons, ← hl, Nat.add_mul, Nat.mul_succ y, Nat.mul_succ c]
    omega
theorem LeT.pot : ∀ {p t : List Nat}, LeT p t → potT p + potT (subT t p) = potT t
  | _, _, .nil => rfl
  | _, _, .cons (x := x) (y := y) (xs := xs) (ys := ys) h r => by
    have ih := LeT.pot r
    have l1 := r.len
    have l2 := r.subLen
    unfold subT potT
    rw [l1, l2]
    have : y * (ys.length + 1) = x * (ys.length + 1) + (y - x) * (ys.length + 1) := by rw [← Nat.add_mul]; congr 1; omega
    omega
theorem mvC_zero : ∀ (p r : List Nat) (c : Nat), p.length = r.length → r.sum = 0 → c = 0 → mvC c p r = p
  | [], _, _, _, _, _ => by unfold mvC; rfl
  | x :: xs, [], _, h, _, _ => by cases h
  | x :: xs, y :: ys, c, h, hs, hc => by
    simp only [List.sum_cons] at hs
    unfold mvC
    rw [mvC_zero xs ys y (by simpa using h) (by omega) (by omega), hc]
    rfl
theorem LeT.sub_zero : ∀ {p t : List Nat}, LeT p t → p.sum = 0 → subT t p = t
  | _, _, .nil, _ => rfl
  | _, _, .cons h r, hs => by
    simp only [List.sum_cons] at hs
    unfold subT
    rw [LeT.sub_zero r (by omega)]
    congr 1
    omega
theorem LeT.all : ∀ {p t : List Nat}, LeT p t → (subT t p).sum = 0 → p = t
  | _, _, .nil, _ => rfl
  | _, _, .cons h r, hs => by
    unfold subT at hs
    simp only [List.sum_cons] at hs
    rw [LeT.all r (by omega)]
    congr 1
    omega
/-- q questions are enough, by the tally -/
def EnT : Nat → List Nat → Prop
  | 0, t => t.sum ≤ 1
  | q + 1, t => t.sum ≤ 1 ∨ ∃ p, LeT p t ∧ EnT q (mv p (subT t p)) ∧ EnT q (mv (subT t p) p)
theorem EnT.succ : ∀ {q : Nat} {t : List Nat}, EnT q t → EnT (q + 1) t
  | 0, _, h => .inl h
  | q + 1, _, h => by
    rcases h with h | ⟨p, e, h1, h2⟩
    · exact .inl h
    · exact .inr ⟨p, e, EnT.succ h1, EnT.succ h2⟩
theorem EnT.mono {q q' : Nat} {t : List Nat} (h : EnT q t) (hq : q ≤ q') : EnT q' t := by
  induction hq with
  | refl => exact h
  | step _ ih => exact EnT.succ ih
def IsNeedT (t : List Nat) (q : Nat) : Prop := EnT q t ∧ ∀ q', q' < q → ¬ EnT q' t
theorem IsNeedT.le {t : List Nat} {q k : Nat} (h : IsNeedT t q) (e : EnT k t) : q ≤ k := by
  rcases Nat.lt_or_ge k q with z | z
  · exact absurd e (h.2 k z)
  · exact z
theorem IsNeedT.unique {t : List Nat} {q k : Nat} (h : IsNeedT t q) (e : IsNeedT t k) : q = k := Nat.le_antisymm (h.le e.1) (e.le h.1)
theorem needT_least {t : List Nat} : ∀ {k : Nat}, EnT k t → ∃ q, q ≤ k ∧ IsNeedT t q := by
  intro k
  induction k using Nat.strongRecOn with
  | ind k ih =>
    intro h
    by_cases z : ∃ j, j < k ∧ EnT j t
    · obtain ⟨j, hj, hE⟩ := z
      obtain ⟨q, hq, hN⟩ := ih j hj hE
      exact ⟨q, Nat.le_trans hq (Nat.le_of_lt hj), hN⟩
    · exact ⟨k, Nat.le_refl _, h, fun q' hq' hE => z ⟨q', hq', hE⟩⟩
theorem IsNeedT.found {t : List Nat} (h : t.sum ≤ 1) : IsNeedT t 0 := ⟨h, fun q' hq => absurd hq (Nat.not_lt_zero _)⟩
/-- a pick that tells -/
structure Tells (t p : List Nat) : Prop where
  le : LeT p t
  lo : 0 < p.sum
  hi : p.sum < t.sum
/-- the least over the picks that tell -/
theorem needT_best {t : List Nat} {k : Nat} (h2 : ¬ t.sum ≤ 1) {p : List Nat} {a b : Nat} (hp : LeT p t) (ha : IsNeedT (mv p (subT t p)) a) (hb : IsNeedT (mv (subT t p) p) b) (hk : max a b = k)
    (least : ∀ p', Tells t p' → ∃ a' b', IsNeedT (mv p' (subT t p')) a' ∧ IsNeedT (mv (subT t p') p') b' ∧ k ≤ max a' b') : IsNeedT t (1 + k) := by
  have en : EnT (k + 1) t := .inr ⟨p, hp, ha.1.mono (by omega), hb.1.mono (by omega)⟩
  obtain ⟨q, hq, hN⟩ := needT_least en
  have e : q = k + 1 := by
    rcases Nat.lt_or_ge q (k + 1) with z | z
    · exfalso
      have h1 := hN.1
      cases q with
      | zero => exact h2 h1
      | succ q =>
        rcases h1 with h1 | ⟨p', le', e1, e2⟩
        · exact h2 h1
        · have hlo : 0 < p'.sum := by
            rcases Nat.eq_zero_or_pos p'.sum with y | y
            · exfalso
              have e3 := le'.sub_zero y
              rw [e3] at e2
              have e4 : mv t p' = t := mvC_zero t p' 0 le'.len.symm y rfl
              rw [e4] at e2
              exact hN.2 q (Nat.lt_succ_self q) e2
            · exact y
          have hhi : p'.sum < t.sum := by
            have hs := le'.sum
            rcases Nat.eq_zero_or_pos (subT t p').sum with y | y
            · exfalso
              have e3 := le'.all y
              have e4 : mv p' (subT t p') = p' := mvC_zero p' (subT t p') 0 (by rw [le'.subLen, le'.len]) y rfl
              rw [e4, e3] at e1
              exact hN.2 q (Nat.lt_succ_self q) e1
            · omega
          obtain ⟨a', b', ha', hb', hk'⟩ := least p' ⟨le', hlo, hhi⟩
          have := ha'.le e1
          have := hb'.le e2
          omega
    · omega
  rw [e] at hN
  rw [Nat.add_comm]
  exact hN
/-! lists by places -/
theorem mvC_map (f g : Nat → Nat) : ∀ (n s c : Nat), mvC c ((List.range' s n).map f) ((List.range' s n).map g) = (List.range' s n).map fun i => f i + if i = s then c else g (i - 1)
  | 0, _, _ => rfl
  | n + 1, s, c => by
    rw [List.range'_succ, List.map_cons, List.map_cons, List.map_cons]
    unfold mvC
    rw [mvC_map f g n (s + 1) (g s), if_pos rfl]
    congr 1
    refine List.map_congr_left fun i hi => ?_
    have := List.mem_range'.mp hi
    obtain ⟨j, hj, e⟩ := this
    have h1 : ¬ i = s := by omega
    rw [if_neg h1]
    by_cases h2 : i = s + 1
    · rw [if_pos h2]; congr 2; omega
    · rw [if_neg h2]
theorem mv_map (f g : Nat → Nat) (n : Nat) : mv ((List.range n).map f) ((List.range n).map g) = (List.range n).map fun i => f i + if 0 < i then g (i - 1) else 0 := by
  unfold mv
  rw [List.range_eq_range', mvC_map]
  refine List.map_congr_left fun i _ => ?_
  by_cases h : i = 0
  · rw [if_pos h, if_neg (by omega)]
  · rw [if_neg h, if_pos (by omega)]
theorem subT_map (f g : Nat → Nat) : ∀ l : List Nat, subT (l.map f) (l.map g) = l.map fun i => f i - g i
  | [] => rfl
  | x :: r => by
    rw [List.map_cons, List.map_cons, List.map_cons]
    unfold subT
    rw [subT_map f g r]
theorem LeT_map {f g : Nat → Nat} : ∀ {l : List Nat}, (∀ i ∈ l, f i ≤ g i) → LeT (l.map f) (l.map g)
  | [], _ => .nil
  | x :: r, h => .cons (h x List.mem_cons_self) (LeT_map fun i hi => h i (List.mem_cons_of_mem _ hi))
theorem LeT.at : ∀ {p t : List Nat}, LeT p t → ∀ i, p.getD i 0 ≤ t.getD i 0
  | _, _, .nil, i => Nat.le_refl _
  | _, _, .cons h r, 0 => h
  | _, _, .cons h r, i + 1 => LeT.at r i
theorem nat_range (t : List Nat) : (List.range t.length).map (fun i => t.getD i 0) = t := by
  refine List.ext_getElem? fun i => ?_
  rw [List.getElem?_map]
  by_cases h : i < t.length
  · rw [List.getElem?_range h, List.getElem?_eq_getElem h]
    show some (t.getD i 0) = _
    rw [List.getD_eq_getElem?_getD, List.getElem?_eq_getElem h]
    rfl
  · rw [List.getElem?_eq_none (by rw [List.length_range]; omega), List.getElem?_eq_none (by omega)]
    rfl
theorem sum_castN : ∀ xs : List Nat, ((xs.map fun (x : Nat) => (x : Int)).sum) = ((xs.sum : Nat) : Int)
  | [] => rfl
  | x :: r => by
    have ih := sum_castN r
    simp only [List.map_cons, List.sum_cons]
    omega
/-! ### a tally tells how many questions are enough -/
def cntB (ps : List (Int × Bool)) (i : Int) (b : Bool) : Nat := ps.countP fun x => decide (x.1 = i) && (x.2 == b)
theorem cntI_cons (m : Int) (r : List Int) (i : Int) : cntI (m :: r) i = cntI r i + if m = i then 1 else 0 := by
  unfold cntI
  rw [List.countP_cons]
  by_cases h : m = i <;> simp [h]
theorem cntB_cons (x : Int × Bool) (r : List (Int × Bool)) (i : Int) (b : Bool) : cntB (x :: r) i b = cntB r i b + if x.1 = i ∧ x.2 = b then 1 else 0 := by
  unfold cntB
  rw [List.countP_cons]
  by_cases h : x.1 = i <;> by_cases h2 : x.2 = b <;> simp [h, h2]
theorem cnt_fst (i : Int) : ∀ ps : List (Int × Bool), cntI (ps.map (·.1)) i = cntB ps i false + cntB ps i true
  | [] => rfl
  | x :: r => by
    have ih := cnt_fst i r
    rw [List.map_cons, cntI_cons, cntB_cons, cntB_cons, ih]
    obtain ⟨m, b⟩ := x
    by_cases h : m = i <;> cases b <;> simp [h] <;> omega
theorem cnt_aft {l i : Int} (hi : i ≤ l) : ∀ ps : List (Int × Bool), cntI (aftZ l ps) i = cntB ps i false + cntB ps (i - 1) true
  | [] => rfl
  | x :: r => by
    have ih := cnt_aft hi r
    obtain ⟨m, b⟩ := x
    show cntI (mAfter m l b :: aftZ l r) i = _
    rw [cntI_cons, cntB_cons, cntB_cons, ih]
    cases b with
    | false =>
      have e : mAfter m l false = m := rfl
      rw [e]
      by_cases h : m = i <;> simp [h] <;> omega
    | true =>
      have e : (mAfter m l true = i) ↔ (m = i - 1) := by
        unfold mAfter
        simp only [if_true]
        split <;> omega
      by_cases h : m = i - 1
      · rw [if_pos (e.mpr h)]; simp [h]; omega
      · rw [if_neg (fun z => h (e.mp z))]; simp [h]
theorem cnt_not (ps : List (Int × Bool)) (i : Int) (b : Bool) : cntB (notZ ps) i b = cntB ps i (!b) := by
  unfold cntB notZ
  rw [List.countP_map]
  refine List.countP_congr fun x _ => ?_
  obtain ⟨m, c⟩ := x
  cases b <;> cases c <;> simp
theorem cnt_neg : ∀ {ps : List (Int × Bool)} {b : Bool}, (∀ m ∈ ps.map (·.1), 0 ≤ m) → cntB ps (-1) b = 0
  | [], _, _ => rfl
  | x :: r, b, h => by
    have h1 : 0 ≤ x.1 := h x.1 (by simp)
    rw [cntB_cons, cnt_neg fun m hm => h m (by rw [List.map_cons]; exact List.mem_cons_of_mem _ hm), if_neg (by omega)]
theorem tal_sum {l : Int} (hl : 0 ≤ l) : ∀ {ms : List Int}, (∀ m ∈ ms, 0 ≤ m) → (talN l ms).sum = stN l ms
  | [], _ => by
    unfold talN stN
    have : (List.range (l + 1).toNat).map (fun (i : Nat) => cntI [] (i : Int)) = (List.range (l + 1).toNat).map fun _ => 0 := rfl
    rw [this]
    have z : ∀ xs : List Nat, (xs.map fun _ => 0).sum = 0 := fun xs => by
      induction xs with
      | nil => rfl
      | cons x r ih => rw [List.map_cons, List.sum_cons, ih]
    rw [z]
    rfl
  | m :: r, h => by
    have ih := tal_sum hl fun x hx => h x (List.mem_cons_of_mem _ hx)
    have hm := h m List.mem_cons_self
    have one : ∀ (n : Nat) (k : Nat), ((List.range n).map fun (i : Nat) => cntI (m :: r) (i : Int)).sum = ((List.range n).map fun (i : Nat) => cntI r (i : Int)).sum + (if m < n then 1 else 0) := by
      intro n _
      induction n with
      | zero => simp; omega
      | succ n ihn =>
        rw [List.range_succ, List.map_append, List.map_append, List.sum_append, List.sum_append, ihn]
        simp only [List.map_cons, List.map_nil, List.sum_cons, List.sum_nil]
        rw [cntI_cons]
        by_cases h1 : m = (n : Int)
        · rw [if_pos h1, if_neg (by omega), if_pos (by omega)]; omega
        · rw [if_neg h1]
          by_cases h2 : m < (n : Int)
          · rw [if_pos h2, if_pos (by omega)]; omega
          · rw [if_neg h2, if_neg (by omega)]; omega
    have e := one (l + 1).toNat 0
    unfold talN at ih ⊢
    rw [e, ih]
    unfold stN
    rw [List.countP_cons]
    by_cases h3 : m ≤ l
    · rw [if_pos (by omega)]; simp [h3]
    · rw [if_neg (by omega)]; simp [h3]
/-- of a pick: those that stay, those that rise -/
def pkN (l : Int) (b : Bool) (ps : List (Int × Bool)) : List Nat := (List.range (l + 1).toNat).map fun (i : Nat) => cntB ps (i : Int) b
theorem pk_le (l : Int) (ps : List (Int × Bool)) (b : Bool) : LeT (pkN l b ps) (talN l (ps.map (·.1))) := by
  unfold pkN talN
  refine LeT_map fun i _ => ?_
  rw [cnt_fst]
  cases b <;> omega
theorem pk_sub (l : Int) (ps : List (Int × Bool)) (b : Bool) : subT (talN l (ps.map (·.1))) (pkN l b ps) = pkN l (!b) ps := by
  unfold pkN talN
  rw [subT_map]
  refine List.map_congr_left fun i _ => ?_
  rw [cnt_fst]
  cases b <;> simp <;> omega
theorem tal_aft {l : Int} {ps : List (Int × Bool)} (h : ∀ m ∈ ps.map (·.1), 0 ≤ m) : talN l (aftZ l ps) = mv (pkN l false ps) (pkN l true ps) := by
  unfold pkN
  rw [mv_map]
  unfold talN
  refine List.map_congr_left fun i hi => ?_
  have hi' := List.mem_range.mp hi
  rw [cnt_aft (by omega)]
  congr 1
  by_cases h0 : 0 < i
  · rw [if_pos h0]
    congr 1
    omega
  · rw [if_neg h0]
    have : (i : Int) - 1 = -1 := by omega
    rw [this]
    exact cnt_neg h
theorem pk_not (l : Int) (ps : List (Int × Bool)) (b : Bool) : pkN l b (notZ ps) = pkN l (!b) ps := by
  unfold pkN
  exact List.map_congr_left fun i _ => cnt_not ps i b
theorem fst_not (ps : List (Int × Bool)) : (notZ ps).map (·.1) = ps.map (·.1) := by
  unfold notZ
  rw [List.map_map]
  rfl
/-! the first of each mark are picked -/
def grZ : List Nat → List Int → List (Int × Bool)
  | _, [] => []
  | left, m :: r => if m < left.length ∧ 0 < left.getD m.toNat 0 then (m, false) :: grZ (left.set m.toNat (left.getD m.toNat 0 - 1)) r else (m, true) :: grZ left r
theorem grZ_fst : ∀ (ms : List Int) (left : List Nat), (grZ left ms).map (·.1) = ms
  | [], _ => by unfold grZ; rfl
  | m :: r, left => by
    unfold grZ
    split
    · rw [List.map_cons, grZ_fst r]
    · rw [List.map_cons, grZ_fst r]
theorem set_getD (l : List Nat) (i j v : Nat) (h : i < l.length) : (l.set i v).getD j 0 = if i = j then v else l.getD j 0 := by
  rw [List.getD_eq_getElem?_getD, List.getD_eq_getElem?_getD, List.getElem?_set]
  by_cases e : i = j
  · rw [if_pos e, if_pos e, if_pos h]; rfl
  · rw [if_neg e, if_neg e]
theorem grZ_cnt : ∀ (ms : List Int) (left : List Nat), (∀ m ∈ ms, 0 ≤ m) → (∀ i, i < left.length → left.getD i 0 ≤ cntI ms (i : Int)) → ∀ i, i < left.length → cntB (grZ left ms) (i : Int) false = left.getD i 0
  | [], left, _, h, i, hi => by
    have z : left.getD i 0 ≤ 0 := h i hi
    have e : cntB (grZ left []) (i : Int) false = 0 := by unfold grZ; rfl
    omega
  | m :: r, left, hn, h, i, hi => by
    have hm := hn m List.mem_cons_self
    have hr : ∀ x ∈ r, 0 ≤ x := fun x hx => hn x (List.mem_cons_of_mem _ hx)
    unfold grZ
    by_cases c : m < left.length ∧ 0 < left.getD m.toNat 0
    · rw [if_pos c, cntB_cons]
      have hmt : m.toNat < left.length := by omega
      have ih := grZ_cnt r (left.set m.toNat (left.getD m.toNat 0 - 1)) hr (fun j hj => by
        rw [List.length_set] at hj
        rw [set_getD _ _ _ _ hmt]
        have hj' := h j hj
        rw [cntI_cons] at hj'
        by_cases e : m.toNat = j
        · have e' : m = (j : Int) := by omega
          rw [if_pos e'] at hj'
          rw [if_pos e, e]
          omega
        · have e' : ¬ m = (j : Int) := by omega
          rw [if_neg e'] at hj'
          rw [if_neg e]
          omega) i (by rw [List.length_set]; exact hi)
      rw [ih, set_getD _ _ _ _ hmt]
      by_cases e : m.toNat = i
      · have e' : m = (i : Int) := by omega
        rw [if_pos e, if_pos ⟨e', rfl⟩, e]
        rw [e] at c
        omega
      · have e' : ¬ m = (i : Int) := by omega
        rw [if_neg e, if_neg (fun z => e' z.1)]
        rfl
    · rw [if_neg c, cntB_cons, if_neg (fun z => by cases z.2)]
      have ih := grZ_cnt r left hr (fun j hj => by
        have hj' := h j hj
        rw [cntI_cons] at hj'
        by_cases e' : m = (j : Int)
        · rw [if_pos e'] at hj'
          have e : m.toNat = j := by omega
          have : ¬ 0 < left.getD j 0 := fun z => c ⟨by omega, by rw [e]; exact z⟩
          omega
        · rw [if_neg e'] at hj'
          omega) i hi
      rw [ih]
      rfl
theorem tal_len (l : Int) (ms : List Int) : (talN l ms).length = (l + 1).toNat := by unfold talN; simp
theorem tal_at (l : Int) (ms : List Int) {i : Nat} (h : i < (l + 1).toNat) : (talN l ms).getD i 0 = cntI ms (i : Int) := by
  unfold talN
  rw [List.getD_eq_getElem?_getD, List.getElem?_map, List.getElem?_range h]
  rfl
theorem grZ_pk {l : Int} {ms : List Int} {p : List Nat} (hn : ∀ m ∈ ms, 0 ≤ m) (h : LeT p (talN l ms)) : pkN l false (grZ p ms) = p := by
  have hl := h.len
  rw [tal_len] at hl
  have z := grZ_cnt ms p hn fun i hi => by
    have := h.at i
    rw [tal_at l ms (by omega)] at this
    exact this
  conv => rhs; rw [← nat_range p]
  unfold pkN
  rw [hl]
  exact List.map_congr_left fun i hi => z i (by rw [hl]; exact List.mem_range.mp hi)
theorem grZ_pk2 {l : Int} {ms : List Int} {p : List Nat} (hn : ∀ m ∈ ms, 0 ≤ m) (h : LeT p (talN l ms)) : pkN l true (grZ p ms) = subT (talN l ms) p := by
  have e := pk_sub l (grZ p ms) false
  rw [grZ_fst, grZ_pk hn h] at e
  exact e.symm
theorem tal_pick {l : Int} {ms : List Int} {p : List Nat} (hn : ∀ m ∈ ms, 0 ≤ m) (h : LeT p (talN l ms)) : talN l (aftZ l (grZ p ms)) = mv p (subT (talN l ms) p) ∧ talN l (aftZ l (notZ (grZ p ms))) = mv (subT (talN l ms) p) p := by
  have f1 : ∀ m ∈ (grZ p ms).map (·.1), 0 ≤ m := by rw [grZ_fst]; exact hn
  have f2 : ∀ m ∈ (notZ (grZ p ms)).map (·.1), 0 ≤ m := by rw [fst_not]; exact f1
  constructor
  · rw [tal_aft f1, grZ_pk hn h, grZ_pk2 hn h]
  · rw [tal_aft f2, pk_not, pk_not]
    show mv (pkN l true (grZ p ms)) (pkN l false (grZ p ms)) = _
    rw [grZ_pk hn h, grZ_pk2 hn h]
theorem En_tal {l : Int} (hl : 0 ≤ l) : ∀ (q : Nat) (ms : List Int), (∀ m ∈ ms, 0 ≤ m) → (En l q ms ↔ EnT q (talN l ms))
  | 0, ms, h => by
    show stN l ms ≤ 1 ↔ (talN l ms).sum ≤ 1
    rw [tal_sum hl h]
  | q + 1, ms, h => by
    constructor
    · intro e
      rcases e with e | ⟨ps, e, h1, h2⟩
      · exact .inl (by rw [tal_sum hl h]; exact e)
      · subst e
        have f2 : ∀ m ∈ (notZ ps).map (·.1), 0 ≤ m := by rw [fst_not]; exact h
        refine .inr ⟨pkN l false ps, pk_le l ps false, ?_, ?_⟩
        · rw [pk_sub]
          show EnT q (mv (pkN l false ps) (pkN l true ps))
          rw [← tal_aft h]
          exact (En_tal hl q _ (aftZ_nn hl h)).mp h1
        · rw [pk_sub]
          show EnT q (mv (pkN l true ps) (pkN l false ps))
          have z := tal_aft (l := l) f2
          rw [pk_not, pk_not] at z
          have z' : talN l (aftZ l (notZ ps)) = mv (pkN l true ps) (pkN l false ps) := z
          rw [← z']
          exact (En_tal hl q _ (aftZ_nn hl f2)).mp h2
    · intro e
      rcases e with e | ⟨p, hp, h1, h2⟩
      · exact .inl (by rw [← tal_sum hl h]; exact e)
      · obtain ⟨t1, t2⟩ := tal_pick h hp
        have f1 : ∀ m ∈ (grZ p ms).map (·.1), 0 ≤ m := by rw [grZ_fst]; exact h
        have f2 : ∀ m ∈ (notZ (grZ p ms)).map (·.1), 0 ≤ m := by rw [fst_not]; exact f1
        refine .inr ⟨grZ p ms, grZ_fst ms p, ?_, ?_⟩
        · exact (En_tal hl q _ (aftZ_nn hl f1)).mpr (by rw [t1]; exact h1)
        · exact (En_tal hl q _ (aftZ_nn hl f2)).mpr (by rw [t2]; exact h2)
theorem need_tal {l : Int} (hl : 0 ≤ l) {ms : List Int} (h : ∀ m ∈ ms, 0 ≤ m) {q : Nat} (n : IsNeedT (talN l ms) q) : IsNeed l ms q :=
  ⟨(En_tal hl q ms h).mpr n.1, fun q' hq z => n.2 q' hq ((En_tal hl q' ms h).mp z)⟩
theorem boot_zipT : bootBuiltins "zip" = some (.type "zip") := PyProof.Rows.boot_zip
def tI (t : List Nat) : List Int := t.map fun (x : Nat) => (x : Int)
def tV (t : List Nat) : List V := (tI t).map V.int
def keyT (t : List Nat) : List Key := t.map fun (x : Nat) => Sum.inl (x : Int)
theorem keyT_kV (t : List Nat) : (keyT t).map kV = tV t := by
  unfold keyT tV tI
  rw [List.map_map, List.map_map]
  rfl
theorem keyT_inj : ∀ {t t' : List Nat}, keyT t = keyT t' → t = t'
  | [], [], _ => rfl
  | [], _ :: _, h => by cases h
  | _ :: _, [], h => by cases h
  | x :: r, y :: s, h => by
    unfold keyT at h
    rw [List.map_cons, List.map_cons] at h
    injection h with h1 h2
    injection h1 with h1
    have e : x = y := by exact_mod_cast h1
    rw [e, keyT_inj h2]
theorem tI_len (t : List Nat) : (tI t).length = t.length := by unfold tI; simp
theorem tV_len (t : List Nat) : (tV t).length = t.length := by unfold tV; rw [List.length_map, tI_len]
theorem tI_sum (t : List Nat) : (tI t).sum = ((t.sum : Nat) : Int) := sum_castN t
theorem tI_nn (t : List Nat) : ∀ n ∈ tI t, 0 ≤ n := fun n hn => by
  unfold tI at hn
  obtain ⟨x, _, rfl⟩ := List.mem_map.mp hn
  omega
theorem tI_getD (t : List Nat) (i : Nat) : (tI t).getD i 0 = ((t.getD i 0 : Nat) : Int) := by
  unfold tI
  rw [List.getD_eq_getElem?_getD, List.getD_eq_getElem?_getD, List.getElem?_map]
  cases t[i]? <;> rfl
theorem tV_at (t : List Nat) {i : Nat} (h : i < t.length) : (tV t)[i]? = some (.int ((t.getD i 0 : Nat) : Int)) := by
  unfold tV tI
  rw [List.getElem?_map, List.getElem?_map, List.getElem?_eq_getElem h, List.getD_eq_getElem?_getD, List.getElem?_eq_getElem h]
  rfl
theorem tV_atI (t : List Nat) {k : Int} (h0 : 0 ≤ k) (h : k < t.length) : atI (tV t) k = some (.int ((t.getD k.toNat 0 : Nat) : Int)) := by
  have := at_nat (ns := tI t) (k := k) h0 (by rw [tI_len]; exact h)
  rw [tI_getD] at this
  exact this
theorem tV_range (n : Nat) (f : Nat → Nat) : tV ((List.range n).map f) = (List.range n).map fun i => V.int ((f i : Nat) : Int) := by
  unfold tV tI
  rw [List.map_map, List.map_map]
  rfl
/-- small tallies -/
structure TalOk (t : List Nat) : Prop where
  len : t.length ≤ 3
  sum : t.sum ≤ 8
/-- a new tuple comes back -/
def retT (H : Hp) (xs : List V) (Q : VK) : Prop := ∀ r H', H r = none → Same H H' → H' r = some (.tup xs) → Q (.ref r) H'
theorem count_cnt (ms : List Int) (i : Int) : (ms.map V.int).countP (fun z => eqV z (.int i)) = cntI ms i := by
  rw [List.countP_map]
  unfold cntI
  refine List.countP_congr fun m _ => ?_
  show (m == i) = true ↔ decide (m = i) = true
  simp
theorem sc_tally_of : FnScope ["marks", "lies"] ["marks", "lies"] (defScope s_tally_of) := ⟨rfl, rfl, rfl, by decide +kernel, rfl, by decide +kernel, by decide +kernel⟩
def sp_tally_of (K : PySem.W.Frag) : Sp := fun vs H Q E => ∃ (a : Addr) (l : Int) (ms : List Int), vs = [.ref a, .int l] ∧ (SqL K H a (ms.map V.int)) ∧ (Good l ms) ∧ (retT H (tV (talN l ms)) Q)
theorem ok_tally_of (T : Tx K mg "tally_of" ["marks", "lies"] s_tally_of) (m_tuple : mg "tuple" = none) (m_range : mg "range" = none) : Df P w K mg base (n + 1) "tally_of" ["marks", "lies"] (sp_tally_of K) := by
  refine T.ok sc_tally_of (fun vs H Q E h => ?_) (fun f cdv A outer s H vs Q E hr h => ?_)
  · obtain ⟨a, l, ms, rfl, _⟩ := h
    rfl
  obtain ⟨a, l, ms, rfl, hS, g, q⟩ := h
  have nd := sc_tally_of.nd
  have nb1 : List.Nodup (["mark", "marks", "lies"] : List Str) := by decide +kernel
  refine ⟨_, (pss_one (ps_ret (pe_callTy call_tuple_of rfl m_tuple PyProof.Rows.boot_tuple (pa_cons (pe_comp (own := ["mark"]) rfl (BlkScope.mk' (xs := defScope s_tally_of) (N := ["marks", "lies"]) rfl rfl rfl (by decide +kernel)) (pi_range1 rfl m_range (pa_cons (pe_op op_add (pv 1) pe_int) pa_nil)) (fun C s₀ H₀ ex => pg1B nb1) (fun C s₀ H₀ ex => pif_nil) (fun C s₀ H₀ ex => (pe_bmB PySem.F.plainAttrs_list PySem.F.slot_list_count PySem.F.type_list_count mt_countB (pv 1) (pa_cons (pv 0) pa_nil)))) pa_nil)))), ?_⟩
  have g1 := g.lo
  have g2 := g.hi
  refine ⟨_, rfl, _, _, rfl, rfl, l + 1, rfl, by omega, by omega, ?_⟩
  refine comp_range0 (n := (l + 1).toNat) (fun i => .int ((cntI ms (i : Int) : Nat) : Int)) (by omega) ?_ fun r H1 hr1 s1 e1 => ?_
  · intro i H1 R hi hs r1
    have z0 : (0 : Int) + (i : Int) = (i : Int) := by omega
    refine ⟨_, rfl, .inl ⟨rfl, _, hs.seq hS⟩, _, rfl, a, _, _, rfl, rfl, hs.seq hS, rfl, flat_ints _, ?_⟩
    rw [z0, count_cnt]
    exact r1 H1 (Same.refl H1)
  · refine ⟨r, _, rfl, .inl ⟨SqL.of e1, fun p hp => ?_⟩⟩
    have e2 : (List.range (l + 1).toNat).map (fun (i : Nat) => V.int ((cntI ms (i : Int) : Nat) : Int)) = tV (talN l ms) := by unfold talN; rw [tV_range]
    rw [e2]
    exact q p _ (s1.free hp) (s1.trans (same_new hp _)) upd_same
theorem sc_is_found : FnScope ["tally"] ["tally"] (defScope s_is_found) := ⟨rfl, rfl, rfl, by decide +kernel, rfl, by decide +kernel, by decide +kernel⟩
def sp_is_found (K : PySem.W.Frag) : Sp := fun vs H Q E => ∃ (a : Addr) (t : List Nat), vs = [.ref a] ∧ (SqT K H a (tV t)) ∧ (t.sum ≤ 1000) ∧ (Q (.bl (decide (((t.sum : Nat) : Int) ≤ 1))) H)
theorem ok_is_found (T : Tx K mg "is_found" ["tally"] s_is_found) (m_sum : mg "sum" = none) : Df P w K mg base (n + 1) "is_found" ["tally"] (sp_is_found K) := by
  refine T.ok sc_is_found (fun vs H Q E h => ?_) (fun f cdv A outer s H vs Q E hr h => ?_)
  · obtain ⟨a, t, rfl, _⟩ := h
    rfl
  obtain ⟨a, t, rfl, hA, hs, q⟩ := h
  have nd := sc_is_found.nd
  refine ⟨_, (pss_one (ps_ret (pe_cmpR op_le (pe_callB (call_sum rfl) rfl m_sum PyProof.Rows.boot_sum (pa_cons (pv 0) pa_nil)) pe_int (nomark _)))), ?_⟩
  refine ⟨_, rfl, a, tI t, rfl, .inr hA, tI_nn t, by rw [tI_sum]; omega, _, _, rfl, rfl, ?_⟩
  rw [tI_sum]
  exact q
theorem sc_moved : FnScope ["kept", "rising"] ["kept", "rising"] (defScope s_moved) := ⟨rfl, rfl, rfl, by decide +kernel, rfl, by decide +kernel, by decide +kernel⟩
def sp_moved (K : PySem.W.Frag) : Sp := fun vs H Q E => ∃ (a : Addr) (b : Addr) (p : List Nat) (r : List Nat), vs = [.ref a, .ref b] ∧ (SqE K H a (tV p)) ∧ (SqE K H b (tV r)) ∧ (p.length = r.length) ∧ (p.length ≤ 1000) ∧ (retT H (tV (mv p r)) Q)
theorem ok_moved (T : Tx K mg "moved" ["kept", "rising"] s_moved) (m_tuple : mg "tuple" = none) (m_range : mg "range" = none) (m_len : mg "len" = none) : Df P w K mg base (n + 1) "moved" ["kept", "rising"] (sp_moved K) := by
  refine T.ok sc_moved (fun vs H Q E h => ?_) (fun f cdv A outer s H vs Q E hr h => ?_)
  · obtain ⟨a, b, p, r, rfl, _⟩ := h
    rfl
  obtain ⟨a, b, p, r, rfl, hA, hB, hl, hz, q⟩ := h
  have nd := sc_moved.nd
  have nb1 : List.Nodup (["mark", "kept", "rising"] : List Str) := by decide +kernel
  refine ⟨_, (pss_one (ps_ret (pe_callTy call_tuple_of rfl m_tuple PyProof.Rows.boot_tuple (pa_cons (pe_comp (own := ["mark"]) rfl (BlkScope.mk' (xs := defScope s_moved) (N := ["kept", "rising"]) rfl rfl rfl (by decide +kernel)) (pi_range1 rfl m_range (pa_cons (pe_callB call_len_seq rfl m_len PySem.boot_len (pa_cons (pv 0) pa_nil)) pa_nil)) (fun C s₀ H₀ ex => pg1B nb1) (fun C s₀ H₀ ex => pif_nil) (fun C s₀ H₀ ex => (pe_op op_add (pe_ix ix_eitherB (pv 1) (pv 0) (fun _ _ => rfl)) (pe_ifExp (pt_cmpR op_gt (pv 0) pe_int (nomark _)) (pe_ix ix_eitherB (pv 2) (pe_op op_sub (pv 0) pe_int) (fun _ _ => rfl)) pe_int)))) pa_nil)))), ?_⟩
  refine ⟨_, rfl, a, _, rfl, hA, (p.length : Int), by rw [tV_len], by omega, by omega, ?_⟩
  refine comp_range0 (n := p.length) (fun i => .int ((p.getD i 0 + (if 0 < i then r.getD (i - 1) 0 else 0) : Nat) : Int)) hz ?_ fun rl H1 hr1 s1 e1 => ?_
  · intro i H1 R hi hs r1
    have zt : ((0 : Int) + (i : Int)).toNat = i := by omega
    have ix := tV_atI p (k := 0 + (i : Int)) (by omega) (by omega)
    rw [zt] at ix
    refine ⟨_, rfl, _, rfl, a, _, _, _, rfl, rfl, hs.sqe hA, ix, _, rfl, _, _, rfl, rfl, _, rfl, ?_⟩
    refine ite2 (fun c => ?_) fun c => ?_
    · have c' : (0 : Int) < 0 + (i : Int) := of_decide_eq_true c
      have ix2 := tV_atI r (k := 0 + (i : Int) - 1) (by omega) (by omega)
      have zt2 : ((0 : Int) + (i : Int) - 1).toNat = i - 1 := by omega
      rw [zt2] at ix2
      refine ⟨_, rfl, _, rfl, _, _, rfl, rfl, b, _, _, _, rfl, rfl, hs.sqe hB, ix2, _, _, rfl, rfl, ?_⟩
      have e : (fun i j => V.int (i + j)) ((p.getD i 0 : Nat) : Int) ((r.getD (i - 1) 0 : Nat) : Int) = V.int ((p.getD i 0 + (if 0 < i then r.getD (i - 1) 0 else 0) : Nat) : Int) := by
        rw [if_pos (by omega : 0 < i)]
        exact congrArg V.int (by omega)
      rw [e]
      exact r1 H1 (Same.refl H1)
    · have c' : ¬ (0 : Int) < 0 + (i : Int) := of_decide_eq_false (Bool.eq_false_iff.mpr c)
      refine ⟨_, _, rfl, rfl, ?_⟩
      have e : (fun i j => V.int (i + j)) ((p.getD i 0 : Nat) : Int) 0 = V.int ((p.getD i 0 + (if 0 < i then r.getD (i - 1) 0 else 0) : Nat) : Int) := by
        rw [if_neg (by omega : ¬ 0 < i)]
        exact congrArg V.int (by omega)
      rw [e]
      exact r1 H1 (Same.refl H1)
  · refine ⟨rl, _, rfl, .inl ⟨SqL.of e1, fun x hx => ?_⟩⟩
    have e2 : (List.range p.length).map (fun (i : Nat) => V.int ((p.getD i 0 + (if 0 < i then r.getD (i - 1) 0 else 0) : Nat) : Int)) = tV (mv p r) := by
      have z := mv_map (fun i => p.getD i 0) (fun i => r.getD i 0) p.length
      rw [nat_range] at z
      have z2 : (List.range p.length).map (fun i => r.getD i 0) = r := by rw [hl]; exact nat_range r
      rw [z2] at z
      rw [z, tV_range]
    rw [e2]
    exact q x _ (s1.free hx) (s1.trans (same_new hx _)) upd_same
theorem noIf {σ : St} {H : Hp} {A B : Hp → Prop} (h : A H) : tNoIf σ H fun b H3 => if b = true then A H3 else B H3 := iteT (A := A H) (B := B H) h
/-! ### all picks -/
def stepP (ps : List (List Nat)) (c : Nat) : List (List Nat) := ps.flatMap fun p => (List.range (c + 1)).map fun x => p ++ [x]
def allP (t : List Nat) : List (List Nat) := t.foldl stepP [[]]
theorem mem_stepP {ps : List (List Nat)} {c : Nat} {p : List Nat} : p ∈ stepP ps c ↔ ∃ p0 ∈ ps, ∃ x, x ≤ c ∧ p = p0 ++ [x] := by
  unfold stepP
  rw [List.mem_flatMap]
  constructor
  · rintro ⟨p0, h0, h1⟩
    obtain ⟨x, hx, rfl⟩ := List.mem_map.mp h1
    exact ⟨p0, h0, x, by have := List.mem_range.mp hx; omega, rfl⟩
  · rintro ⟨p0, h0, x, hx, rfl⟩
    exact ⟨p0, h0, List.mem_map.mpr ⟨x, List.mem_range.mpr (by omega), rfl⟩⟩
theorem LeT.snoc : ∀ {p t : List Nat} {x c : Nat}, LeT p t → x ≤ c → LeT (p ++ [x]) (t ++ [c])
  | _, _, _, _, .nil, h => .cons h .nil
  | _, _, _, _, .cons h r, h2 => .cons h (LeT.snoc r h2)
theorem mem_fold : ∀ (t : List Nat) (ps : List (List Nat)) (p : List Nat), p ∈ t.foldl stepP ps ↔ ∃ p0 ∈ ps, ∃ s, p = p0 ++ s ∧ LeT s t
  | [], ps, p => by
    constructor
    · intro h
      exact ⟨p, h, [], by simp, .nil⟩
    · rintro ⟨p0, h0, s, rfl, hs⟩
      cases hs
      simpa using h0
  | c :: t, ps, p => by
    rw [List.foldl_cons, mem_fold t]
    constructor
    · rintro ⟨p1, h1, s, rfl, hs⟩
      obtain ⟨p0, h0, x, hx, rfl⟩ := mem_stepP.mp h1
      exact ⟨p0, h0, x :: s, by simp, .cons hx hs⟩
    · rintro ⟨p0, h0, s, rfl, hs⟩
      cases hs with
      | cons hx hr => exact ⟨p0 ++ [_], mem_stepP.mpr ⟨p0, h0, _, hx, rfl⟩, _, by simp, hr⟩
theorem mem_allP {t p : List Nat} : p ∈ allP t ↔ LeT p t := by
  unfold allP
  rw [mem_fold]
  constructor
  · rintro ⟨p0, h0, s, rfl, hs⟩
    have : p0 = [] := by simpa using h0
    subst this
    simpa using hs
  · intro h
    exact ⟨[], by simp, p, by simp, h⟩
theorem stepP_len (ps : List (List Nat)) (c : Nat) : (stepP ps c).length = ps.length * (c + 1) := by
  induction ps with
  | nil => simp [stepP]
  | cons p r ih =>
    unfold stepP at ih ⊢
    rw [List.flatMap_cons, List.length_append, ih, List.length_map, List.length_range, List.length_cons, Nat.succ_mul]
    omega
theorem fold_len {n : Nat} : ∀ (t : List Nat) (ps : List (List Nat)), t.length ≤ n → t.sum ≤ 8 → (t.foldl stepP ps).length ≤ ps.length * 9 ^ n := by
  induction n with
  | zero =>
    intro t ps hl _
    have : t = [] := List.eq_nil_of_length_eq_zero (by omega)
    subst this
    simp
  | succ n ih =>
    intro t ps hl hs
    cases t with
    | nil =>
      simp only [List.foldl_nil]
      exact Nat.le_mul_of_pos_right _ (Nat.pow_pos (by decide))
    | cons c r =>
      simp only [List.sum_cons] at hs
      rw [List.foldl_cons]
      have z := ih r (stepP ps c) (by simpa using hl) (by omega)
      rw [stepP_len] at z
      refine Nat.le_trans z ?_
      rw [Nat.pow_succ, Nat.mul_comm (9 ^ n) 9, ← Nat.mul_assoc]
      exact Nat.mul_le_mul_right _ (Nat.mul_le_mul_left _ (by omega))
theorem allP_len {t : List Nat} (h : TalOk t) : (allP t).length ≤ 729 := by
  have := fold_len (n := 3) t [[]] h.len h.sum
  simpa [allP] using this
/-- refs that stand for tuples of numbers -/
def RefsT (H : Hp) (as : List Addr) (ps : List (List Nat)) : Prop := Paired (fun a p => H a = some (.tup (tV p))) as ps
theorem RefsT.same {H H' : Hp} {as : List Addr} {ps : List (List Nat)} (s : Same H H') (r : RefsT H as ps) : RefsT H' as ps := Paired.mapP r fun _ _ h => s _ _ h
theorem RefsT.but {d : Addr} {o : HO} {H H' : Hp} {as : List Addr} {ps : List (List Nat)} (s : But d H H') (hd : H d = some o) (hn : ∀ xs, o ≠ .tup xs) (r : RefsT H as ps) : RefsT H' as ps := Paired.mapP r fun a p h => s.at' _ _ (fun e => by
  rw [e, hd] at h
  exact hn _ (Option.some.inj h)) h rfl
theorem RefsT.len {H : Hp} {as : List Addr} {ps : List (List Nat)} (r : RefsT H as ps) : as.length = ps.length := Paired.length r
theorem RefsT.upd {H : Hp} {as : List Addr} {ps : List (List Nat)} {x : Addr} {o o' : HO} (r : RefsT H as ps) (hx : H x = some o') (hn : ∀ xs, o' ≠ .tup xs) : RefsT (L2.upd H x o) as ps := Paired.mapP r fun a p h => by
  rw [upd_ne (fun e => by rw [e, hx] at h; exact hn _ (Option.some.inj h))]
  exact h
theorem take_fold (t : List Nat) {i : Nat} (h : i < t.length) (ps : List (List Nat)) : (t.take (i + 1)).foldl stepP ps = stepP ((t.take i).foldl stepP ps) (t.getD i 0) := by
  rw [List.take_add_one, List.getElem?_eq_getElem h, List.foldl_append, List.getD_eq_getElem?_getD, List.getElem?_eq_getElem h]
  rfl
theorem take_step (ps : List (List Nat)) (c : Nat) {i : Nat} {p : List Nat} (h : ps[i]? = some p) : stepP (ps.take (i + 1)) c = stepP (ps.take i) c ++ (List.range (c + 1)).map fun x => p ++ [x] := by
  rw [List.take_add_one, h]
  unfold stepP
  rw [List.flatMap_append]
  simp
theorem take_sum_le (t : List Nat) (i : Nat) : (t.take i).sum ≤ t.sum := by
  have e : t.sum = (t.take i).sum + (t.drop i).sum := by rw [← List.sum_append, List.take_append_drop]
  omega
theorem sc_all_picks : FnScope ["tally", "picks", "count", "longer", "pick"] ["tally"] (defScope s_all_picks) := ⟨rfl, rfl, rfl, by decide +kernel, rfl, by decide +kernel, by decide +kernel⟩
def sp_all_picks (K : PySem.W.Frag) : Sp := fun vs H Q E => ∃ (a : Addr) (t : List Nat), vs = [.ref a] ∧ (SqT K H a (tV t)) ∧ (TalOk t) ∧ (∀ r H' as, H r = none → Same H H' → H' r = some (.lst (as.map V.ref)) → RefsT H' as (allP t) → Q (.ref r) H')
theorem ok_all_picks (T : Tx K mg "all_picks" ["tally"] s_all_picks) (m_range : mg "range" = none) : Df P w K mg base (n + 1) "all_picks" ["tally"] (sp_all_picks K) := by
  refine T.ok sc_all_picks (fun vs H Q E h => ?_) (fun f cdv A outer s H vs Q E hr h => ?_)
  · obtain ⟨a, t, rfl, _⟩ := h
    rfl
  obtain ⟨a, t, rfl, hA, ht, q⟩ := h
  have nd := sc_all_picks.nd
  have nb1 : List.Nodup (["picked", "tally", "picks", "count", "longer", "pick"] : List Str) := by decide +kernel
  refine ⟨_, (pss_cons (ps_set (i := 1) nd rfl (Or.inl rfl) (pe_lst (pa_cons (pe_tup pa_nil) pa_nil))) (pss_cons (ps_for PassesOwn.never rfl (pi_tup (pv 0)) (pg_name (i := 2) nd rfl (Or.inl rfl)) (pss_cons (ps_set (i := 3) nd rfl (Or.inl rfl) (pe_lst pa_nil)) (pss_cons (ps_for PassesOwn.never rfl (pi_list (pv 1)) (pg_name (i := 4) nd rfl (Or.inr rfl)) (pss_one (ps_expr (pe_bm PySem.F.plainAttrs_list PySem.F.slot_list_extend PySem.F.type_list_extend mt_extend (pv 3) (pa_cons (pe_comp (own := ["picked"]) rfl (BlkScope.mk' (xs := defScope s_all_picks) (N := ["tally", "picks", "count", "longer", "pick"]) rfl rfl rfl (by decide +kernel)) (pi_range1 rfl m_range (pa_cons (pe_op op_add (pv 2) pe_int) pa_nil)) (fun C s₀ H₀ ex => pg1B nb1) (fun C s₀ H₀ ex => pif_nil) (fun C s₀ H₀ ex => (pe_op op_snocTB (pv 5) (pe_tup (pa_cons (pv 0) pa_nil))))) pa_nil))))) (pss_one (ps_set (i := 1) nd rfl (Or.inl rfl) (pv 3)))))) (pss_one (ps_ret (pv 1))))), ?_⟩
  have h3 := ht.len
  have h8 := ht.sum
  refine ⟨by show 0 ≤ sizeLine; decide, fun p0 hp0 => ?_⟩
  have s0 := same_new hp0 (.tup [])
  refine ⟨by show 1 ≤ sizeLine; decide, fun r0 hr0 => ?_⟩
  have s1 := same_new hr0 (.lst [.ref p0])
  refine ⟨_, rfl, a, rfl, ⟨_, s1.tup (s0.tup hA)⟩, ?_⟩
  refine for_tup (xs := tV t) (fun i σ H1 => i ≤ t.length ∧ Same H H1 ∧ ∃ (r : Addr) (as : List Addr) (o2 o3 o4 : Option V), H r = none ∧ H1 r = some (.lst (as.map V.ref)) ∧ RefsT H1 as ((t.take i).foldl stepP [[]]) ∧ σ = [some (.ref a), some (.ref r), o2, o3, o4])
    ⟨Nat.zero_le _, s0.trans s1, r0, [p0], none, none, none, s0.free hr0, upd_same, .cons (s1 _ _ upd_same) .nil, rfl⟩ (fun i σ H1 _ h => h.2.1.tup hA) ?_ ?_
  · rintro i x σ H1 hx ⟨hi, s2, r, as, o2, o3, o4, hr1, e1, rf, rfl⟩
    have hlt : i < t.length := by
      have := (List.getElem?_eq_some_iff.mp hx).1
      rw [tV_len] at this
      exact this
    have hxv := tV_at t hlt
    rw [hxv] at hx
    cases hx
    have hc8 : t.getD i 0 ≤ 8 := by
      have := take_sum_le t (i + 1)
      rw [List.take_add_one, List.getElem?_eq_getElem hlt, List.sum_append] at this
      rw [List.getD_eq_getElem?_getD, List.getElem?_eq_getElem hlt]
      simp at this ⊢
      omega
    have plen : ((t.take i).foldl stepP [[]]).length ≤ 729 := by
      have := fold_len (n := 3) (t.take i) [[]] (by rw [List.length_take]; omega) (Nat.le_trans (take_sum_le t i) h8)
      simpa using this
    have plen2 : ((t.take (i + 1)).foldl stepP [[]]).length ≤ 729 := by
      have := fold_len (n := 3) (t.take (i + 1)) [[]] (by rw [List.length_take]; omega) (Nat.le_trans (take_sum_le t (i + 1)) h8)
      simpa using this
    rw [take_fold t hlt] at plen2
    rw [take_fold t hlt]
    generalize hps : (t.take i).foldl stepP [[]] = ps at rf plen plen2
    generalize hcc : t.getD i 0 = c at hc8 plen2
    have alen := rf.len
    refine ⟨by show 0 ≤ sizeLine; decide, fun rL hrL => ?_⟩
    have s3 := same_new hrL (.lst [])
    have e1' := s3 _ _ e1
    refine ⟨_, rfl, r, rfl, ⟨_, SqL.of e1'⟩, ?_⟩
    refine for_list (xs := as.map V.ref) (fun j σ H2 => j ≤ as.length ∧ Same H1 H2 ∧ H2 r = some (.lst (as.map V.ref)) ∧ ∃ (bs : List Addr) (o4 : Option V), H2 rL = some (.lst (bs.map V.ref)) ∧ RefsT H2 bs (stepP (ps.take j) c) ∧ σ = [some (.ref a), some (.ref r), some (.int (c : Int)), some (.ref rL), o4])
      ⟨Nat.zero_le _, s3, e1', [], o4, upd_same, .nil, rfl⟩ (fun j σ H2 _ h => SqL.of h.2.2.1) ?_ ?_
    · rintro j x σ H2 hx ⟨hj, s4, er, bs, o5, eL, rb, rfl⟩
      rw [List.getElem?_map] at hx
      obtain ⟨ap, hap, rfl⟩ := Option.map_eq_some_iff.mp hx
      obtain ⟨pp, hpp, hat⟩ := Paired.at rf hap
      have hjl : j < as.length := (List.getElem?_eq_some_iff.mp hap).1
      have hat2 : H2 ap = some (.tup (tV pp)) := s4 _ _ hat
      have plen3 : pp.length ≤ 3 := by
        have : pp ∈ ps := List.mem_of_getElem? hpp
        rw [← hps, mem_fold] at this
        obtain ⟨q0, h0, s, rfl, hs⟩ := this
        have : q0 = [] := by simpa using h0
        subst this
        have := hs.len
        simp [List.length_take] at this ⊢
        omega
      refine ⟨_, rfl, .inl ⟨rfl, _, SqL.of eL⟩, ?_⟩
      refine ⟨_, rfl, _, _, rfl, rfl, (c : Int) + 1, rfl, by omega, by omega, ?_⟩
      have zc : ((c : Int) + 1).toNat = c + 1 := by omega
      rw [zc]
      refine comp_rangeR (n := c + 1) (fun k ys H3 => k ≤ c + 1 ∧ Same H2 H3 ∧ ∃ cs : List Addr, ys = cs.map V.ref ∧ RefsT H3 cs ((List.range k).map fun x => pp ++ [x])) ⟨Nat.zero_le _, Same.refl H2, [], rfl, .nil⟩ ?_ ?_ ?_
      · rintro k ys H3 ⟨hk, _, cs, rfl, rc⟩
        have := rc.len
        rw [List.length_map, List.length_range] at this
        rw [List.length_map]
        omega
      · rintro k ys H3 hk ⟨_, s5, cs, rfl, rc⟩
        have z0 : (0 : Int) + (k : Int) = (k : Int) := by omega
        refine noIf ?_
        refine ⟨_, rfl, _, rfl, by show 1 ≤ sizeLine; decide, fun pt hpt => ?_⟩
        have s6 := same_new hpt (.tup [.int (0 + (k : Int))])
        refine ⟨ap, pt, tV pp, .int (0 + (k : Int)), rfl, rfl, SqT.of (s6 _ _ (s5 _ _ hat2)), upd_same, Nat.le_of_lt (small1000 (by rw [tV_len]; omega)), fun pn H4 s7 en => ?_⟩
        refine ⟨by omega, s5.trans (s6.trans s7), cs ++ [pn], by rw [List.map_append]; rfl, ?_⟩
        rw [List.range_succ, List.map_append]
        refine Paired.append (rc.same (s6.trans s7)) (.cons ?_ .nil)
        rw [en, z0]
        unfold tV tI
        rw [List.map_append, List.map_append]
        rfl
      · rintro ys H3 D ⟨_, s5, cs, rfl, rc⟩ hD
        have s6 := same_new hD (.lst (cs.map V.ref))
        have eL3 := s6 _ _ (s5 _ _ eL)
        have rb3 := rb.same (s5.trans s6)
        have rc3 := rc.same s6
        have lb := rb.len
        have lc := rc.len
        have tot : (stepP (ps.take (j + 1)) c).length ≤ 729 := by
          rw [stepP_len]
          rw [stepP_len] at plen2
          refine Nat.le_trans (Nat.mul_le_mul_right _ ?_) plen2
          rw [List.length_take]
          omega
        rw [take_step ps c hpp, List.length_append] at tot
        refine ⟨rL, D, _, _, rfl, rfl, eL3, upd_same, Nat.le_of_lt (small1000 (by rw [List.length_map, List.length_map, lb, lc]; omega)), ?_⟩
        have ner : r ≠ rL := ne_of_none e1 hrL
        refine ⟨hjl, (s4.trans (s5.trans s6)).upd hrL (NotX.lst eL3), ?_, bs ++ cs, some (.ref ap), by rw [upd_same, List.map_append], ?_, rfl⟩
        · rw [upd_ne ner]
          exact s6 _ _ (s5 _ _ er)
        · rw [take_step ps c hpp]
          exact Paired.append (rb3.upd eL3 fun xs e => by cases e) (rc3.upd eL3 fun xs e => by cases e)
    · rintro σ H2 ⟨_, s4, er, bs, o5, eL, rb, rfl⟩
      rw [List.length_map, alen, List.take_length] at rb
      refine ⟨_, rfl, ?_⟩
      exact ⟨hlt, s2.trans s4, rL, bs, _, _, _, s2.free hrL, eL, rb, rfl⟩
  · rintro σ H1 ⟨_, s2, r, as, o2, o3, o4, hr1, e1, rf, rfl⟩
    rw [tV_len, List.take_length] at rf
    exact ⟨_, rfl, q r H1 as hr1 s2 e1 rf⟩
def tellB (t p : List Nat) : Bool := decide (0 < p.sum) && decide (p.sum < t.sum)
theorem tells_iff {t p : List Nat} : p ∈ (allP t).filter (tellB t) ↔ Tells t p := by
  rw [List.mem_filter, mem_allP]
  unfold tellB
  constructor
  · rintro ⟨h1, h2⟩
    simp at h2
    exact ⟨h1, h2.1, h2.2⟩
  · rintro ⟨h1, h2, h3⟩
    exact ⟨h1, by simp [h2, h3]⟩
theorem take_filt (f : List Nat → Bool) (ps : List (List Nat)) {i : Nat} {p : List Nat} (h : ps[i]? = some p) : (ps.take (i + 1)).filter f = (ps.take i).filter f ++ if f p = true then [p] else [] := by
  rw [List.take_add_one, h, List.filter_append]
  congr 1
  show List.filter f [p] = _
  rw [List.filter_cons]
  rfl
theorem sc_picks_that_tell : FnScope ["tally"] ["tally"] (defScope s_picks_that_tell) := ⟨rfl, rfl, rfl, by decide +kernel, rfl, by decide +kernel, by decide +kernel⟩
def sp_picks_that_tell (K : PySem.W.Frag) : Sp := fun vs H Q E => ∃ (a : Addr) (t : List Nat), vs = [.ref a] ∧ (SqT K H a (tV t)) ∧ (TalOk t) ∧ (∀ r H' as, H r = none → Same H H' → H' r = some (.lst (as.map V.ref)) → RefsT H' as ((allP t).filter (tellB t)) → Q (.ref r) H')
theorem ok_picks_that_tell (T : Tx K mg "picks_that_tell" ["tally"] s_picks_that_tell) (D_all_picks : Df P w K mg base n "all_picks" ["tally"] (sp_all_picks K)) (m_sum : mg "sum" = none) : Df P w K mg base (n + 1) "picks_that_tell" ["tally"] (sp_picks_that_tell K) := by
  refine T.ok sc_picks_that_tell (fun vs H Q E h => ?_) (fun f cdv A outer s H vs Q E hr h => ?_)
  · obtain ⟨a, t, rfl, _⟩ := h
    rfl
  obtain ⟨a, t, rfl, hA, ht, q⟩ := h
  have nd := sc_picks_that_tell.nd
  have nb1 : List.Nodup (["pick", "tally"] : List Str) := by decide +kernel
  refine ⟨_, (pss_one (ps_ret (pe_comp (own := ["pick"]) rfl (BlkScope.mk' (xs := defScope s_picks_that_tell) (N := ["tally"]) rfl rfl rfl (by decide +kernel)) (pi_list (pe_callD D_all_picks hr rfl (pa_cons (pv 0) pa_nil))) (fun C s₀ H₀ ex => pg1B nb1) (fun C s₀ H₀ ex => pif_one (pt_chain op_lt op_lt pe_int (pe_callB (call_sumB rfl) rfl m_sum PyProof.Rows.boot_sum (pa_cons (pv 0) pa_nil)) (pe_callB (call_sumB rfl) rfl m_sum PyProof.Rows.boot_sum (pa_cons (pv 1) pa_nil)))) (fun C s₀ H₀ ex => (pv 0))))), ?_⟩
  have h8 := ht.sum
  have al := allP_len ht
  refine ⟨_, rfl, a, t, rfl, hA, ht, fun r H1 as hr1 s1 e1 rf => ?_⟩
  have alen := rf.len
  refine ⟨r, rfl, ⟨_, SqL.of e1⟩, ?_⟩
  refine comp_listR (xs := as.map V.ref) (fun i ys H2 => i ≤ as.length ∧ Same H1 H2 ∧ ∃ bs : List Addr, ys = bs.map V.ref ∧ RefsT H2 bs (((allP t).take i).filter (tellB t))) ⟨Nat.zero_le _, Same.refl H1, [], rfl, .nil⟩ ?_ ?_ ?_
  · rintro i ys H2 ⟨hi, s2, bs, rfl, rb⟩
    refine ⟨s2.seq (SqL.of e1), ?_⟩
    have lb := rb.len
    have := List.length_filter_le (tellB t) ((allP t).take i)
    rw [List.length_take] at this
    rw [List.length_map]
    omega
  · rintro i x ys H2 hx ⟨hi, s2, bs, rfl, rb⟩
    rw [List.getElem?_map] at hx
    obtain ⟨ap, hap, rfl⟩ := Option.map_eq_some_iff.mp hx
    obtain ⟨pp, hpp, hat⟩ := Paired.at rf hap
    have hil : i < as.length := (List.getElem?_eq_some_iff.mp hap).1
    have hat2 : H2 ap = some (.tup (tV pp)) := s2 _ _ hat
    have ple : LeT pp t := mem_allP.mp (List.mem_of_getElem? hpp)
    have psum := ple.sum
    refine ⟨_, rfl, ap, tI pp, rfl, .inr (SqT.of hat2), tI_nn pp, by rw [tI_sum]; omega, _, _, rfl, rfl, _, rfl, ?_⟩
    rw [tI_sum]
    have tf := take_filt (tellB t) (allP t) hpp
    refine ite2 (fun c => ?_) fun c => ?_
    · have c' : (0 : Int) < ((pp.sum : Nat) : Int) := of_decide_eq_true c
      refine ⟨_, rfl, a, tI t, rfl, .inr ((s1.trans s2).tup hA), tI_nn t, by rw [tI_sum]; omega, _, _, rfl, rfl, _, rfl, ?_⟩
      rw [tI_sum]
      refine ite2 (fun c2 => ?_) fun c2 => ?_
      · have c2' : ((pp.sum : Nat) : Int) < ((t.sum : Nat) : Int) := of_decide_eq_true c2
        have tb : tellB t pp = true := by unfold tellB; simp; omega
        refine ⟨_, rfl, hil, s2, bs ++ [ap], by rw [List.map_append]; rfl, ?_⟩
        rw [tf, if_pos tb]
        exact Paired.append rb (.cons hat2 .nil)
      · have c2' : ¬ ((pp.sum : Nat) : Int) < ((t.sum : Nat) : Int) := of_decide_eq_false (Bool.eq_false_iff.mpr c2)
        have tb : ¬ tellB t pp = true := by unfold tellB; simp; omega
        refine ⟨hil, s2, bs, rfl, ?_⟩
        rw [tf, if_neg tb, List.append_nil]
        exact rb
    · have c' : ¬ (0 : Int) < ((pp.sum : Nat) : Int) := of_decide_eq_false (Bool.eq_false_iff.mpr c)
      have tb : ¬ tellB t pp = true := by unfold tellB; simp; omega
      refine ⟨_, rfl, iteF (A := False) ?_⟩
      refine ⟨hil, s2, bs, rfl, ?_⟩
      rw [tf, if_neg tb, List.append_nil]
      exact rb
  · rintro ys H2 D ⟨_, s2, bs, rfl, rb⟩ hD
    rw [List.length_map, alen, List.take_length] at rb
    have s3 := same_new hD (.lst (bs.map V.ref))
    have all := s1.trans s2
    exact q D _ bs (all.free hD) (all.trans s3) upd_same (rb.same s3)
/-! ### what is known of needs -/
structure KnownOk (kvs : List (List Key × V)) : Prop where
  nd : (kvs.map (·.1)).Nodup
  each : ∀ k v, (k, v) ∈ kvs → ∃ t q, k = keyT t ∧ v = V.int ((q : Nat) : Int) ∧ IsNeedT t q ∧ TalOk t
theorem valV_mem {k : List Key} {v : V} : ∀ {kvs : List (List Key × V)}, valV kvs k = some v → (k, v) ∈ kvs
  | [], h => by cases h
  | p :: r, h => by
    by_cases e : p.1 = k
    · rw [valV_pos e] at h
      cases h
      rw [← e]
      exact List.mem_cons_self
    · rw [valV_neg e] at h
      exact List.mem_cons_of_mem _ (valV_mem h)
theorem KnownOk.get {kvs : List (List Key × V)} (h : KnownOk kvs) {t : List Nat} {v : V} (e : valV kvs (keyT t) = some v) : ∃ q, v = V.int ((q : Nat) : Int) ∧ IsNeedT t q := by
  obtain ⟨t', q, h1, h2, h3, _⟩ := h.each _ _ (valV_mem e)
  rw [keyT_inj h1]
  exact ⟨q, h2, h3⟩
theorem KnownOk.put {kvs : List (List Key × V)} (h : KnownOk kvs) {t : List Nat} {q : Nat} (n : IsNeedT t q) (ht : TalOk t) : KnownOk (putK kvs (keyT t) (.int ((q : Nat) : Int))) := by
  unfold putK
  by_cases c : (kvs.any fun kv => decide (kv.1 = keyT t)) = true
  · rw [if_pos c]
    refine ⟨?_, fun k v hm => ?_⟩
    · have e : (kvs.map fun kv => if kv.1 = keyT t then (kv.1, V.int ((q : Nat) : Int)) else kv).map (·.1) = kvs.map (·.1) := by
        rw [List.map_map]
        refine List.map_congr_left fun kv _ => ?_
        show (if kv.1 = keyT t then (kv.1, V.int ((q : Nat) : Int)) else kv).1 = kv.1
        split <;> rfl
      rw [e]
      exact h.nd
    · obtain ⟨kv, hkv, e⟩ := List.mem_map.mp hm
      by_cases c2 : kv.1 = keyT t
      · rw [if_pos c2] at e
        injection e with e1 e2
        exact ⟨t, q, by rw [← e1, c2], e2.symm, n, ht⟩
      · rw [if_neg c2] at e
        subst e
        exact h.each _ _ hkv
  · rw [if_neg c]
    refine ⟨?_, fun k v hm => ?_⟩
    · rw [List.map_append]
      refine nd_snoc h.nd fun z => c ?_
      obtain ⟨kv, hkv, e⟩ := List.mem_map.mp z
      exact List.any_eq_true.mpr ⟨kv, hkv, decide_eq_true e⟩
    · rcases List.mem_append.mp hm with z | z
      · exact h.each _ _ z
      · have e := List.mem_singleton.mp z
        injection e with e1 e2
        exact ⟨t, q, e1, e2, n, ht⟩
theorem nodup_below : ∀ (n : Nat) (l : List Nat), l.Nodup → (∀ x ∈ l, x < n) → l.length ≤ n
  | 0, l, _, h => by
    cases l with
    | nil => exact Nat.le_refl _
    | cons x r => exact absurd (h x List.mem_cons_self) (Nat.not_lt_zero _)
  | n + 1, l, hd, h => by
    by_cases c : n ∈ l
    · have z := nodup_below n (l.erase n) (hd.erase n) fun x hx => by
        have h1 := (List.Nodup.mem_erase_iff hd).mp hx
        have h2 := h x h1.2
        have := h1.1
        omega
      rw [List.length_erase_of_mem c] at z
      omega
    · have z := nodup_below n l hd fun x hx => by
        have := h x hx
        rcases Nat.lt_or_ge x n with y | y
        · exact y
        · exact absurd (show n ∈ l by have : x = n := by omega
                                      rw [← this]; exact hx) c
      omega
/-- a small tally as one number -/
def codeT : List Nat → Nat
  | [] => 0
  | x :: r => 1 + x + 9 * codeT r
theorem codeT_inj : ∀ {t t' : List Nat}, t.sum ≤ 8 → t'.sum ≤ 8 → codeT t = codeT t' → t = t'
  | [], [], _, _, _ => rfl
  | [], _ :: _, _, _, h => by unfold codeT at h; omega
  | _ :: _, [], _, _, h => by unfold codeT at h; omega
  | x :: r, y :: s, h1, h2, h => by
    simp only [List.sum_cons] at h1 h2
    have e : x = y ∧ codeT r = codeT s := by
      unfold codeT at h
      omega
    rw [e.1, codeT_inj (by omega) (by omega) e.2]
theorem codeT_small {t : List Nat} (h : TalOk t) : codeT t < 10000 := by
  obtain ⟨hl, hs⟩ := h
  match t, hl with
  | [], _ => decide
  | [x], _ => simp at hs; simp [codeT]; omega
  | [x, y], _ => simp at hs; simp [codeT]; omega
  | [x, y, z], _ => simp at hs; simp [codeT]; omega
theorem KnownOk.few {kvs : List (List Key × V)} (h : KnownOk kvs) : kvs.length < sizeLine := by
  have ex : ∃ ts : List (List Nat), ts.map keyT = kvs.map (·.1) ∧ ∀ t ∈ ts, TalOk t := by
    have go : ∀ l : List (List Key × V), (∀ p ∈ l, ∃ t, p.1 = keyT t ∧ TalOk t) → ∃ ts : List (List Nat), ts.map keyT = l.map (·.1) ∧ ∀ t ∈ ts, TalOk t := by
      intro l
      induction l with
      | nil => intro _; exact ⟨[], rfl, fun t ht => by cases ht⟩
      | cons p r ih =>
        intro hp
        obtain ⟨t, e, ht⟩ := hp p List.mem_cons_self
        obtain ⟨ts, e2, h2⟩ := ih fun x hx => hp x (List.mem_cons_of_mem _ hx)
        refine ⟨t :: ts, by rw [List.map_cons, List.map_cons, e2, e], fun x hx => ?_⟩
        rcases List.mem_cons.mp hx with z | z
        · rw [z]; exact ht
        · exact h2 x z
    refine go kvs fun p hp => ?_
    obtain ⟨t, q, e, _, _, ht⟩ := h.each p.1 p.2 hp
    exact ⟨t, e, ht⟩
  obtain ⟨ts, e, ht⟩ := ex
  have nd := h.nd
  rw [← e] at nd
  have nd2 : (ts.map codeT).Nodup := by
    rw [List.Nodup, List.pairwise_map] at nd ⊢
    refine nd.imp_of_mem fun {a b} ha hb hne hc => hne ?_
    rw [codeT_inj (ht a ha).sum (ht b hb).sum hc]
  have := nodup_below 10000 _ nd2 fun x hx => by
    obtain ⟨t, h1, rfl⟩ := List.mem_map.mp hx
    exact codeT_small (ht t h1)
  rw [List.length_map] at this
  have e2 := congrArg List.length e
  rw [List.length_map, List.length_map] at e2
  rw [← e2]
  exact Nat.lt_of_le_of_lt this (by decide)
/-- the table of best_pick's inner code -/
def TabB (K : PySem.W.Frag) (H : Hp) : Prop := TabOk (tabCP K).2 H
theorem _root_.L2.But.tabB {K : PySem.W.Frag} {d : Addr} {H H' : Hp} (b : But d H H') (t : TabB K H) : TabB K H' := b.tab _ t
theorem _root_.L2.Same.tabB {K : PySem.W.Frag} {H H' : Hp} (b : Same H H') (t : TabB K H) : TabB K H' := b.tab _ t
theorem subT_range {t p : List Nat} (h : LeT p t) : subT t p = (List.range t.length).map fun i => t.getD i 0 - p.getD i 0 := by
  have z := subT_map (fun i => t.getD i 0) (fun i => p.getD i 0) (List.range t.length)
  rw [nat_range] at z
  have e : (List.range t.length).map (fun i => p.getD i 0) = p := by rw [← h.len]; exact nat_range p
  rw [e] at z
  exact z
/-- behind a pick that tells, either way -/
theorem Tells.yes {t p : List Nat} (h : Tells t p) (ht : TalOk t) : TalOk (mv p (subT t p)) ∧ potT (mv p (subT t p)) < potT t := by
  have l1 : p.length = (subT t p).length := by rw [h.le.subLen, h.le.len]
  have s1 := mvC_sum p (subT t p) 0 l1
  have p1 := mvC_pot p (subT t p) 0 l1
  have s2 := h.le.sum
  have p2 := h.le.pot
  have n1 := mvC_len p (subT t p) 0 l1
  have h1 := h.hi
  have t1 := ht.sum
  have t2 := ht.len
  have t3 := h.le.len
  refine ⟨⟨?_, ?_⟩, ?_⟩
  · show (mvC 0 p (subT t p)).length ≤ 3; omega
  · show (mvC 0 p (subT t p)).sum ≤ 8; omega
  · show potT (mvC 0 p (subT t p)) < potT t; omega
theorem Tells.no {t p : List Nat} (h : Tells t p) (ht : TalOk t) : TalOk (mv (subT t p) p) ∧ potT (mv (subT t p) p) < potT t := by
  have l1 : (subT t p).length = p.length := by rw [h.le.subLen, h.le.len]
  have s1 := mvC_sum (subT t p) p 0 l1
  have p1 := mvC_pot (subT t p) p 0 l1
  have s2 := h.le.sum
  have p2 := h.le.pot
  have n1 := mvC_len (subT t p) p 0 l1
  have h1 := h.lo
  have t1 := ht.sum
  have t2 := ht.len
  have t3 := h.le.len
  refine ⟨⟨?_, ?_⟩, ?_⟩
  · show (mvC 0 (subT t p) p).length ≤ 3; omega
  · show (mvC 0 (subT t p) p).sum ≤ 8; omega
  · show potT (mvC 0 (subT t p) p) < potT t; omega
theorem tells_ex : ∀ {t : List Nat}, 2 ≤ t.sum → ∃ p, Tells t p
  | t, h => by
    have zeros : ∀ r : List Nat, LeT (r.map fun _ => 0) r := fun r => by
      induction r with
      | nil => exact .nil
      | cons x r ih => exact .cons (Nat.zero_le _) ih
    have zsum : ∀ r : List Nat, (r.map fun _ => 0).sum = 0 := fun r => by
      induction r with
      | nil => rfl
      | cons x r ih => rw [List.map_cons, List.sum_cons, ih]
    have go : ∀ r : List Nat, 1 ≤ r.sum → ∃ p, LeT p r ∧ p.sum = 1 := by
      intro r
      induction r with
      | nil => intro h; simp at h
      | cons x r ih =>
        intro h
        simp only [List.sum_cons] at h
        rcases Nat.eq_zero_or_pos x with z | z
        · obtain ⟨p, h1, h2⟩ := ih (by omega)
          exact ⟨0 :: p, .cons (Nat.zero_le _) h1, by simp [h2]⟩
        · exact ⟨1 :: r.map fun _ => 0, .cons z (zeros r), by rw [List.sum_cons, zsum]⟩
    obtain ⟨p, h1, h2⟩ := go t (by omega)
    exact ⟨p, h1, by omega, by omega⟩
def sp_need_of (K : PySem.W.Frag) (m : Nat) : Sp := fun vs H Q E => ∃ (a : Addr) (d : Addr) (t : List Nat) (kvs : List (List Key × V)), vs = [.ref a, .ref d] ∧ (H a = some (.tup (tV t))) ∧ (H d = some (.dT kvs)) ∧ (KnownOk kvs) ∧ (TalOk t) ∧ (potT t < m) ∧ (TabB K H) ∧ (∀ (q : Nat) kvs' H', But d H H' → H' d = some (.dT kvs') → KnownOk kvs' → IsNeedT t q → Q (.int ((q : Nat) : Int)) H')
def sp_need_behind (K : PySem.W.Frag) (m : Nat) : Sp := fun vs H Q E => ∃ (a : Addr) (b : Addr) (d : Addr) (t : List Nat) (p : List Nat) (kvs : List (List Key × V)), vs = [.ref a, .ref b, .ref d] ∧ (H a = some (.tup (tV t))) ∧ (H b = some (.tup (tV p))) ∧ (H d = some (.dT kvs)) ∧ (KnownOk kvs) ∧ (TalOk t) ∧ (Tells t p) ∧ (potT t ≤ m) ∧ (TabB K H) ∧ (∀ (q1 q2 : Nat) kvs' H', But d H H' → H' d = some (.dT kvs') → KnownOk kvs' → IsNeedT (mv p (subT t p)) q1 → IsNeedT (mv (subT t p) p) q2 → Q (.int ((max q1 q2 : Nat) : Int)) H')
def sp_best_pick (K : PySem.W.Frag) (m : Nat) : Sp := fun vs H Q E => ∃ (a : Addr) (d : Addr) (t : List Nat) (kvs : List (List Key × V)), vs = [.ref a, .ref d] ∧ (H a = some (.tup (tV t))) ∧ (H d = some (.dT kvs)) ∧ (KnownOk kvs) ∧ (TalOk t) ∧ (¬ t.sum ≤ 1) ∧ (potT t ≤ m) ∧ (TabB K H) ∧ (∀ b p (q1 q2 : Nat) kvs' H', But d H H' → H' d = some (.dT kvs') → KnownOk kvs' → H' b = some (.tup (tV p)) → Tells t p → IsNeedT (mv p (subT t p)) q1 → IsNeedT (mv (subT t p) p) q2 → IsNeedT t (1 + max q1 q2) → Q (.ref b) H')
theorem sc_need_behind : FnScope ["tally", "pick", "known", "rest"] ["tally", "pick", "known"] (defScope s_need_behind) := ⟨rfl, rfl, rfl, by decide +kernel, rfl, by decide +kernel, by decide +kernel⟩
theorem ok_need_behind (m : Nat) (T : Tx K mg "need_behind" ["tally", "pick", "known"] s_need_behind) (D_need_of : Df P w K mg base n "need_of" ["tally", "known"] (sp_need_of K m)) (D_moved : Df P w K mg base n "moved" ["kept", "rising"] (sp_moved K)) (m_max : mg "max" = none) (m_zip : mg "zip" = none) : Df P w K mg base (n + 1) "need_behind" ["tally", "pick", "known"] (sp_need_behind K m) := by
  refine T.ok sc_need_behind (fun vs H Q E h => ?_) (fun f cdv A outer s H vs Q E hr h => ?_)
  · obtain ⟨a, b, d, t, p, kvs, rfl, _⟩ := h
    rfl
  obtain ⟨a, b, d, t, p, kvs, rfl, hA, hB, hD, hk, ht, hp, hm, hT, q⟩ := h
  have nd := sc_need_behind.nd
  have nb1 : List.Nodup (["count", "picked", "tally", "pick", "known", "rest"] : List Str) := by decide +kernel
  refine ⟨_, (pss_cons (ps_setComp (j := 3) (own := ["count", "picked"]) rfl nd rfl (Or.inl rfl) (BlkScope.mk' (xs := defScope s_need_behind) (N := ["tally", "pick", "known", "rest"]) rfl rfl rfl (by decide +kernel)) (pi_zip rfl m_zip boot_zipT (pa_cons (pv 0) (pa_cons (pv 1) pa_nil))) (fun C s₀ H₀ ex => pg2B rfl nb1) (fun C s₀ H₀ ex => pif_nil) (fun C s₀ H₀ ex => (pe_op op_sub (pv 0) (pv 1)))) (pss_one (ps_ret (pe_callB (call_max2 rfl) rfl m_max PyProof.Rows.boot_max (pa_cons (pe_callD D_need_of hr rfl (pa_cons (pe_callD D_moved hr rfl (pa_cons (pv 1) (pa_cons (pv 3) pa_nil))) (pa_cons (pv 2) pa_nil))) (pa_cons (pe_callD D_need_of hr rfl (pa_cons (pe_callD D_moved hr rfl (pa_cons (pv 3) (pa_cons (pv 1) pa_nil))) (pa_cons (pv 2) pa_nil))) pa_nil)))))), ?_⟩
  have h3 := ht.len
  have l1 := hp.le.len
  have l2 := hp.le.subLen
  obtain ⟨ty, py⟩ := hp.yes ht
  obtain ⟨tn, pn⟩ := hp.no ht
  refine ⟨_, rfl, _, rfl, a, b, rfl, ⟨_, SqT.of hA⟩, ⟨_, SqT.of hB⟩, ?_⟩
  refine comp_zip0 (fun i => .int ((t.getD i 0 - p.getD i 0 : Nat) : Int)) (SqT.of hA) (SqT.of hB) (by rw [tV_len]; omega) (by rw [tV_len, tV_len]; exact l1) ?_ fun r1 H1 hr1 s1 e1 => ?_
  · intro i x y H1 R hx hy hs r1
    have hi : i < t.length := by
      have := (List.getElem?_eq_some_iff.mp hx).1
      rw [tV_len] at this
      exact this
    rw [tV_at t hi] at hx
    rw [tV_at p (by omega)] at hy
    cases hx
    cases hy
    have le := hp.le.at i
    refine ⟨_, rfl, _, rfl, _, _, rfl, rfl, ?_⟩
    have e : (fun i j => V.int (i - j)) ((t.getD i 0 : Nat) : Int) ((p.getD i 0 : Nat) : Int) = V.int ((t.getD i 0 - p.getD i 0 : Nat) : Int) := congrArg V.int (by omega)
    rw [e]
    exact r1 H1 (Same.refl H1)
  rw [tV_len, ← tV_range, ← subT_range hp.le] at e1
  have d1 := s1 _ _ hD
  refine ⟨_, rfl, _, rfl, b, r1, p, subT t p, rfl, .inr (SqT.of (s1 _ _ hB)), .inl (SqL.of e1), by omega, by omega, fun m1 H2 hm1 s2 em1 => ?_⟩
  have d2 := s2 _ _ d1
  refine ⟨_, rfl, m1, d, _, kvs, rfl, em1, d2, hk, ty, by omega, (s1.trans s2).tabB hT, fun q1 kvs1 H3 b3 d3 k3 n1 => ?_⟩
  have ne : ∀ {x : Addr} {o : HO}, H2 x = some o → (∀ z, o ≠ .dT z) → x ≠ d := fun h hn e => by rw [e, d2] at h; exact hn _ (Option.some.inj h).symm
  have r3 : H3 r1 = some (.lst (tV (subT t p))) := b3.at' _ _ (ne (s2 _ _ e1) fun z e => by cases e) (s2 _ _ e1) rfl
  have p3 : H3 b = some (.tup (tV p)) := b3.at' _ _ (ne (s2 _ _ (s1 _ _ hB)) fun z e => by cases e) (s2 _ _ (s1 _ _ hB)) rfl
  refine ⟨_, rfl, _, rfl, r1, b, subT t p, p, rfl, .inl (SqL.of r3), .inr (SqT.of p3), by omega, by omega, fun m2 H4 hm2 s4 em2 => ?_⟩
  have d4 := s4 _ _ d3
  refine ⟨_, rfl, m2, d, _, kvs1, rfl, em2, d4, k3, tn, by omega, s4.tabB (b3.tabB ((s1.trans s2).tabB hT)), fun q2 kvs2 H5 b5 d5 k5 n2 => ?_⟩
  refine ⟨_, _, rfl, ?_⟩
  have e : (if ((q2 : Nat) : Int) > ((q1 : Nat) : Int) then ((q2 : Nat) : Int) else ((q1 : Nat) : Int)) = ((max q1 q2 : Nat) : Int) := by split <;> omega
  rw [e]
  exact q q1 q2 kvs2 H5 ((s1.trans s2).but.trans (b3.trans (s4.but.trans b5))) d5 k5 n1 n2
theorem sc_best_pick : FnScope ["tally", "known"] ["tally", "known"] (defScope s_best_pick) := ⟨rfl, rfl, rfl, by decide +kernel, rfl, by decide +kernel, by decide +kernel⟩
theorem ok_best_pick (m : Nat) (T : Tx K mg "best_pick" ["tally", "known"] s_best_pick) (D_need_behind : Df P w K mg base n "need_behind" ["tally", "pick", "known"] (sp_need_behind K m)) (D_picks_that_tell : Df P w K mg base n "picks_that_tell" ["tally"] (sp_picks_that_tell K)) (m_min : mg "min" = none) (hLam : LamF K mg base) : Df P w K mg base (n + 2 + 1) "best_pick" ["tally", "known"] (sp_best_pick K m) := by
  refine T.okC sc_best_pick (fun vs H Q E h => ?_) (fun f cdv hcdv A outer s H vs Q E hr h => ?_)
  · obtain ⟨a, d, t, kvs, rfl, _⟩ := h
    rfl
  obtain ⟨a, d, t, kvs, rfl, hA, hD, hk, ht, h2, hm, hT, q⟩ := h
  have nd := sc_best_pick.nd
  obtain ⟨fd0, oc0, od0, osl0, hm0, lk0, hcd0⟩ := hcdv
  obtain ⟨c0, hc0, hC⟩ := hLam.1 f fd0 oc0 od0 osl0 hm0 lk0
  have hcode : cdv = .ref c0 := hcd0.symm.trans hc0
  refine ⟨_, (pss_one (ps_ret (pe_minKey rfl hr.depth rfl m_min (pa_cons (pe_callD D_picks_that_tell (hr.mono (by omega)) rfl (pa_cons (pv 0) pa_nil)) pa_nil) (BlkScope.mk' (xs := defScope s_best_pick) (N := ["tally", "known"]) rfl rfl rfl (by decide +kernel)) rfl rfl rfl hcode hC hLam.2 rfl (show (("best_pick" : Str) ++ ".<locals>.") ++ "<lambda>" = ("best_pick.<locals>.<lambda>" : Str) from by decide +kernel) rfl rfl (fun _ _ _ _ _ => rfl) (fun f c' s H => pe_callD D_need_behind (Room.deeper (Room.in1 hr) _) rfl (pa_cons (pv 1) (pa_cons (pv 0) (pa_cons (pv 2) pa_nil))))))), ?_⟩
  refine ⟨_, rfl, a, t, rfl, SqT.of hA, ht, fun r H1 as hr1 s1 e1 rf => ?_⟩
  have alen := rf.len
  obtain ⟨p0, hp0⟩ := tells_ex (t := t) (by omega)
  have hmem := tells_iff.mpr hp0
  have tl : ∀ i p, ((allP t).filter (tellB t))[i]? = some p → Tells t p := fun i p h => tells_iff.mp (List.mem_of_getElem? h)
  have has : ∀ p', Tells t p' → ∃ i, i < as.length ∧ ((allP t).filter (tellB t))[i]? = some p' := fun p' h => by
    obtain ⟨i, hi, e⟩ := List.getElem_of_mem (tells_iff.mpr h)
    exact ⟨i, by omega, by rw [← e]; exact List.getElem?_eq_getElem hi⟩
  generalize hps : (allP t).filter (tellB t) = ps at rf alen hmem tl has
  have hne : 0 < as.length := by
    rw [alen]
    exact List.length_pos_of_mem hmem
  have hx0 : (as.map V.ref)[0]? = some (.ref as[0]) := by rw [List.getElem?_map, List.getElem?_eq_getElem hne]; rfl
  refine ⟨r, as.map V.ref, .ref as[0], rfl, SqL.of e1, hx0, s1.tabB hT, fun H2 c' s2 T2 hc' => ?_⟩
  have s12 := s1.trans s2
  have stay : ∀ {Hc H' : Hp} {kvs' : List (List Key × V)}, Hc d = some (.dT kvs') → But d Hc H' → Hc r = some (.lst (as.map V.ref)) → RefsT Hc as ps → Hc a = some (.tup (tV t)) → Hc c' = some (codeX c' TabPar.qual) → TabB K Hc →
      H' r = some (.lst (as.map V.ref)) ∧ RefsT H' as ps ∧ H' a = some (.tup (tV t)) ∧ H' c' = some (codeX c' TabPar.qual) ∧ TabB K H' := by
    intro Hc H' kvs' d1 b1 r1 rf1 a1 c1 T1
    have ne : ∀ {x : Addr} {o : HO}, Hc x = some o → (∀ z, o ≠ .dT z) → x ≠ d := fun h hn e => by rw [e, d1] at h; exact hn _ (Option.some.inj h).symm
    exact ⟨b1.at' _ _ (ne r1 fun z e => by cases e) r1 rfl, rf1.but b1 d1 (fun xs e => by cases e), b1.at' _ _ (ne a1 fun z e => by cases e) a1 rfl, b1.at' _ _ (ne c1 fun z e => by cases e) c1 rfl, b1.tabB T1⟩
  refine ⟨fun j vb k Hc => ∃ (kvs' : List (List Key × V)) (ab : Addr) (p : List Nat) (i q1 q2 : Nat), (But d H2 Hc ∧ Hc d = some (.dT kvs') ∧ KnownOk kvs') ∧ (Hc r = some (.lst (as.map V.ref)) ∧ RefsT Hc as ps ∧ Hc a = some (.tup (tV t)) ∧ Hc c' = some (codeX c' TabPar.qual) ∧ TabB K Hc) ∧
      vb = .ref ab ∧ as[i]? = some ab ∧ ps[i]? = some p ∧ IsNeedT (mv p (subT t p)) q1 ∧ IsNeedT (mv (subT t p) p) q2 ∧ k = ((max q1 q2 : Nat) : Int) ∧
      ∀ i', i' < j → ∀ p', ps[i']? = some p' → ∃ a' b', IsNeedT (mv p' (subT t p')) a' ∧ IsNeedT (mv (subT t p') p') b' ∧ max q1 q2 ≤ max a' b', ?_, ?_, ?_, ?_⟩
  · obtain ⟨p, hp, hat⟩ := Paired.at (rf.same s2) (List.getElem?_eq_getElem hne)
    refine ⟨_, rfl, _, rfl, _, rfl, a, as[0], d, t, p, kvs, rfl, s12 _ _ hA, hat, s12 _ _ hD, hk, ht, tl 0 p hp, hm, s12.tabB hT, fun q1 q2 kvs'' H' b' d' k' n1 n2 => ?_⟩
    refine ⟨_, rfl, kvs'', as[0], p, 0, q1, q2, ⟨b', d', k'⟩, stay (s12 _ _ hD) b' (s2 _ _ e1) (rf.same s2) (s12 _ _ hA) hc' (s12.tabB hT), rfl, List.getElem?_eq_getElem hne, hp, n1, n2, rfl, fun i' hi' p' hp' => ?_⟩
    have : i' = 0 := by omega
    subst this
    rw [hp] at hp'
    cases hp'
    exact ⟨q1, q2, n1, n2, Nat.le_refl _⟩
  · rintro j vb k Hc ⟨kvs', ab, p, i, q1, q2, _, ⟨r1, _, _, c1, _⟩, _⟩
    exact ⟨SqL.of r1, c1⟩
  · rintro j vb k Hc y ⟨kvs', ab, p, i, q1, q2, ⟨b1, d1, k1⟩, ⟨r1, rf1, a1, c1, T1⟩, rfl, hi, hpi, n1, n2, rfl, least⟩ hy
    rw [List.getElem?_map] at hy
    obtain ⟨aj, haj, rfl⟩ := Option.map_eq_some_iff.mp hy
    obtain ⟨p2, hp2, hat2⟩ := Paired.at rf1 haj
    refine ⟨_, rfl, _, rfl, _, rfl, a, aj, d, t, p2, kvs', rfl, a1, hat2, d1, k1, ht, tl j p2 hp2, hm, T1, fun q1' q2' kvs'' H' b' d' k' n1' n2' => ?_⟩
    have st := stay d1 b' r1 rf1 a1 c1 T1
    refine ⟨_, rfl, ?_⟩
    by_cases c : ((max q1' q2' : Nat) : Int) < ((max q1 q2 : Nat) : Int)
    · rw [if_pos c, if_pos c]
      refine ⟨kvs'', aj, p2, j, q1', q2', ⟨b1.trans b', d', k'⟩, st, rfl, haj, hp2, n1', n2', rfl, fun i' hi' p' hp' => ?_⟩
      rcases Nat.lt_or_ge i' j with z | z
      · obtain ⟨a', b'', h1, h2, h3⟩ := least i' z p' hp'
        exact ⟨a', b'', h1, h2, by omega⟩
      · have : i' = j := by omega
        subst this
        rw [hp2] at hp'
        cases hp'
        exact ⟨q1', q2', n1', n2', Nat.le_refl _⟩
    · rw [if_neg c, if_neg c]
      refine ⟨kvs'', ab, p, i, q1, q2, ⟨b1.trans b', d', k'⟩, st, rfl, hi, hpi, n1, n2, rfl, fun i' hi' p' hp' => ?_⟩
      rcases Nat.lt_or_ge i' j with z | z
      · exact least i' z p' hp'
      · have : i' = j := by omega
        subst this
        rw [hp2] at hp'
        cases hp'
        exact ⟨q1', q2', n1', n2', by omega⟩
  · rintro vb k Hc ⟨kvs', ab, p, i, q1, q2, ⟨b1, d1, k1⟩, ⟨r1, rf1, a1, c1, T1⟩, rfl, hi, hpi, n1, n2, rfl, least⟩
    obtain ⟨p3, hp3, hat⟩ := Paired.at rf1 hi
    rw [hpi] at hp3
    cases hp3
    have tp := tl i p hpi
    refine q ab p q1 q2 kvs' Hc (s12.but.trans b1) d1 k1 hat tp n1 n2 (needT_best h2 tp.le n1 n2 rfl fun p' hp' => ?_)
    obtain ⟨i', hi', e'⟩ := has p' hp'
    exact least i' (by rw [List.length_map]; exact hi') p' e'
theorem sc_need_of : FnScope ["tally", "known"] ["tally", "known"] (defScope s_need_of) := ⟨rfl, rfl, rfl, by decide +kernel, rfl, by decide +kernel, by decide +kernel⟩
theorem ok_need_of (m : Nat) (T : Tx K mg "need_of" ["tally", "known"] s_need_of) (D_need_behind : Df P w K mg base n "need_behind" ["tally", "pick", "known"] (sp_need_behind K m)) (D_best_pick : Df P w K mg base n "best_pick" ["tally", "known"] (sp_best_pick K m)) (D_is_found : Df P w K mg base n "is_found" ["tally"] (sp_is_found K)) : Df P w K mg base (n + 1) "need_of" ["tally", "known"] (sp_need_of K (m + 1)) := by
  refine T.ok sc_need_of (fun vs H Q E h => ?_) (fun f cdv A outer s H vs Q E hr h => ?_)
  · obtain ⟨a, d, t, kvs, rfl, _⟩ := h
    rfl
  obtain ⟨a, d, t, kvs, rfl, hA, hD, hk, ht, hm, hT, q⟩ := h
  have nd := sc_need_of.nd
  refine ⟨_, (pss_cons (ps_if (pt_truth (pe_callD D_is_found hr rfl (pa_cons (pv 0) pa_nil)) fun _ => rfl) (pss_one (ps_ret pe_int)) pss_nil) (pss_cons (ps_if (pt_cmp (pc_dnotin (hu_of hr) (pv 0) (pv 1))) (pss_one (ps_dput (hu_of hr) (pv 1) (pv 0) (pe_op op_add pe_int (pe_callD D_need_behind hr rfl (pa_cons (pv 0) (pa_cons (pe_callD D_best_pick hr rfl (pa_cons (pv 0) (pa_cons (pv 1) pa_nil))) (pa_cons (pv 1) pa_nil))))) rfl)) pss_nil) (pss_one (ps_ret (pe_dget (hu_of hr) (pv 1) (pv 0) (fun _ _ => rfl)))))), ?_⟩
  have h8 := ht.sum
  have hA' : H a = some (.tup ((keyT t).map kV)) := by rw [keyT_kV]; exact hA
  refine ⟨_, rfl, a, t, rfl, SqT.of hA, by omega, _, rfl, ?_⟩
  refine ite2 (fun c => ?_) fun c => ?_
  · have c' : ((t.sum : Nat) : Int) ≤ 1 := of_decide_eq_true c
    exact q 0 kvs H (But.refl d H) hD hk (IsNeedT.found (by omega))
  · have c' : ¬ ((t.sum : Nat) : Int) ≤ 1 := of_decide_eq_false (Bool.eq_false_iff.mpr c)
    refine ⟨_, rfl, _, rfl, d, _, rfl, DGet.t hD hA', _, rfl, ?_⟩
    cases hv : valV kvs (keyT t) with
    | some v =>
      refine iteF ?_
      obtain ⟨k, rfl, hn⟩ := hk.get hv
      refine ⟨_, rfl, _, rfl, d, _, rfl, ?_, q k kvs H (But.refl d H) hD hk hn⟩
      rw [← hv]
      exact DGet.t hD hA'
    | none =>
      refine iteT ?_
      refine ⟨_, rfl, _, rfl, _, rfl, a, d, t, kvs, rfl, hA, hD, hk, ht, by omega, by omega, hT, fun b p q1 q2 kvs1 H1 b1 d1 k1 eb tp n1 n2 nt => ?_⟩
      have ne : a ≠ d := fun e => by rw [e, hD] at hA; cases hA
      have a1 := b1.at' _ _ ne hA rfl
      refine ⟨_, rfl, a, b, d, t, p, kvs1, rfl, a1, eb, d1, k1, ht, tp, by omega, b1.tabB hT, fun q1' q2' kvs2 H2 b2 d2 k2 n1' n2' => ?_⟩
      have e1 := n1.unique n1'
      have e2 := n2.unique n2'
      subst e1
      subst e2
      have a2 : H2 a = some (.tup ((keyT t).map kV)) := by rw [keyT_kV]; exact b2.at' _ _ ne a1 rfl
      refine ⟨_, _, rfl, rfl, _, rfl, _, rfl, d, _, rfl, DPut.t d2 a2 k2.few, ?_⟩
      have ev : (fun i j => V.int (i + j)) 1 ((max q1 q2 : Nat) : Int) = V.int ((1 + max q1 q2 : Nat) : Int) := congrArg V.int (by omega)
      rw [ev]
      have kn := k2.put nt ht
      have a3 : upd H2 d (.dT (putK kvs2 (keyT t) (.int ((1 + max q1 q2 : Nat) : Int)))) a = some (.tup ((keyT t).map kV)) := by rw [upd_ne ne]; exact a2
      refine ⟨_, rfl, _, rfl, d, .int ((1 + max q1 q2 : Nat) : Int), rfl, ?_, q (1 + max q1 q2) _ _ ?_ upd_same kn nt⟩
      · have z := DGet.t (k := keyT t) upd_same a3
        rw [valV_put, if_pos rfl] at z
        exact z
      · have b3 := b1.trans b2
        refine ⟨fun x o hx h n => ?_, fun x ps h => ?_, fun P' T' => ?_⟩
        · rw [upd_ne hx]
          exact b3.at' x o hx h n
        · obtain ⟨ps', h'⟩ := b3.tbl x ps h
          exact ⟨ps', by rw [upd_ne (fun e => by rw [e, d2] at h'; cases h')]; exact h'⟩
        · have t3 := b3.tab P' T'
          obtain ⟨ps', h'⟩ := t3.at
          exact t3.upd (fun e => by rw [← e, d2] at h'; cases h') (NotX.dT d2)
/-- the recursion, by the weight of the tally -/
theorem rec_need (T1 : Tx K mg "need_of" ["tally", "known"] s_need_of) (T2 : Tx K mg "need_behind" ["tally", "pick", "known"] s_need_behind) (T3 : Tx K mg "best_pick" ["tally", "known"] s_best_pick) (E1 : Df P w K mg base 1 "is_found" ["tally"] (sp_is_found K)) (E2 : Df P w K mg base 1 "moved" ["kept", "rising"] (sp_moved K))
    (E3 : Df P w K mg base 2 "picks_that_tell" ["tally"] (sp_picks_that_tell K)) (m_min : mg "min" = none) (m_max : mg "max" = none) (m_zip : mg "zip" = none) (hLam : LamF K mg base) : ∀ m, Df P w K mg base (5 * m + 3) "need_of" ["tally", "known"] (sp_need_of K m)
  | 0 => by
    refine Tx.ok (k := 2) T1 sc_need_of (fun vs H Q E h => ?_) (fun f cdv A outer s H vs Q E hr h => ?_)
    · obtain ⟨a, d, t, kvs, rfl, _⟩ := h
      rfl
    · obtain ⟨a, d, t, kvs, rfl, _, _, _, _, hm, _⟩ := h
      exact absurd hm (Nat.not_lt_zero _)
  | m + 1 => by
    have ih := rec_need T1 T2 T3 E1 E2 E3 m_min m_max m_zip hLam m
    have nb := ok_need_behind (n := 5 * m + 3) m T2 ih (E2.mono (by omega)) m_max m_zip
    have bp := ok_best_pick (n := 5 * m + 4) m T3 nb (E3.mono (by omega)) m_min hLam
    exact ok_need_of (n := 5 * m + 7) m T1 (nb.mono (by omega)) bp (E1.mono (by omega))
theorem rec_best (T1 : Tx K mg "need_of" ["tally", "known"] s_need_of) (T2 : Tx K mg "need_behind" ["tally", "pick", "known"] s_need_behind) (T3 : Tx K mg "best_pick" ["tally", "known"] s_best_pick) (E1 : Df P w K mg base 1 "is_found" ["tally"] (sp_is_found K)) (E2 : Df P w K mg base 1 "moved" ["kept", "rising"] (sp_moved K))
    (E3 : Df P w K mg base 2 "picks_that_tell" ["tally"] (sp_picks_that_tell K)) (m_min : mg "min" = none) (m_max : mg "max" = none) (m_zip : mg "zip" = none) (hLam : LamF K mg base) : Df P w K mg base 127 "best_pick" ["tally", "known"] (sp_best_pick K 24) :=
  ok_best_pick (n := 124) 24 T3 (ok_need_behind (n := 123) 24 T2 (rec_need T1 T2 T3 E1 E2 E3 m_min m_max m_zip hLam 24) (E2.mono (by omega)) m_max m_zip) (E3.mono (by omega)) m_min hLam
theorem potT_le : ∀ t : List Nat, potT t ≤ t.sum * t.length
  | [] => Nat.le_refl _
  | x :: r => by
    have ih := potT_le r
    unfold potT
    rw [List.sum_cons, List.length_cons, Nat.add_mul, Nat.mul_succ r.sum]
    omega
theorem tal_ok {l : Int} {ms : List Int} (g : Good l ms) : TalOk (talN l ms) := by
  have h1 := g.lo
  have h2 := g.hi
  refine ⟨by rw [tal_len]; omega, ?_⟩
  rw [tal_sum h1 fun m hm => (g.each m hm).1]
  unfold stN
  exact Nat.le_trans List.countP_le_length g.most
theorem tal_pot {l : Int} {ms : List Int} (g : Good l ms) : potT (talN l ms) ≤ 24 := by
  have h := tal_ok g
  exact Nat.le_trans (potT_le _) (Nat.mul_le_mul h.sum h.len)
theorem known_nil : KnownOk [] := ⟨List.nodup_nil, fun k v h => by cases h⟩
theorem sc_need : FnScope ["marks", "lies"] ["marks", "lies"] (defScope s_need) := ⟨rfl, rfl, rfl, by decide +kernel, rfl, by decide +kernel, by decide +kernel⟩
def sp_need (K : PySem.W.Frag) : Sp := fun vs H Q E => ∃ (a : Addr) (l : Int) (ms : List Int), vs = [.ref a, .int l] ∧ (SqL K H a (ms.map V.int)) ∧ (Good l ms) ∧ (TabB K H) ∧ (∀ (q : Nat) H', Same H H' → IsNeed l ms q → Q (.int (q : Int)) H')
theorem ok_need (T : Tx K mg "need" ["marks", "lies"] s_need) (D_need_of : Df P w K mg base n "need_of" ["tally", "known"] (sp_need_of K 25)) (D_tally_of : Df P w K mg base n "tally_of" ["marks", "lies"] (sp_tally_of K)) (D_check_marks : Df P w K mg base n "check_marks" ["marks", "lies"] (sp_check_marks K)) (D_check_lies : Df P w K mg base n "check_lies" ["lies"] (sp_check_lies K)) : Df P w K mg base (n + 1) "need" ["marks", "lies"] (sp_need K) := by
  refine T.ok sc_need (fun vs H Q E h => ?_) (fun f cdv A outer s H vs Q E hr h => ?_)
  · obtain ⟨a, l, ms, rfl, _⟩ := h
    rfl
  obtain ⟨a, l, ms, rfl, hS, g, hT, q⟩ := h
  have nd := sc_need.nd
  refine ⟨_, (pss_cons (ps_expr (pe_callD D_check_lies hr rfl (pa_cons (pv 1) pa_nil))) (pss_cons (ps_expr (pe_callD D_check_marks hr rfl (pa_cons (pv 0) (pa_cons (pv 1) pa_nil)))) (pss_one (ps_ret (pe_callD D_need_of hr rfl (pa_cons (pe_callD D_tally_of hr rfl (pa_cons (pv 0) (pa_cons (pv 1) pa_nil))) (pa_cons pe_dnewT pa_nil))))))), ?_⟩
  have hp := tal_pot g
  refine ⟨_, rfl, _, rfl, g.lo, g.hi, ?_⟩
  refine ⟨_, rfl, _, rfl, a, l, ms, rfl, hS, g, ?_⟩
  refine ⟨_, rfl, _, rfl, a, l, ms, rfl, hS, g, fun r H1 hr1 s1 e1 => fun d hd => ?_⟩
  have s2 := same_new hd (.dT [])
  refine ⟨r, d, talN l ms, [], rfl, s2 _ _ e1, upd_same, known_nil, tal_ok g, by omega, (s1.trans s2).tabB hT, fun k kvs' H' b' d' k' n => ?_⟩
  exact q k H' (But.old (s1.trans s2) b' (s1.free hd)) (need_tal g.lo (fun m hm => (g.each m hm).1) n)
/-- what question tells -/
def Told (l : Int) (ms : List Int) (H H' : Hp) (v : V) : Prop := (v = .non ∧ stN l ms ≤ 1) ∨ ∃ (r : Addr) (qs : List Int) (q : Nat), v = .ref r ∧ H r = none ∧ H' r = some (.lst (qs.map V.int)) ∧ Rise (-1) ms.length qs ∧ IsNeed l ms (q + 1) ∧ En l q (afterM ms l qs true) ∧ En l q (afterM ms l qs false)
def pickF (p : List Nat) (ms : List Int) (i : Nat) : Bool := !((grZ p ms).getD i (0, false)).2
theorem shp1 (ms : List Int) : shp (.list (ms.map PyData.int)) = true := PySem.W.ke_shaped_ints ms
def sizes8 : List Int := [8, 8, 8]
def sizes05 (ns : List Int) : List Int := [8, 8, if ns.getD 30 0 % 16 = 1 then 8 else 5]
theorem pot_small {l : Int} {ms : List Int} (g : Good l ms) : pot l ms ≤ 24 := by
  have h1 := g.lo
  have h2 := g.hi
  have go : ∀ xs : List Int, (∀ m ∈ xs, 0 ≤ m) → pot l xs ≤ 3 * xs.length := by
    intro xs
    induction xs with
    | nil => intro _; exact Nat.le_refl _
    | cons m r ih =>
      intro h
      have hm := h m List.mem_cons_self
      have hr := ih fun x hx => h x (List.mem_cons_of_mem _ hx)
      unfold pot at hr ⊢
      simp only [List.map_cons, List.sum_cons, List.length_cons]
      omega
  have := go ms fun m hm => (g.each m hm).1
  have := g.most
  omega
def sizes07 : List Int := [8, 7, 4]
/-! ### all questions as numbers -/
/-- the number of a question, from its thing t on -/
def numF (f : Nat → Bool) (t : Nat) : Nat → Nat
  | 0 => 0
  | k + 1 => (if f t = true then 1 else 0) + 2 * numF f (t + 1) k
theorem numF_lt (f : Nat → Bool) : ∀ (k t : Nat), numF f t k < 2 ^ k
  | 0, _ => Nat.one_pos
  | k + 1, t => by
    have ih := numF_lt f k (t + 1)
    unfold numF
    rw [Nat.pow_succ]
    split <;> omega
theorem numF_top (f : Nat → Bool) : ∀ (k t : Nat), f (t + k) = false → numF f t (k + 1) = numF f t k
  | 0, t, h => by
    have h' : f t = false := h
    simp [numF, h']
  | k + 1, t, h => by
    have ih := numF_top f k (t + 1) (by rw [← h]; congr 1; omega)
    rw [numF, ih]
    rfl
theorem asked_num (f : Nat → Bool) : ∀ (k t : Nat), askedFrom ((numF f t k : Nat) : Int) (t : Int) k = ((List.range' t k).filter f).map fun (i : Nat) => (i : Int)
  | 0, _ => rfl
  | k + 1, t => by
    have ih := asked_num f k (t + 1)
    have e2 : ((t + 1 : Nat) : Int) = (t : Int) + 1 := by omega
    rw [e2] at ih
    rw [List.range'_succ, List.filter_cons]
    unfold askedFrom
    cases h : f t with
    | true =>
      have e1 : ((numF f t (k + 1) : Nat) : Int) % 2 = 1 := by unfold numF; rw [h, if_pos rfl]; omega
      have e3 : ((numF f t (k + 1) : Nat) : Int) / 2 = ((numF f (t + 1) k : Nat) : Int) := by rw [numF, h, if_pos rfl]; omega
      rw [if_pos e1, e3, ih, if_pos rfl]
      rfl
    | false =>
      have e1 : ¬ ((numF f t (k + 1) : Nat) : Int) % 2 = 1 := by unfold numF; rw [h, if_neg Bool.false_ne_true]; omega
      have e3 : ((numF f t (k + 1) : Nat) : Int) / 2 = ((numF f (t + 1) k : Nat) : Int) := by rw [numF, h, if_neg Bool.false_ne_true]; omega
      rw [if_neg e1, e3, ih, if_neg Bool.false_ne_true]
theorem askedBy_num (f : Nat → Bool) (n : Nat) : askedBy ((numF f 0 n : Nat) : Int) n = askF f n := by
  have z := asked_num f n 0
  unfold askedBy askF
  rw [List.range_eq_range']
  exact z
/-- the questions without the last thing are enough: yes and no change places -/
theorem En.num {l : Int} {ms : List Int} {q : Nat} (h : En l (q + 1) ms) (h2 : ¬ stN l ms ≤ 1) (h1 : 1 ≤ ms.length) :
    ∃ n : Nat, n < 2 ^ (ms.length - 1) ∧ En l q (afterM ms l (askedBy (n : Int) ms.length) true) ∧ En l q (afterM ms l (askedBy (n : Int) ms.length) false) := by
  have go : ∀ ps : List (Int × Bool), ps.map (·.1) = ms → En l q (aftZ l ps) → En l q (aftZ l (notZ ps)) → (ps.getD (ms.length - 1) (0, false)).2 = true →
      ∃ n : Nat, n < 2 ^ (ms.length - 1) ∧ En l q (afterM ms l (askedBy (n : Int) ms.length) true) ∧ En l q (afterM ms l (askedBy (n : Int) ms.length) false) := by
    intro ps e a1 a2 ht
    have z : bitsZ ms (fun i => !isIn (askF (fun i => !(ps.getD i (0, false)).2) ms.length) (i : Int)) = ps := by
      rw [bitsZ_congr (g := fun i => (ps.getD i (0, false)).2) fun i hi => by rw [askF_in _ hi, Bool.not_not]]
      rw [← e]
      exact (ps_bits ps).symm
    refine ⟨numF (fun i => !(ps.getD i (0, false)).2) 0 ms.length, ?_, ?_, ?_⟩
    · have e1 : ms.length = (ms.length - 1) + 1 := by omega
      have := numF_top (fun i => !(ps.getD i (0, false)).2) (ms.length - 1) 0 (by rw [Nat.zero_add, ht]; rfl)
      rw [← e1] at this
      rw [this]
      exact numF_lt _ _ _
    · rw [askedBy_num, after_yes, z]
      exact a1
    · rw [askedBy_num, after_no, z]
      exact a2
  rcases h with h | ⟨ps, e, a1, a2⟩
  · exact absurd h h2
  · cases ht : (ps.getD (ms.length - 1) (0, false)).2 with
    | true => exact go ps e a1 a2 ht
    | false =>
      have nn : notZ (notZ ps) = ps := by
        unfold notZ
        rw [List.map_map]
        conv => rhs; rw [← List.map_id ps]
        refine List.map_congr_left fun p _ => ?_
        show (p.1, !!p.2) = p
        rw [Bool.not_not]
      refine go (notZ ps) (by rw [fst_not]; exact e) a2 (by rw [nn]; exact a1) ?_
      have hl : ms.length - 1 < ps.length := by
        have := congrArg List.length e
        rw [List.length_map] at this
        omega
      rw [List.getD_eq_getElem?_getD, List.getElem?_eq_getElem hl] at ht
      rw [List.getD_eq_getElem?_getD]
      unfold notZ
      rw [List.getElem?_map, List.getElem?_eq_getElem hl]
      have ht' : (ps[ms.length - 1]).2 = false := ht
      show (!(ps[ms.length - 1]).2) = true
      rw [ht']
      rfl
/-! ### what is known of enough -/
def nk (ms : List Int) (j : Nat) : NK := (ms, (j : Int))
theorem nk_inj {a b : List Int} {i j : Nat} (h : nk a i = nk b j) : a = b ∧ i = j := by
  injection h with h1 h2
  exact ⟨h1, by omega⟩
theorem mem_valV {κ : Type} [DecidableEq κ] {k : κ} {v : V} : ∀ {kvs : List (κ × V)}, (kvs.map (·.1)).Nodup → (k, v) ∈ kvs → valV kvs k = some v
  | [], _, h => by cases h
  | p :: r, hn, h => by
    obtain ⟨n1, n2⟩ := List.nodup_cons.mp (show (p.1 :: r.map (·.1)).Nodup from hn)
    rcases List.mem_cons.mp h with z | z
    · subst z
      exact valV_pos rfl
    · rw [valV_neg (fun e => n1 (by rw [e]; exact List.mem_map.mpr ⟨(k, v), z, rfl⟩))]
      exact mem_valV n2 z
theorem nd_put {κ : Type} [DecidableEq κ] {kvs : List (κ × V)} (h : (kvs.map (·.1)).Nodup) (k : κ) (v : V) : ((putK kvs k v).map (·.1)).Nodup := by
  unfold putK
  by_cases c : (kvs.any fun kv => decide (kv.1 = k)) = true
  · rw [if_pos c]
    have e : (kvs.map fun kv => if kv.1 = k then (kv.1, v) else kv).map (·.1) = kvs.map (·.1) := by
      rw [List.map_map]
      refine List.map_congr_left fun kv _ => ?_
      show (if kv.1 = k then (kv.1, v) else kv).1 = kv.1
      split <;> rfl
    rw [e]
    exact h
  · rw [if_neg c, List.map_append]
    refine nd_snoc h fun z => c ?_
    obtain ⟨kv, hkv, e⟩ := List.mem_map.mp z
    exact List.any_eq_true.mpr ⟨kv, hkv, decide_eq_true e⟩
/-- what is known is right for up to k questions -/
structure KnR (l : Int) (k : Nat) (kvs : List (NK × V)) : Prop where
  nd : (kvs.map (·.1)).Nodup
  each : ∀ key v, valV kvs key = some v → ∃ (ms : List Int) (j : Nat) (b : Bool), key = nk ms j ∧ v = V.bl b ∧ Good l ms ∧ j ≤ 24 ∧ (j ≤ k → (b = true ↔ En l j ms))
theorem KnR.nil (l : Int) (k : Nat) : KnR l k [] := ⟨List.nodup_nil, fun key v h => by cases h⟩
theorem KnR.get {l : Int} {k : Nat} {kvs : List (NK × V)} (h : KnR l k kvs) {ms : List Int} {v : V} (e : valV kvs (nk ms k) = some v) : ∃ b : Bool, v = V.bl b ∧ (b = true ↔ En l k ms) := by
  obtain ⟨ms', j, b, h1, h2, _, _, h3⟩ := h.each _ _ e
  obtain ⟨rfl, rfl⟩ := nk_inj h1
  exact ⟨b, h2, h3 (Nat.le_refl _)⟩
theorem KnR.mono {l : Int} {k k' : Nat} {kvs : List (NK × V)} (h : KnR l k kvs) (hk : k' ≤ k) : KnR l k' kvs :=
  ⟨h.nd, fun key v e => let ⟨ms, j, b, h1, h2, h3, h4, h5⟩ := h.each key v e; ⟨ms, j, b, h1, h2, h3, h4, fun z => h5 (Nat.le_trans z hk)⟩⟩
/-- a word is laid that concerns more questions -/
theorem KnR.lay {l : Int} {k : Nat} {kvs : List (NK × V)} (h : KnR l k kvs) {ms : List Int} {j : Nat} (g : Good l ms) (h24 : j ≤ 24) (b : Bool) (hb : j ≤ k → (b = true ↔ En l j ms)) : KnR l k (putK kvs (nk ms j) (.bl b)) := by
  refine ⟨nd_put h.nd _ _, fun key v e => ?_⟩
  rw [valV_put] at e
  by_cases c : key = nk ms j
  · rw [if_pos c] at e
    cases e
    exact ⟨ms, j, b, c, rfl, g, h24, hb⟩
  · rw [if_neg c] at e
    exact h.each key v e
/-- nothing changed of more than k questions -/
def Upper (k : Nat) (kvs kvs' : List (NK × V)) : Prop := ∀ (ms : List Int) (j : Nat), k < j → valV kvs' (nk ms j) = valV kvs (nk ms j)
theorem Upper.refl (k : Nat) (kvs : List (NK × V)) : Upper k kvs kvs := fun _ _ _ => rfl
theorem Upper.trans {k : Nat} {a b c : List (NK × V)} (h : Upper k a b) (h' : Upper k b c) : Upper k a c := fun ms j z => (h' ms j z).trans (h ms j z)
/-- behind the loop: the key under way is right too -/
theorem KnR.close {l : Int} {k : Nat} {kvs0 kvs1 kvs : List (NK × V)} (h0 : KnR l (k + 1) kvs0) (h : KnR l k kvs) {ms : List Int} {w : V} (e1 : kvs1 = putK kvs0 (nk ms (k + 1)) w) (u : Upper k kvs1 kvs) {b : Bool} (hv : valV kvs (nk ms (k + 1)) = some (.bl b)) (hb : b = true ↔ En l (k + 1) ms) : KnR l (k + 1) kvs := by
  refine ⟨h.nd, fun key v e => ?_⟩
  obtain ⟨ms', j, b', h1, h2, h3, h4, h5⟩ := h.each key v e
  refine ⟨ms', j, b', h1, h2, h3, h4, fun hj => ?_⟩
  rcases Nat.lt_or_ge k j with z | z
  · have ej : j = k + 1 := by omega
    subst ej
    by_cases c : ms' = ms
    · subst c
      rw [h1, hv] at e
      cases e
      injection h2 with h2
      rw [← h2]
      exact hb
    · have e' := e
      rw [h1, u ms' (k + 1) (Nat.lt_succ_self k), e1, valV_put, if_neg (fun z => c (nk_inj z).1)] at e'
      obtain ⟨b2, g1, g2⟩ := h0.get e'
      rw [h2] at g1
      injection g1 with g1
      rw [g1]
      exact g2
  · exact h5 z
/-- marks of good things as one number -/
def code5 : List Int → Nat
  | [] => 0
  | x :: r => 1 + x.toNat + 5 * code5 r
theorem code5_inj : ∀ {a b : List Int}, (∀ x ∈ a, 0 ≤ x ∧ x ≤ 3) → (∀ x ∈ b, 0 ≤ x ∧ x ≤ 3) → code5 a = code5 b → a = b
  | [], [], _, _, _ => rfl
  | [], _ :: _, _, _, h => by unfold code5 at h; omega
  | _ :: _, [], _, _, h => by unfold code5 at h; omega
  | x :: r, y :: s, h1, h2, h => by
    have a1 := h1 x List.mem_cons_self
    have a2 := h2 y List.mem_cons_self
    have e : x = y ∧ code5 r = code5 s := by
      unfold code5 at h
      omega
    rw [e.1, code5_inj (fun z hz => h1 z (List.mem_cons_of_mem _ hz)) (fun z hz => h2 z (List.mem_cons_of_mem _ hz)) e.2]
theorem code5_lt : ∀ {a : List Int}, (∀ x ∈ a, 0 ≤ x ∧ x ≤ 3) → code5 a < 5 ^ a.length
  | [], _ => Nat.one_pos
  | x :: r, h => by
    have a1 := h x List.mem_cons_self
    have ih := code5_lt fun z hz => h z (List.mem_cons_of_mem _ hz)
    rw [code5, List.length_cons, Nat.pow_succ]
    omega
theorem Good.three {l : Int} {ms : List Int} (g : Good l ms) : ∀ x ∈ ms, 0 ≤ x ∧ x ≤ 3 := fun x hx => by
  have := g.each x hx
  have := g.hi
  omega
theorem Good.code {l : Int} {ms : List Int} (g : Good l ms) : code5 ms < 390625 := by
  have h := code5_lt g.three
  have h2 : 5 ^ ms.length ≤ 5 ^ 8 := Nat.pow_le_pow_right (by decide) g.most
  exact Nat.lt_of_lt_of_le h h2
theorem KnR.few {l : Int} {k : Nat} {kvs : List (NK × V)} (h : KnR l k kvs) : kvs.length < sizeLine := by
  have ex : ∃ ts : List (List Int × Nat), ts.map (fun t => nk t.1 t.2) = kvs.map (·.1) ∧ ∀ t ∈ ts, Good l t.1 ∧ t.2 ≤ 24 := by
    have go : ∀ r : List (NK × V), (∀ p ∈ r, ∃ t : List Int × Nat, p.1 = nk t.1 t.2 ∧ Good l t.1 ∧ t.2 ≤ 24) → ∃ ts : List (List Int × Nat), ts.map (fun t => nk t.1 t.2) = r.map (·.1) ∧ ∀ t ∈ ts, Good l t.1 ∧ t.2 ≤ 24 := by
      intro r
      induction r with
      | nil => intro _; exact ⟨[], rfl, fun t ht => by cases ht⟩
      | cons p r ih =>
        intro hp
        obtain ⟨t, e, ht⟩ := hp p List.mem_cons_self
        obtain ⟨ts, e2, h2⟩ := ih fun x hx => hp x (List.mem_cons_of_mem _ hx)
        refine ⟨t :: ts, by rw [List.map_cons, List.map_cons, e2, e], fun x hx => ?_⟩
        rcases List.mem_cons.mp hx with z | z
        · rw [z]; exact ht
        · exact h2 x z
    refine go kvs fun p hp => ?_
    obtain ⟨ms, j, b, e, _, g, h24, _⟩ := h.each p.1 p.2 (mem_valV h.nd hp)
    exact ⟨(ms, j), e, g, h24⟩
  obtain ⟨ts, e, ht⟩ := ex
  have nd := h.nd
  rw [← e] at nd
  have nd2 : (ts.map fun t => 32 * code5 t.1 + t.2).Nodup := by
    rw [List.Nodup, List.pairwise_map] at nd ⊢
    refine nd.imp_of_mem fun {a b} ha hb hne hc => hne ?_
    have h1 := (ht a ha).2
    have h2 := (ht b hb).2
    have hc' : code5 a.1 = code5 b.1 ∧ a.2 = b.2 := by omega
    rw [code5_inj (ht a ha).1.three (ht b hb).1.three hc'.1, hc'.2]
  have := nodup_below 12500000 _ nd2 fun x hx => by
    obtain ⟨t, h1, rfl⟩ := List.mem_map.mp hx
    have a1 := (ht t h1).1.code
    have a2 := (ht t h1).2
    omega
  rw [List.length_map] at this
  have e2 := congrArg List.length e
  rw [List.length_map, List.length_map] at e2
  rw [← e2, sizeLine_eq]
  omega
theorem sort_good {l : Int} {ms ms' : List Int} (g : Good l ms) (p : ms'.Perm ms) : Good l ms' := ⟨g.lo, g.hi, by rw [p.length_eq]; exact g.few, by rw [p.length_eq]; exact g.most, fun m hm => g.each m (p.mem_iff.mp hm)⟩
theorem En.perm_iff {l : Int} {q : Nat} {ms ms' : List Int} (p : ms'.Perm ms) : En l q ms' ↔ En l q ms := ⟨fun h => h.perm p, fun h => h.perm p.symm⟩
theorem _root_.L2.But.putN {d : Addr} {H0 H1 : Hp} {kvs kvs' : List (NK × V)} (b : But d H0 H1) (hd : H1 d = some (.dN kvs)) : But d H0 (upd H1 d (.dN kvs')) := by
  refine ⟨fun x o hx h n => ?_, fun x ps h => ?_, fun P' T' => ?_⟩
  · rw [upd_ne hx]
    exact b.at' x o hx h n
  · obtain ⟨ps', h'⟩ := b.tbl x ps h
    exact ⟨ps', by rw [upd_ne (fun e => by rw [e, hd] at h'; cases h')]; exact h'⟩
  · have t3 := b.tab P' T'
    obtain ⟨ps', h'⟩ := t3.at
    exact t3.upd (fun e => by rw [← e, hd] at h'; cases h') (NotX.dN hd)
theorem Upper.put {k : Nat} {a b : List (NK × V)} {ms : List Int} {w : V} (w' : V) (u : Upper k (putK a (nk ms (k + 1)) w) b) : Upper k (putK a (nk ms (k + 1)) w') (putK b (nk ms (k + 1)) w') := fun ms' j hj => by
  have z := u ms' j hj
  rw [valV_put] at z
  rw [valV_put, valV_put]
  by_cases c : nk ms' j = nk ms (k + 1)
  · rw [if_pos c, if_pos c]
  · rw [if_neg c] at z
    rw [if_neg c, if_neg c]
    exact z
theorem Upper.up {k : Nat} {a b : List (NK × V)} {ms : List Int} {w : V} (u : Upper k (putK a (nk ms (k + 1)) w) b) : Upper (k + 1) a b := fun ms' j hj => by
  have z := u ms' j (by omega)
  rw [valV_put, if_neg (fun e => by have := (nk_inj e).2; omega)] at z
  exact z
def sp_l_enough (K : PySem.W.Frag) (m : Nat) : Sp := fun vs H Q E => ∃ (a : Addr) (l : Int) (k : Nat) (d : Addr) (ms : List Int) (kvs : List (NK × V)), vs = [.ref a, .int l, .int ((k : Nat) : Int), .ref d] ∧ (H a = some (.lst (ms.map V.int))) ∧ (H d = some (.dN kvs)) ∧ (Good l ms) ∧ (KnR l k kvs) ∧ (k < m) ∧ (k ≤ 24) ∧ (∀ (b : Bool) kvs' H', But d H H' → H' d = some (.dN kvs') → KnR l k kvs' → Upper k kvs kvs' → (b = true ↔ En l k ms) → Q (.bl b) H')
theorem sc_l_enough : FnScope ["marks", "lies", "many", "known", "key", "total", "mark", "number", "asked", "yes", "no"] ["marks", "lies", "many", "known"] (defScope s_l_enough) := ⟨rfl, rfl, rfl, by decide +kernel, rfl, by decide +kernel, by decide +kernel⟩
theorem ok_l_enough (m : Nat) (T : Tx K mg "_law_enough" ["marks", "lies", "many", "known"] s_l_enough) (D_l_enough : Df P w K mg base n "_law_enough" ["marks", "lies", "many", "known"] (sp_l_enough K m)) (D_l_after : Df P w K mg base n "_law_after" ["marks", "lies", "asked", "yes"] (sp_l_after K)) (D_l_asked_by : Df P w K mg base n "_law_asked_by" ["cell", "things"] (sp_l_asked_by K)) (D_l_stands : Df P w K mg base n "_law_stands" ["marks", "lies"] (sp_l_stands K)) (m_range : mg "range" = none) (m_sorted : mg "sorted" = none) (m_len : mg "len" = none) (m_tuple : mg "tuple" = none) : Df P w K mg base (n + 1) "_law_enough" ["marks", "lies", "many", "known"] (sp_l_enough K (m + 1)) := by
  refine T.ok sc_l_enough (fun vs H Q E h => ?_) (fun f cdv A outer s H vs Q E hr h => ?_)
  · obtain ⟨a, l, k, d, ms, kvs, rfl, _⟩ := h
    rfl
  obtain ⟨a, l, k, d, ms, kvs, rfl, hA, hD, g, hk, hm, h24, q⟩ := h
  have nd := sc_l_enough.nd
  refine ⟨_, (pss_cons (ps_if (pt_cmpR op_le (pe_callB call_len_seq rfl m_len PySem.boot_len (pa_cons (pe_callD D_l_stands hr rfl (pa_cons (pv 0) (pa_cons (pv 1) pa_nil))) pa_nil)) pe_int (nomark _)) (pss_one (ps_ret pe_bl)) pss_nil) (pss_cons (ps_if (pt_cmpR op_eq (pv 2) pe_int (nomark _)) (pss_one (ps_ret pe_bl)) pss_nil) (pss_cons (ps_set (i := 4) nd rfl (Or.inl rfl) (pe_tup (pa_cons (pe_callTy call_tuple_of rfl m_tuple PyProof.Rows.boot_tuple (pa_cons (pe_callB call_sortI rfl m_sorted PyProof.Rows.boot_sorted (pa_cons (pv 0) pa_nil)) pa_nil)) (pa_cons (pv 2) pa_nil)))) (pss_cons (ps_if (pt_cmp (pc_nin (hu_of2 hr) (pv 4) (pv 3))) (pss_one (ps_ret (pe_nget (hu_of2 hr) (pv 3) (pv 4) (fun _ _ => rfl)))) pss_nil) (pss_cons (ps_nput (hu_of2 hr) (pv 3) (pv 4) pe_bl rfl) (pss_cons (ps_set (i := 5) nd rfl (Or.inl rfl) pe_int) (pss_cons (ps_for PassesOwn.never rfl (pi_list (pv 0)) (pg_name (i := 6) nd rfl (Or.inl rfl)) (pss_one (ps_set (i := 5) nd rfl (Or.inl rfl) (pe_op op_mul pe_int (pv 5))))) (pss_cons (ps_for PassesOwn.never rfl (pi_range1 rfl m_range (pa_cons (pe_op op_fdiv (pv 5) pe_int) pa_nil)) (pg_name (i := 7) nd rfl (Or.inl rfl)) (pss_cons (ps_set (i := 8) nd rfl (Or.inl rfl) (pe_callD D_l_asked_by hr rfl (pa_cons (pv 7) (pa_cons (pe_callB call_len_seq rfl m_len PySem.boot_len (pa_cons (pv 0) pa_nil)) pa_nil)))) (pss_cons (ps_set (i := 9) nd rfl (Or.inl rfl) (pe_callB call_sortI rfl m_sorted PyProof.Rows.boot_sorted (pa_cons (pe_callD D_l_after hr rfl (pa_cons (pv 0) (pa_cons (pv 1) (pa_cons (pv 8) (pa_cons pe_bl pa_nil))))) pa_nil))) (pss_one (ps_if (pt_truth (pe_callD D_l_enough hr rfl (pa_cons (pv 9) (pa_cons (pv 1) (pa_cons (pe_op op_sub (pv 2) pe_int) (pa_cons (pv 3) pa_nil))))) fun _ => rfl) (pss_cons (ps_set (i := 10) nd rfl (Or.inl rfl) (pe_callB call_sortI rfl m_sorted PyProof.Rows.boot_sorted (pa_cons (pe_callD D_l_after hr rfl (pa_cons (pv 0) (pa_cons (pv 1) (pa_cons (pv 8) (pa_cons pe_bl pa_nil))))) pa_nil))) (pss_one (ps_if (pt_truth (pe_callD D_l_enough hr rfl (pa_cons (pv 10) (pa_cons (pv 1) (pa_cons (pe_op op_sub (pv 2) pe_int) (pa_cons (pv 3) pa_nil))))) fun _ => rfl) (pss_cons (ps_nput (hu_of2 hr) (pv 3) (pv 4) pe_bl rfl) (pss_one (ps_ret pe_bl))) pss_nil))) pss_nil))))) (pss_one (ps_ret pe_bl)))))))))), ?_⟩
  have hl : (ms.map V.int).length = ms.length := List.length_map _
  have gm := g.most
  have gf := g.few
  have nad : a ≠ d := fun e => by rw [e, hD] at hA; cases hA
  refine ⟨_, rfl, _, rfl, a, l, ms, rfl, SqL.of hA, by omega, fun r1 H1 hr1 s1 e1 => ?_⟩
  refine ⟨r1, _, rfl, .inl (SqL.of e1), _, _, rfl, rfl, _, rfl, ?_⟩
  have sl : (((standM ms l).map V.int).length : Int) = ((stN l ms : Nat) : Int) := by rw [List.length_map, stN_stand]
  refine ite2 (fun c => ?_) fun c => ?_
  · have c' : (((standM ms l).map V.int).length : Int) ≤ 1 := of_decide_eq_true c
    exact q true kvs H1 s1.but (s1 _ _ hD) hk (Upper.refl _ _) ⟨fun _ => En.found (by omega), fun _ => rfl⟩
  have c' : ¬ (((standM ms l).map V.int).length : Int) ≤ 1 := of_decide_eq_false (Bool.eq_false_iff.mpr c)
  have st2 : ¬ stN l ms ≤ 1 := by omega
  refine ⟨_, rfl, rfl, _, rfl, ?_⟩
  cases k with
  | zero =>
    refine ite2 (fun _ => ?_) fun c => absurd rfl (of_decide_eq_false (Bool.eq_false_iff.mpr c))
    exact q false kvs H1 s1.but (s1 _ _ hD) hk (Upper.refl _ _) ⟨fun h => (by cases h), fun h => absurd h st2⟩
  | succ k =>
  refine ite2 (fun c => absurd (V.int.inj (of_decide_eq_true c)) (by omega)) fun _ => ?_
  refine ⟨_, rfl, a, ms, rfl, SqL.of (s1 _ _ hA), by omega, fun D ns' hDn pm pw => ?_⟩
  refine ⟨D, _, rfl, .inl ⟨SqL.of upd_same, fun b hb => ?_⟩⟩
  refine ⟨_, rfl, by show 2 ≤ sizeLine; decide, fun c hc => ?_⟩
  have s2 := same_new hDn (.lst (ns'.map V.int))
  have s3 := same_new hb (.tup (ns'.map V.int))
  have s4 := same_new hc (.tup [.ref b, .int ((k + 1 : Nat) : Int)])
  have sa := s1.trans (s2.trans (s3.trans s4))
  have gs := sort_good g pm
  have hcK : upd (upd (upd H1 D (.lst (ns'.map V.int))) b (.tup (ns'.map V.int))) c (.tup [.ref b, .int ((k + 1 : Nat) : Int)]) c = some (.tup [.ref b, V.int (nk ns' (k + 1)).2]) := upd_same
  have hbK : upd (upd (upd H1 D (.lst (ns'.map V.int))) b (.tup (ns'.map V.int))) c (.tup [.ref b, .int ((k + 1 : Nat) : Int)]) b = some (.tup ((nk ns' (k + 1)).1.map V.int)) := s4 _ _ upd_same
  have hA4 := sa _ _ hA
  have hD4 := sa _ _ hD
  dsimp only
  generalize hH4 : upd (upd (upd H1 D (.lst (ns'.map V.int))) b (.tup (ns'.map V.int))) c (.tup [.ref b, .int ((k + 1 : Nat) : Int)]) = H4 at sa hcK hbK hA4 hD4 ⊢
  clear hH4
  refine ⟨_, rfl, _, rfl, d, _, rfl, NGet.t hD4 hcK hbK, _, rfl, ?_⟩
  cases hv : valV kvs (nk ns' (k + 1)) with
  | some v =>
    refine iteT ?_
    obtain ⟨w0, rfl, hw⟩ := hk.get hv
    refine ⟨_, rfl, _, rfl, d, _, rfl, (by rw [← hv]; exact NGet.t hD4 hcK hbK), q w0 kvs H4 sa.but hD4 hk (Upper.refl _ _) (hw.trans (En.perm_iff pm))⟩
  | none =>
  refine iteF ?_
  refine ⟨_, rfl, _, rfl, d, _, rfl, NPut.t hD4 hcK hbK hk.few, ?_⟩
  have b5 : But d H4 (upd H4 d (.dN (putK kvs (nk ns' (k + 1)) (.bl false)))) := (But.refl d H4).putN hD4
  have k5 : KnR l k (putK kvs (nk ns' (k + 1)) (.bl false)) := (hk.mono (Nat.le_succ k)).lay gs h24 false fun h => absurd h (Nat.not_succ_le_self k)
  have hD5 : upd H4 d (.dN (putK kvs (nk ns' (k + 1)) (.bl false))) d = some (.dN (putK kvs (nk ns' (k + 1)) (.bl false))) := upd_same
  generalize hkv1 : putK kvs (nk ns' (k + 1)) (.bl false) = kv1 at b5 k5 hD5 ⊢
  generalize upd H4 d (.dN kv1) = H5 at b5 hD5 ⊢
  have hA5 := b5.at' _ _ nad hA4 rfl
  have hl8 : (2 : Nat) ^ ms.length = 2 * 2 ^ (ms.length - 1) := by
    have : ms.length = (ms.length - 1) + 1 := by omega
    rw [this, Nat.pow_succ, Nat.mul_comm]
    rfl
  have hp8 : 2 ^ (ms.length - 1) ≤ 128 := Nat.le_trans (Nat.pow_le_pow_right (by decide) (by omega : ms.length - 1 ≤ 7)) (by decide)
  refine ⟨_, rfl, a, rfl, ⟨_, SqL.of hA5⟩, ?_⟩
  refine for_list (xs := ms.map V.int) (fun i σ H' => H' = H5 ∧ ∃ (o6 : Option V), σ = [some (.ref a), some (.int l), some (.int ((k + 1 : Nat) : Int)), some (.ref d), some (.ref c), some (.int ((2 ^ i : Nat) : Int)), o6, none, none, none, none]) ⟨rfl, _, rfl⟩ (fun i σ H' _ h => by rw [h.1]; exact SqL.of hA5) ?_ ?_
  · rintro i x σ H' hx ⟨rfl, o6, rfl⟩
    refine ⟨_, rfl, _, _, rfl, rfl, .inl ⟨by decide, by decide⟩, ?_⟩
    have e2 : ((2 ^ (i + 1) : Nat) : Int) = 2 * ((2 ^ i : Nat) : Int) := by rw [Nat.pow_succ]; omega
    exact ⟨rfl, some x, (by rw [e2]; rfl)⟩
  rintro σ H5 ⟨rfl, o6, rfl⟩
  refine ⟨_, rfl, _, _, rfl, rfl, ⟨by decide, by decide⟩, ((2 ^ (ms.length - 1) : Nat) : Int), ?_, by omega, by omega, ?_⟩
  · rw [hl]
    have e2 : ((2 ^ ms.length : Nat) : Int) / 2 = ((2 ^ (ms.length - 1) : Nat) : Int) := by
      rw [hl8]
      generalize 2 ^ (ms.length - 1) = z
      omega
    exact congrArg (fun z => [V.int z]) e2
  refine for_range (fun i σ H' => ∃ (kv2 : List (NK × V)) (o6 o7 o8 o9 o10 : Option V), σ = [some (.ref a), some (.int l), some (.int ((k + 1 : Nat) : Int)), some (.ref d), some (.ref c), some (.int ((2 ^ ms.length : Nat) : Int)), o6, o7, o8, o9, o10] ∧ But d H5 H' ∧ H' d = some (.dN kv2) ∧ KnR l k kv2 ∧ Upper k kv1 kv2 ∧
      ∀ j : Nat, j < i → ¬ (En l k (afterM ms l (askedBy (j : Int) ms.length) true) ∧ En l k (afterM ms l (askedBy (j : Int) ms.length) false)))
    ⟨kv1, _, _, _, _, _, (by rw [hl]), But.refl d _, hD5, k5, Upper.refl _ _, fun j hj => absurd hj (Nat.not_lt_zero j)⟩ ?_ ?_
  · rintro i σ H' hi ⟨kv2, o6, o7, o8, o9, o10, rfl, b6, d6, k6, u6, no6⟩
    have hA6 := b6.at' _ _ nad hA5 rfl
    refine ⟨_, rfl, _, rfl, a, _, rfl, .inl (SqL.of hA6), 0 + (i : Int), (ms.length : Int), (by rw [hl]; rfl), by omega, by omega, fun rq H7 hrq s7 eq => ?_⟩
    have gq := askedBy_rise (0 + (i : Int)) ms.length
    have s7' := hA6
    have z0 : (0 : Int) + (i : Int) = (i : Int) := by omega
    have zl : ((ms.length : Nat) : Int).toNat = ms.length := by omega
    rw [z0, zl] at eq
    rw [z0] at gq
    have no := no6
    generalize hqs : askedBy (i : Int) ms.length = qs at eq gq
    have hA7 := s7 _ _ hA6
    have d7 := s7 _ _ d6
    dsimp only
    refine ⟨_, rfl, _, rfl, _, rfl, a, l, ms, rq, qs, true, rfl, SqL.of hA7, SqL.of eq, by omega, fun r8 H8 hr8 s8 e8 => ?_⟩
    rw [lAfter_eq g] at e8
    refine ⟨r8, _, rfl, SqL.of e8, by rw [aft_len]; omega, fun D9 ys hD9 py _ => ?_⟩
    have s9 := same_new hD9 (.lst (ys.map V.int))
    have gy := sort_good (aft_good g qs true) py
    have s79 := s7.trans (s8.trans s9)
    have hA9 := s79 _ _ hA6
    have d9 := s79 _ _ d6
    have q9 := s9 _ _ (s8 _ _ eq)
    have y9 : upd H8 D9 (.lst (ys.map V.int)) D9 = some (.lst (ys.map V.int)) := upd_same
    dsimp only
    generalize upd H8 D9 (.lst (ys.map V.int)) = H9 at s79 hA9 d9 q9 y9 ⊢
    have em1 : ((k + 1 : Nat) : Int) - 1 = ((k : Nat) : Int) := by omega
    refine ⟨_, rfl, _, rfl, _, rfl, _, _, rfl, rfl, _, rfl, D9, l, k, d, ys, kv2, (by show [V.ref D9, V.int l, V.int (((k + 1 : Nat) : Int) - 1), V.ref d] = _; rw [em1]), y9, d9, gy, k6, Nat.lt_of_succ_lt_succ hm, by omega, fun w1 kv3 H10 b10 d10 k10 u10 h10 => ?_⟩
    have h10' : w1 = true ↔ En l k (afterM ms l qs true) := h10.trans (En.perm_iff py)
    have b610 : But d H5 H10 := b6.trans (s79.but.trans b10)
    have u610 := u6.trans u10
    refine ⟨w1, rfl, ?_⟩
    refine ite2 (fun cw => ?_) fun cw => ?_
    · have hA10 := b10.at' _ _ nad hA9 rfl
      have nqd : rq ≠ d := fun e => by rw [e, d9] at q9; cases q9
      have q10 := b10.at' _ _ nqd q9 rfl
      refine ⟨_, rfl, _, rfl, _, rfl, a, l, ms, rq, qs, false, rfl, SqL.of hA10, SqL.of q10, by omega, fun r11 H11 hr11 s11 e11 => ?_⟩
      rw [lAfter_eq g] at e11
      refine ⟨r11, _, rfl, SqL.of e11, by rw [aft_len]; omega, fun D12 zs hD12 pz _ => ?_⟩
      have s12 := s11.trans (same_new hD12 (.lst (zs.map V.int)))
      have gz := sort_good (aft_good g qs false) pz
      have d12 := s12 _ _ d10
      have z12 : upd H11 D12 (.lst (zs.map V.int)) D12 = some (.lst (zs.map V.int)) := upd_same
      dsimp only
      generalize upd H11 D12 (.lst (zs.map V.int)) = H12 at s12 d12 z12 ⊢
      refine ⟨_, rfl, _, rfl, _, rfl, _, _, rfl, rfl, _, rfl, D12, l, k, d, zs, kv3, (by show [V.ref D12, V.int l, V.int (((k + 1 : Nat) : Int) - 1), V.ref d] = _; rw [em1]), z12, d12, gz, k10, Nat.lt_of_succ_lt_succ hm, by omega, fun w2 kv4 H13 b13 d13 k13 u13 h13 => ?_⟩
      have h13' : w2 = true ↔ En l k (afterM ms l qs false) := h13.trans (En.perm_iff pz)
      have b613 : But d H5 H13 := b610.trans (s12.but.trans b13)
      have u613 := u610.trans u13
      refine ⟨w2, rfl, ?_⟩
      refine ite2 (fun cw2 => ?_) fun cw2 => ?_
      · have ncd : c ≠ d := fun e => by rw [e, hD4] at hcK; cases hcK
        have nbd : b ≠ d := fun e => by rw [e, hD4] at hbK; cases hbK
        have b413 := b5.trans b613
        have hc13 := b413.at' _ _ ncd hcK rfl
        have hb13 := b413.at' _ _ nbd hbK rfl
        refine ⟨_, rfl, _, rfl, d, _, rfl, NPut.t d13 hc13 hb13 k13.few, ?_⟩
        have en : En l (k + 1) ms := En.ask (h10'.mp cw) (h13'.mp cw2)
        have en' : En l (k + 1) ns' := (En.perm_iff pm).mpr en
        rw [← hkv1] at u613
        have k14 : KnR l k (putK kv4 (nk ns' (k + 1)) (.bl true)) := k13.lay gs h24 true fun h => absurd h (Nat.not_succ_le_self k)
        have k15 : KnR l (k + 1) (putK kv4 (nk ns' (k + 1)) (.bl true)) := hk.close k14 rfl (u613.put (.bl true)) (by rw [valV_put, if_pos rfl]) ⟨fun _ => en', fun _ => rfl⟩
        exact q true _ _ (sa.but.trans (b413.putN d13)) upd_same k15 (u613.put (.bl true)).up ⟨fun _ => en, fun _ => rfl⟩
      · refine ⟨kv4, _, _, _, _, _, rfl, b613, d13, k13, u613, fun j hj => ?_⟩
        rcases Nat.lt_or_ge j i with z | z
        · exact no6 j z
        · have : j = i := by omega
          subst this
          rw [hqs]
          exact fun h => cw2 (h13'.mpr h.2)
    · refine ⟨kv3, _, _, _, _, _, rfl, b610, d10, k10, u610, fun j hj => ?_⟩
      rcases Nat.lt_or_ge j i with z | z
      · exact no6 j z
      · have : j = i := by omega
        subst this
        rw [hqs]
        exact fun h => cw (h10'.mpr h.1)
  · rintro σ H' ⟨kv2, o6, o7, o8, o9, o10, rfl, b6, d6, k6, u6, no6⟩
    have nen : ¬ En l (k + 1) ms := fun h => by
      obtain ⟨n0, hn0, e1, e2⟩ := h.num st2 gf
      exact no6 n0 hn0 ⟨e1, e2⟩
    have u6' := u6
    rw [← hkv1] at u6'
    have hv6 : valV kv2 (nk ns' (k + 1)) = some (.bl false) := by rw [u6' ns' (k + 1) (Nat.lt_succ_self k), valV_put, if_pos rfl]
    have fin : (false = true) ↔ En l (k + 1) ns' := ⟨fun h => (by cases h), fun h => absurd ((En.perm_iff pm).mp h) nen⟩
    exact q false kv2 H' (sa.but.trans (b5.trans b6)) d6 (hk.close k6 rfl u6' hv6 fin) u6'.up ⟨fun h => (by cases h), fun h => absurd h nen⟩
theorem rec_enough (T1 : Tx K mg "_law_enough" ["marks", "lies", "many", "known"] s_l_enough) (E1 : Df P w K mg base 1 "_law_stands" ["marks", "lies"] (sp_l_stands K)) (E2 : Df P w K mg base 1 "_law_asked_by" ["cell", "things"] (sp_l_asked_by K))
    (E3 : Df P w K mg base 1 "_law_after" ["marks", "lies", "asked", "yes"] (sp_l_after K)) (m_len : mg "len" = none) (m_tuple : mg "tuple" = none) (m_sorted : mg "sorted" = none) (m_range : mg "range" = none) : ∀ m, Df P w K mg base (m + 2) "_law_enough" ["marks", "lies", "many", "known"] (sp_l_enough K m)
  | 0 => by
    refine Tx.ok (k := 1) T1 sc_l_enough (fun vs H Q E h => ?_) (fun f cdv A outer s H vs Q E hr h => ?_)
    · obtain ⟨a, l, k, d, ms, kvs, rfl, _⟩ := h
      rfl
    · obtain ⟨a, l, k, d, ms, kvs, rfl, _, _, _, _, hm, _⟩ := h
      exact absurd hm (Nat.not_lt_zero _)
  | m + 1 => by
    have ih := rec_enough T1 E1 E2 E3 m_len m_tuple m_sorted m_range m
    exact ok_l_enough (n := m + 2) m T1 ih (E3.mono (by omega)) (E2.mono (by omega)) (E1.mono (by omega)) m_range m_sorted m_len m_tuple
def sizes03 : List Int := [5, 4, 3]
theorem sizes03_ok : Sizes sizes03 := ⟨rfl, fun z hz => by
  unfold sizes03 at hz
  simp at hz
  omega⟩
theorem KnR.up {l : Int} {k K : Nat} {a b : List (NK × V)} (h0 : KnR l K a) (h : KnR l k b) (u : Upper k a b) : KnR l K b := by
  refine ⟨h.nd, fun key v e => ?_⟩
  obtain ⟨ms, j, w, h1, h2, h3, h4, h5⟩ := h.each key v e
  refine ⟨ms, j, w, h1, h2, h3, h4, fun hj => ?_⟩
  rcases Nat.lt_or_ge k j with z | z
  · rw [h1, u ms j z] at e
    obtain ⟨ms', j', w', g1, g2, _, _, g5⟩ := h0.each _ _ e
    obtain ⟨e1, e2⟩ := nk_inj g1
    subst e1 e2
    rw [h2] at g2
    injection g2 with g2
    rw [g2]
    exact g5 hj
  · exact h5 z
theorem sc_law : FnScope ["script", "marks", "lies", "due", "known", "handed", "found"] ["script"] (defScope s_law) := ⟨rfl, rfl, rfl, by decide +kernel, rfl, by decide +kernel, by decide +kernel⟩
def sp_law (K : PySem.W.Frag) : Sp := fun vs H Q E => ∃ (a : Addr) (ns : List Int), vs = [.ref a] ∧ (SqL K H a (ns.map V.int)) ∧ (ns.length ≤ 63) ∧ (TabB K H) ∧ (∀ H', Q (.bl true) H')
theorem ok_law (T : Tx K mg "law" ["script"] s_law) (D_need : Df P w K mg base n "need" ["marks", "lies"] (sp_need K)) (D_l_whole : Df P w K mg base n "_law_whole" ["found"] (sp_l_whole K)) (D_l_enough : Df P w K mg base n "_law_enough" ["marks", "lies", "many", "known"] (sp_l_enough K 25)) (D_l_marks_by : Df P w K mg base n "_law_marks_by" ["script", "sizes"] (sp_l_marks_by K)) (m_list : mg "list" = none) (m_sorted : mg "sorted" = none) : Df P w K mg base (n + 1) "law" ["script"] (sp_law K) := by
  refine T.ok sc_law (fun vs H Q E h => ?_) (fun f cdv A outer s H vs Q E hr h => ?_)
  · obtain ⟨a, ns, rfl, _⟩ := h
    rfl
  obtain ⟨a, ns, rfl, hS, h63, hT, q⟩ := h
  have nd := sc_law.nd
  refine ⟨_, (pss_cons (ps_asg (pe_callD D_l_marks_by hr rfl (pa_cons (pv 0) (pa_cons (pe_lst (pa_cons pe_int (pa_cons pe_int (pa_cons pe_int pa_nil)))) pa_nil))) (pg_tup (n := 2) rfl (pgs_cons (pg_name (i := 1) nd rfl (Or.inl rfl)) (pgs_cons (pg_name (i := 2) nd rfl (Or.inl rfl)) pgs_nil)))) (pss_cons (ps_set (i := 3) nd rfl (Or.inl rfl) pe_int) (pss_cons (ps_set (i := 4) nd rfl (Or.inl rfl) pe_dnewN) (pss_cons (ps_while PassesOwn.never (pt_not (pt_truth (pe_callD D_l_enough hr rfl (pa_cons (pe_callB call_sortI rfl m_sorted PyProof.Rows.boot_sorted (pa_cons (pv 1) pa_nil)) (pa_cons (pv 2) (pa_cons (pv 3) (pa_cons (pv 4) pa_nil))))) fun _ => rfl)) (pss_one (ps_set (i := 3) nd rfl (Or.inl rfl) (pe_op op_add (pv 3) pe_int)))) (pss_cons (ps_set (i := 5) nd rfl (Or.inl rfl) (pe_callTy call_list_of rfl m_list PyProof.Rows.boot_list (pa_cons (pv 1) pa_nil))) (pss_cons (ps_set (i := 6) nd rfl (Or.inl rfl) (pe_callD D_need hr rfl (pa_cons (pv 5) (pa_cons (pv 2) pa_nil)))) (pss_one (ps_ret (pe_and (pe_callD D_l_whole hr rfl (pa_cons (pv 6) pa_nil)) (pe_and (pe_cmpR op_eq (pv 6) (pv 3) (nomark _)) (pe_and (pe_cmpR (op_eqD hr.units) (pv 5) (pv 1) (nomark _)) (pe_one (pe_cmpR op_eq (pe_callD D_need hr rfl (pa_cons (pv 5) (pa_cons (pv 2) pa_nil))) (pv 3) (nomark _)))))))))))))), ?_⟩
  refine ⟨_, rfl, by show 3 ≤ sizeLine; decide, fun z hz => ?_⟩
  have s1 := same_new hz (.lst [.int 5, .int 4, .int 3])
  refine ⟨a, z, ns, sizes03, rfl, s1.seq hS, SqL.of upd_same, sizes03_ok, fun rm p H1 hrm hp s2 em ep => ?_⟩
  have g := marksBy_good sizes03_ok ns
  generalize hms : marksBy ns sizes03 = ms at em g
  generalize hll : liesBy ns = l at ep g
  have gm := g.most
  have s12 := s1.trans s2
  have enb : En l 24 ms := En.pot 24 ms (pot_small g)
  refine ⟨p, _, rfl, SqT.of ep, rfl, _, _, rfl, _, _, rfl, rfl, ?_⟩
  dsimp only
  refine fun d hd => ?_
  have s3 := same_new hd (.dN [])
  have hD0 : upd H1 d (.dN []) d = some (.dN []) := upd_same
  have em0 := s3 _ _ em
  have T0 := (s12.trans s3).tabB hT
  dsimp only
  generalize upd H1 d (.dN []) = H2 at hD0 em0 T0 ⊢
  have nrd : rm ≠ d := fun e => by rw [e, hD0] at em0; cases em0
  refine ⟨fun m σ H3 => ∃ (due : Nat) (kvs : List (NK × V)), σ = [some (.ref a), some (.ref rm), some (.int l), some (.int ((due : Nat) : Int)), some (.ref d), none, none] ∧ But d H2 H3 ∧ H3 d = some (.dN kvs) ∧ KnR l 24 kvs ∧ (∀ j, j < due → ¬ En l j ms) ∧ m = 25 - due,
    ⟨_, 0, [], rfl, But.refl d _, hD0, KnR.nil l 24, fun j hj => absurd hj (Nat.not_lt_zero j), rfl⟩, ?_⟩
  rintro m σ H3 ⟨due, kvs, rfl, b3, d3, k3, lo3, rfl⟩
  have due24 : due ≤ 24 := by
    rcases Nat.lt_or_ge 24 due with z | z
    · exact absurd enb (lo3 24 z)
    · exact z
  have em3 := b3.at' _ _ nrd em0 rfl
  refine ⟨_, rfl, rm, ms, rfl, SqL.of em3, by omega, fun D ys hDn py _ => ?_⟩
  have s4 := same_new hDn (.lst (ys.map V.int))
  refine ⟨_, rfl, _, rfl, _, rfl, D, l, due, d, ys, kvs, rfl, upd_same, s4 _ _ d3, sort_good g py, k3.mono due24, by omega, due24, fun w kvs' H5 b5 d5 k5 u5 h5 => ?_⟩
  have h5' : w = true ↔ En l due ms := h5.trans (En.perm_iff py)
  have b35 : But d H2 H5 := b3.trans (s4.but.trans b5)
  have k35 := k3.up k5 u5
  refine ⟨w, rfl, ?_⟩
  dsimp only
  cases w with
  | false =>
    refine iteT ?_
    have nen : ¬ En l due ms := fun h => (by cases h5'.mpr h)
    refine ⟨fun σ' H' => ∃ (due' : Nat) (kvs : List (NK × V)), σ' = [some (.ref a), some (.ref rm), some (.int l), some (.int ((due' : Nat) : Int)), some (.ref d), none, none] ∧ But d H2 H' ∧ H' d = some (.dN kvs) ∧ KnR l 24 kvs ∧ (∀ j, j < due' → ¬ En l j ms) ∧ due' = due + 1,
      fun σ' H' ⟨due', kvs, e1, e2, e3, e4, e5, e6⟩ => ⟨25 - due', by omega, due', kvs, e1, e2, e3, e4, e5, rfl⟩, ?_⟩
    refine ⟨_, rfl, _, _, rfl, rfl, ?_⟩
    refine ⟨due + 1, kvs', (by simp), b35, d5, k35, fun j hj => ?_, rfl⟩
    rcases Nat.lt_or_ge j due with z | z
    · exact lo3 j z
    · have : j = due := by omega
      subst this
      exact nen
  | true =>
    refine iteF ?_
    have nd3 : IsNeed l ms due := ⟨h5'.mp rfl, lo3⟩
    have em5 := b35.at' _ _ nrd em0 rfl
    have T5 := b35.tabB T0
    refine ⟨_, rfl, rm, _, rfl, .inl (SqL.of em5), fun rh hrh => ?_⟩
    have s6 := same_new hrh (.lst (ms.map V.int))
    refine ⟨_, rfl, _, rfl, rh, l, ms, rfl, SqL.of upd_same, g, s6.tabB T5, fun k H7 s7 hq => ?_⟩
    have ek : k = due := hq.unique nd3
    subst ek
    have eh7 := s7 _ _ (upd_same (H := H5) (a := rh) (o := .lst (ms.map V.int)))
    have em7 := (s6.trans s7) _ _ em5
    have T7 := (s6.trans s7).tabB T5
    refine ⟨_, rfl, _, rfl, _, rfl, iteT ?_⟩
    refine ⟨_, rfl, _, rfl, rfl, _, rfl, ?_⟩
    refine ite2 (fun _ => ?_) fun c => absurd (decide_eq_true rfl) c
    refine ⟨_, rfl, _, rfl, eqD_same (dp_ints (SqL.of eh7)) (dp_ints (SqL.of em7)) (shp1 ms) ⟨_, rfl, iteT ?_⟩⟩
    refine ⟨_, rfl, _, rfl, rh, l, ms, rfl, SqL.of eh7, g, T7, fun k2 H8 s8 hq2 => ?_⟩
    have ek2 : k2 = k := hq2.unique nd3
    subst ek2
    refine ⟨_, rfl, rfl, ?_⟩
    rw [decide_eq_true rfl]
    exact q H8
end
end My

namespace My
open PySem L2
theorem all_mk {l : PySem.W.OpenLaw} {w : World} {K : PySem.W.Frag} {h : Heap} {mg : Str → Option Value} {fa f0 f1 f2 f3 f4 f5 f6 f7 f8 f9 f10 f11 f12 f13 f14 f15 f16 f17 f18 f19 : Addr} (X : K.In h) (G : h.Ns mainGlobals mg) (hfa : mg "law" = some (.ref fa))
    {od0 an0 od1 an1 od2 an2 od3 an3 od4 an4 od5 an5 od6 an6 od7 an7 od8 an8 od9 an9 od10 an10 od11 an11 od12 an12 od13 an13 od14 an14 od15 an15 od16 an16 od17 an17 od18 an18 od19 an19 : Option Addr} {sl0 sl1 sl2 sl3 sl4 sl5 sl6 sl7 sl8 sl9 sl10 sl11 sl12 sl13 sl14 sl15 sl16 sl17 sl18 sl19 : Array (Option Value)} {oc0 kV0 dc0 pm0 cd0 ct0 oc1 kV1 dc1 pm1 cd1 ct1 oc2 kV2 dc2 pm2 cd2 ct2 oc3 kV3 dc3 pm3 cd3 ct3 oc4 kV4 dc4 pm4 cd4 ct4 oc5 kV5 dc5 pm5 cd5 ct5 oc6 kV6 dc6 pm6 cd6 ct6 oc7 kV7 dc7 pm7 cd7 ct7 oc8 kV8 dc8 pm8 cd8 ct8 oc9 kV9 dc9 pm9 cd9 ct9 oc10 kV10 dc10 pm10 cd10 ct10 oc11 kV11 dc11 pm11 cd11 ct11 oc12 kV12 dc12 pm12 cd12 ct12 oc13 kV13 dc13 pm13 cd13 ct13 oc14 kV14 dc14 pm14 cd14 ct14 oc15 kV15 dc15 pm15 cd15 ct15 oc16 kV16 dc16 pm16 cd16 ct16 oc17 kV17 dc17 pm17 cd17 ct17 oc18 kV18 dc18 pm18 cd18 ct18 oc19 kV19 dc19 pm19 cd19 ct19 : Value}
    (a0 : PySem.W.nsIn K mainGlobals "check_lies" = some (some (.ref f0))) (l0 : K.lookup f0 = some ⟨oc0, od0, .func (PySem.W.fnOf "check_lies" "check_lies" (defArgs s_check_lies) (defBody s_check_lies) (defScope s_check_lies) .none kV0 dc0 pm0 an0 cd0 ct0), sl0⟩) (c0 : PySem.W.codeIn K cd0 "check_lies" = true) (k0 : PySem.W.keepIn K (.ref f0) = true)
    (a1 : PySem.W.nsIn K mainGlobals "check_things" = some (some (.ref f1))) (l1 : K.lookup f1 = some ⟨oc1, od1, .func (PySem.W.fnOf "check_things" "check_things" (defArgs s_check_things) (defBody s_check_things) (defScope s_check_things) .none kV1 dc1 pm1 an1 cd1 ct1), sl1⟩) (c1 : PySem.W.codeIn K cd1 "check_things" = true) (k1 : PySem.W.keepIn K (.ref f1) = true)
    (a2 : PySem.W.nsIn K mainGlobals "check_marks" = some (some (.ref f2))) (l2 : K.lookup f2 = some ⟨oc2, od2, .func (PySem.W.fnOf "check_marks" "check_marks" (defArgs s_check_marks) (defBody s_check_marks) (defScope s_check_marks) .none kV2 dc2 pm2 an2 cd2 ct2), sl2⟩) (c2 : PySem.W.codeIn K cd2 "check_marks" = true) (k2 : PySem.W.keepIn K (.ref f2) = true)
    (a3 : PySem.W.nsIn K mainGlobals "_law_cell_at" = some (some (.ref f3))) (l3 : K.lookup f3 = some ⟨oc3, od3, .func (PySem.W.fnOf "_law_cell_at" "_law_cell_at" (defArgs s_l_cell_at) (defBody s_l_cell_at) (defScope s_l_cell_at) .none kV3 dc3 pm3 an3 cd3 ct3), sl3⟩) (c3 : PySem.W.codeIn K cd3 "_law_cell_at" = true) (k3 : PySem.W.keepIn K (.ref f3) = true)
    (a4 : PySem.W.nsIn K mainGlobals "_law_whole" = some (some (.ref f4))) (l4 : K.lookup f4 = some ⟨oc4, od4, .func (PySem.W.fnOf "_law_whole" "_law_whole" (defArgs s_l_whole) (defBody s_l_whole) (defScope s_l_whole) .none kV4 dc4 pm4 an4 cd4 ct4), sl4⟩) (c4 : PySem.W.codeIn K cd4 "_law_whole" = true) (k4 : PySem.W.keepIn K (.ref f4) = true)
    (a5 : PySem.W.nsIn K mainGlobals "_law_marks_by" = some (some (.ref f5))) (l5 : K.lookup f5 = some ⟨oc5, od5, .func (PySem.W.fnOf "_law_marks_by" "_law_marks_by" (defArgs s_l_marks_by) (defBody s_l_marks_by) (defScope s_l_marks_by) .none kV5 dc5 pm5 an5 cd5 ct5), sl5⟩) (c5 : PySem.W.codeIn K cd5 "_law_marks_by" = true) (k5 : PySem.W.keepIn K (.ref f5) = true)
    (a6 : PySem.W.nsIn K mainGlobals "_law_asked_by" = some (some (.ref f6))) (l6 : K.lookup f6 = some ⟨oc6, od6, .func (PySem.W.fnOf "_law_asked_by" "_law_asked_by" (defArgs s_l_asked_by) (defBody s_l_asked_by) (defScope s_l_asked_by) .none kV6 dc6 pm6 an6 cd6 ct6), sl6⟩) (c6 : PySem.W.codeIn K cd6 "_law_asked_by" = true) (k6 : PySem.W.keepIn K (.ref f6) = true)
    (a7 : PySem.W.nsIn K mainGlobals "_law_after" = some (some (.ref f7))) (l7 : K.lookup f7 = some ⟨oc7, od7, .func (PySem.W.fnOf "_law_after" "_law_after" (defArgs s_l_after) (defBody s_l_after) (defScope s_l_after) .none kV7 dc7 pm7 an7 cd7 ct7), sl7⟩) (c7 : PySem.W.codeIn K cd7 "_law_after" = true) (k7 : PySem.W.keepIn K (.ref f7) = true)
    (a8 : PySem.W.nsIn K mainGlobals "_law_stands" = some (some (.ref f8))) (l8 : K.lookup f8 = some ⟨oc8, od8, .func (PySem.W.fnOf "_law_stands" "_law_stands" (defArgs s_l_stands) (defBody s_l_stands) (defScope s_l_stands) .none kV8 dc8 pm8 an8 cd8 ct8), sl8⟩) (c8 : PySem.W.codeIn K cd8 "_law_stands" = true) (k8 : PySem.W.keepIn K (.ref f8) = true)
    (a9 : PySem.W.nsIn K mainGlobals "tally_of" = some (some (.ref f9))) (l9 : K.lookup f9 = some ⟨oc9, od9, .func (PySem.W.fnOf "tally_of" "tally_of" (defArgs s_tally_of) (defBody s_tally_of) (defScope s_tally_of) .none kV9 dc9 pm9 an9 cd9 ct9), sl9⟩) (c9 : PySem.W.codeIn K cd9 "tally_of" = true) (k9 : PySem.W.keepIn K (.ref f9) = true)
    (a10 : PySem.W.nsIn K mainGlobals "is_found" = some (some (.ref f10))) (l10 : K.lookup f10 = some ⟨oc10, od10, .func (PySem.W.fnOf "is_found" "is_found" (defArgs s_is_found) (defBody s_is_found) (defScope s_is_found) .none kV10 dc10 pm10 an10 cd10 ct10), sl10⟩) (c10 : PySem.W.codeIn K cd10 "is_found" = true) (k10 : PySem.W.keepIn K (.ref f10) = true)
    (a11 : PySem.W.nsIn K mainGlobals "moved" = some (some (.ref f11))) (l11 : K.lookup f11 = some ⟨oc11, od11, .func (PySem.W.fnOf "moved" "moved" (defArgs s_moved) (defBody s_moved) (defScope s_moved) .none kV11 dc11 pm11 an11 cd11 ct11), sl11⟩) (c11 : PySem.W.codeIn K cd11 "moved" = true) (k11 : PySem.W.keepIn K (.ref f11) = true)
    (a12 : PySem.W.nsIn K mainGlobals "all_picks" = some (some (.ref f12))) (l12 : K.lookup f12 = some ⟨oc12, od12, .func (PySem.W.fnOf "all_picks" "all_picks" (defArgs s_all_picks) (defBody s_all_picks) (defScope s_all_picks) .none kV12 dc12 pm12 an12 cd12 ct12), sl12⟩) (c12 : PySem.W.codeIn K cd12 "all_picks" = true) (k12 : PySem.W.keepIn K (.ref f12) = true)
    (a13 : PySem.W.nsIn K mainGlobals "picks_that_tell" = some (some (.ref f13))) (l13 : K.lookup f13 = some ⟨oc13, od13, .func (PySem.W.fnOf "picks_that_tell" "picks_that_tell" (defArgs s_picks_that_tell) (defBody s_picks_that_tell) (defScope s_picks_that_tell) .none kV13 dc13 pm13 an13 cd13 ct13), sl13⟩) (c13 : PySem.W.codeIn K cd13 "picks_that_tell" = true) (k13 : PySem.W.keepIn K (.ref f13) = true)
    (a14 : PySem.W.nsIn K mainGlobals "need_of" = some (some (.ref f14))) (l14 : K.lookup f14 = some ⟨oc14, od14, .func (PySem.W.fnOf "need_of" "need_of" (defArgs s_need_of) (defBody s_need_of) (defScope s_need_of) .none kV14 dc14 pm14 an14 cd14 ct14), sl14⟩) (c14 : PySem.W.codeIn K cd14 "need_of" = true) (k14 : PySem.W.keepIn K (.ref f14) = true)
    (a15 : PySem.W.nsIn K mainGlobals "need_behind" = some (some (.ref f15))) (l15 : K.lookup f15 = some ⟨oc15, od15, .func (PySem.W.fnOf "need_behind" "need_behind" (defArgs s_need_behind) (defBody s_need_behind) (defScope s_need_behind) .none kV15 dc15 pm15 an15 cd15 ct15), sl15⟩) (c15 : PySem.W.codeIn K cd15 "need_behind" = true) (k15 : PySem.W.keepIn K (.ref f15) = true)
    (a16 : PySem.W.nsIn K mainGlobals "best_pick" = some (some (.ref f16))) (l16 : K.lookup f16 = some ⟨oc16, od16, .func (PySem.W.fnOf "best_pick" "best_pick" (defArgs s_best_pick) (defBody s_best_pick) (defScope s_best_pick) .none kV16 dc16 pm16 an16 cd16 ct16), sl16⟩) (c16 : PySem.W.codeIn K cd16 "best_pick" = true) (k16 : PySem.W.keepIn K (.ref f16) = true)
    (a17 : PySem.W.nsIn K mainGlobals "need" = some (some (.ref f17))) (l17 : K.lookup f17 = some ⟨oc17, od17, .func (PySem.W.fnOf "need" "need" (defArgs s_need) (defBody s_need) (defScope s_need) .none kV17 dc17 pm17 an17 cd17 ct17), sl17⟩) (c17 : PySem.W.codeIn K cd17 "need" = true) (k17 : PySem.W.keepIn K (.ref f17) = true)
    (a18 : PySem.W.nsIn K mainGlobals "_law_enough" = some (some (.ref f18))) (l18 : K.lookup f18 = some ⟨oc18, od18, .func (PySem.W.fnOf "_law_enough" "_law_enough" (defArgs s_l_enough) (defBody s_l_enough) (defScope s_l_enough) .none kV18 dc18 pm18 an18 cd18 ct18), sl18⟩) (c18 : PySem.W.codeIn K cd18 "_law_enough" = true) (k18 : PySem.W.keepIn K (.ref f18) = true)
    (a19 : PySem.W.nsIn K mainGlobals "law" = some (some (.ref f19))) (l19 : K.lookup f19 = some ⟨oc19, od19, .func (PySem.W.fnOf "law" "law" (defArgs s_law) (defBody s_law) (defScope s_law) .none kV19 dc19 pm19 an19 cd19 ct19), sl19⟩) (c19 : PySem.W.codeIn K cd19 "law" = true) (k19 : PySem.W.keepIn K (.ref f19) = true)
    (z0 : PySem.W.nsIn K mainGlobals "len" = some none)
    (z1 : PySem.W.nsIn K mainGlobals "isinstance" = some none)
    (z2 : PySem.W.nsIn K mainGlobals "bool" = some none)
    (z3 : PySem.W.nsIn K mainGlobals "int" = some none)
    (z4 : PySem.W.nsIn K mainGlobals "range" = some none)
    (z5 : PySem.W.nsIn K mainGlobals "tuple" = some none)
    (z6 : PySem.W.nsIn K mainGlobals "sum" = some none)
    (z7 : PySem.W.nsIn K mainGlobals "max" = some none)
    (z8 : PySem.W.nsIn K mainGlobals "zip" = some none)
    (z9 : PySem.W.nsIn K mainGlobals "sorted" = some none)
    (z10 : PySem.W.nsIn K mainGlobals "list" = some none)
    (z11 : PySem.W.nsIn K mainGlobals "min" = some none)
    {gv0 : Value} (cn0 : PySem.W.nsIn K mainGlobals "MOST_LIES" = some (some gv0)) (cr0 : RelV (.int 2) gv0)
    {gv1 : Value} (cn1 : PySem.W.nsIn K mainGlobals "MOST_THINGS" = some (some gv1)) (cr1 : RelV (.int 8) gv1)
    : ∃ fd : FuncData, (∀ (s : Shared) (v : Value), BindsTo s fd ⟨[v], []⟩ [("script", v)]) ∧ ∀ base : Heap, K.In base → base.Ns mainGlobals mg → LamF K mg base → FnOk l.prog w K mg base CX0 130 fa fd ["script"] (sp_law K) := by
  have e := hfa.symm.trans (PySem.W.mg_of X G a19)
  cases e
  have F0 := fun_mk (st := s_check_lies) l0 c0 k0
  have b0 := F0.binds (ps := ["lies"]) fun _ _ _ _ _ _ us hl => match us, hl with | [_], _ => rfl
  have T0 : Tx K mg "check_lies" ["lies"] s_check_lies := ⟨_, _, F0, b0, PySem.W.mg_of X G a0⟩
  have F1 := fun_mk (st := s_check_things) l1 c1 k1
  have b1 := F1.binds (ps := ["things"]) fun _ _ _ _ _ _ us hl => match us, hl with | [_], _ => rfl
  have T1 : Tx K mg "check_things" ["things"] s_check_things := ⟨_, _, F1, b1, PySem.W.mg_of X G a1⟩
  have F2 := fun_mk (st := s_check_marks) l2 c2 k2
  have b2 := F2.binds (ps := ["marks", "lies"]) fun _ _ _ _ _ _ us hl => match us, hl with | [_, _], _ => rfl
  have T2 : Tx K mg "check_marks" ["marks", "lies"] s_check_marks := ⟨_, _, F2, b2, PySem.W.mg_of X G a2⟩
  have F3 := fun_mk (st := s_l_cell_at) l3 c3 k3
  have b3 := F3.binds (ps := ["script", "k"]) fun _ _ _ _ _ _ us hl => match us, hl with | [_, _], _ => rfl
  have T3 : Tx K mg "_law_cell_at" ["script", "k"] s_l_cell_at := ⟨_, _, F3, b3, PySem.W.mg_of X G a3⟩
  have F4 := fun_mk (st := s_l_whole) l4 c4 k4
  have b4 := F4.binds (ps := ["found"]) fun _ _ _ _ _ _ us hl => match us, hl with | [_], _ => rfl
  have T4 : Tx K mg "_law_whole" ["found"] s_l_whole := ⟨_, _, F4, b4, PySem.W.mg_of X G a4⟩
  have F5 := fun_mk (st := s_l_marks_by) l5 c5 k5
  have b5 := F5.binds (ps := ["script", "sizes"]) fun _ _ _ _ _ _ us hl => match us, hl with | [_, _], _ => rfl
  have T5 : Tx K mg "_law_marks_by" ["script", "sizes"] s_l_marks_by := ⟨_, _, F5, b5, PySem.W.mg_of X G a5⟩
  have F6 := fun_mk (st := s_l_asked_by) l6 c6 k6
  have b6 := F6.binds (ps := ["cell", "things"]) fun _ _ _ _ _ _ us hl => match us, hl with | [_, _], _ => rfl
  have T6 : Tx K mg "_law_asked_by" ["cell", "things"] s_l_asked_by := ⟨_, _, F6, b6, PySem.W.mg_of X G a6⟩
  have F7 := fun_mk (st := s_l_after) l7 c7 k7
  have b7 := F7.binds (ps := ["marks", "lies", "asked", "yes"]) fun _ _ _ _ _ _ us hl => match us, hl with | [_, _, _, _], _ => rfl
  have T7 : Tx K mg "_law_after" ["marks", "lies", "asked", "yes"] s_l_after := ⟨_, _, F7, b7, PySem.W.mg_of X G a7⟩
  have F8 := fun_mk (st := s_l_stands) l8 c8 k8
  have b8 := F8.binds (ps := ["marks", "lies"]) fun _ _ _ _ _ _ us hl => match us, hl with | [_, _], _ => rfl
  have T8 : Tx K mg "_law_stands" ["marks", "lies"] s_l_stands := ⟨_, _, F8, b8, PySem.W.mg_of X G a8⟩
  have F9 := fun_mk (st := s_tally_of) l9 c9 k9
  have b9 := F9.binds (ps := ["marks", "lies"]) fun _ _ _ _ _ _ us hl => match us, hl with | [_, _], _ => rfl
  have T9 : Tx K mg "tally_of" ["marks", "lies"] s_tally_of := ⟨_, _, F9, b9, PySem.W.mg_of X G a9⟩
  have F10 := fun_mk (st := s_is_found) l10 c10 k10
  have b10 := F10.binds (ps := ["tally"]) fun _ _ _ _ _ _ us hl => match us, hl with | [_], _ => rfl
  have T10 : Tx K mg "is_found" ["tally"] s_is_found := ⟨_, _, F10, b10, PySem.W.mg_of X G a10⟩
  have F11 := fun_mk (st := s_moved) l11 c11 k11
  have b11 := F11.binds (ps := ["kept", "rising"]) fun _ _ _ _ _ _ us hl => match us, hl with | [_, _], _ => rfl
  have T11 : Tx K mg "moved" ["kept", "rising"] s_moved := ⟨_, _, F11, b11, PySem.W.mg_of X G a11⟩
  have F12 := fun_mk (st := s_all_picks) l12 c12 k12
  have b12 := F12.binds (ps := ["tally"]) fun _ _ _ _ _ _ us hl => match us, hl with | [_], _ => rfl
  have T12 : Tx K mg "all_picks" ["tally"] s_all_picks := ⟨_, _, F12, b12, PySem.W.mg_of X G a12⟩
  have F13 := fun_mk (st := s_picks_that_tell) l13 c13 k13
  have b13 := F13.binds (ps := ["tally"]) fun _ _ _ _ _ _ us hl => match us, hl with | [_], _ => rfl
  have T13 : Tx K mg "picks_that_tell" ["tally"] s_picks_that_tell := ⟨_, _, F13, b13, PySem.W.mg_of X G a13⟩
  have F14 := fun_mk (st := s_need_of) l14 c14 k14
  have b14 := F14.binds (ps := ["tally", "known"]) fun _ _ _ _ _ _ us hl => match us, hl with | [_, _], _ => rfl
  have T14 : Tx K mg "need_of" ["tally", "known"] s_need_of := ⟨_, _, F14, b14, PySem.W.mg_of X G a14⟩
  have F15 := fun_mk (st := s_need_behind) l15 c15 k15
  have b15 := F15.binds (ps := ["tally", "pick", "known"]) fun _ _ _ _ _ _ us hl => match us, hl with | [_, _, _], _ => rfl
  have T15 : Tx K mg "need_behind" ["tally", "pick", "known"] s_need_behind := ⟨_, _, F15, b15, PySem.W.mg_of X G a15⟩
  have F16 := fun_mk (st := s_best_pick) l16 c16 k16
  have b16 := F16.binds (ps := ["tally", "known"]) fun _ _ _ _ _ _ us hl => match us, hl with | [_, _], _ => rfl
  have T16 : Tx K mg "best_pick" ["tally", "known"] s_best_pick := ⟨_, _, F16, b16, PySem.W.mg_of X G a16⟩
  have F17 := fun_mk (st := s_need) l17 c17 k17
  have b17 := F17.binds (ps := ["marks", "lies"]) fun _ _ _ _ _ _ us hl => match us, hl with | [_, _], _ => rfl
  have T17 : Tx K mg "need" ["marks", "lies"] s_need := ⟨_, _, F17, b17, PySem.W.mg_of X G a17⟩
  have F18 := fun_mk (st := s_l_enough) l18 c18 k18
  have b18 := F18.binds (ps := ["marks", "lies", "many", "known"]) fun _ _ _ _ _ _ us hl => match us, hl with | [_, _, _, _], _ => rfl
  have T18 : Tx K mg "_law_enough" ["marks", "lies", "many", "known"] s_l_enough := ⟨_, _, F18, b18, PySem.W.mg_of X G a18⟩
  have F19 := fun_mk (st := s_law) l19 c19 k19
  have b19 := F19.binds (ps := ["script"]) fun _ _ _ _ _ _ us hl => match us, hl with | [_], _ => rfl
  have T19 : Tx K mg "law" ["script"] s_law := ⟨_, _, F19, b19, PySem.W.mg_of X G a19⟩
  have m_len := PySem.W.mg_none_of X G z0
  have m_isinstance := PySem.W.mg_none_of X G z1
  have m_bool := PySem.W.mg_none_of X G z2
  have m_int := PySem.W.mg_none_of X G z3
  have m_range := PySem.W.mg_none_of X G z4
  have m_tuple := PySem.W.mg_none_of X G z5
  have m_sum := PySem.W.mg_none_of X G z6
  have m_max := PySem.W.mg_none_of X G z7
  have m_zip := PySem.W.mg_none_of X G z8
  have m_sorted := PySem.W.mg_none_of X G z9
  have m_list := PySem.W.mg_none_of X G z10
  have m_min := PySem.W.mg_none_of X G z11
  have c_MOST_LIES : Cst mg "MOST_LIES" 2 := ⟨_, PySem.W.mg_of X G cn0, cr0⟩
  have c_MOST_THINGS : Cst mg "MOST_THINGS" 8 := ⟨_, PySem.W.mg_of X G cn1, cr1⟩
  refine ⟨PySem.W.fnOf "law" "law" (defArgs s_law) (defBody s_law) (defScope s_law) .none kV19 dc19 pm19 an19 cd19 ct19, fun s v => .of_eq rfl, fun base _ _ hLam => ?_⟩
  have E_check_lies := ok_check_lies (P := l.prog) (w := w) (base := base) (n := 0) T0 c_MOST_LIES
  have E_check_things := ok_check_things (P := l.prog) (w := w) (base := base) (n := 0) T1 c_MOST_THINGS
  have E_check_marks := ok_check_marks (P := l.prog) (w := w) (base := base) (n := 1) T2 (E_check_things.mono (by decide)) m_len
  have E_l_cell_at := ok_l_cell_at (P := l.prog) (w := w) (base := base) (n := 0) T3 m_len
  have E_l_whole := ok_l_whole (P := l.prog) (w := w) (base := base) (n := 0) T4 m_isinstance m_bool m_int
  have E_l_marks_by := ok_l_marks_by (P := l.prog) (w := w) (base := base) (n := 1) T5 (E_l_cell_at.mono (by decide)) m_range
  have E_l_asked_by := ok_l_asked_by (P := l.prog) (w := w) (base := base) (n := 0) T6 m_range
  have E_l_after := ok_l_after (P := l.prog) (w := w) (base := base) (n := 0) T7 m_range m_len
  have E_l_stands := ok_l_stands (P := l.prog) (w := w) (base := base) (n := 0) T8 m_range m_len
  have E_tally_of := ok_tally_of (P := l.prog) (w := w) (base := base) (n := 0) T9 m_tuple m_range
  have E_is_found := ok_is_found (P := l.prog) (w := w) (base := base) (n := 0) T10 m_sum
  have E_moved := ok_moved (P := l.prog) (w := w) (base := base) (n := 0) T11 m_tuple m_range m_len
  have E_all_picks := ok_all_picks (P := l.prog) (w := w) (base := base) (n := 0) T12 m_range
  have E_picks_that_tell := ok_picks_that_tell (P := l.prog) (w := w) (base := base) (n := 1) T13 (E_all_picks.mono (by decide)) m_sum
  have E_need_of := My.rec_need (P := l.prog) (w := w) (base := base) T14 T15 T16 (E_is_found.mono (by decide)) (E_moved.mono (by decide)) (E_picks_that_tell.mono (by decide)) m_min m_max m_zip hLam 25
  have E_best_pick := My.rec_best (P := l.prog) (w := w) (base := base) T14 T15 T16 (E_is_found.mono (by decide)) (E_moved.mono (by decide)) (E_picks_that_tell.mono (by decide)) m_min m_max m_zip hLam
  have E_need := ok_need (P := l.prog) (w := w) (base := base) (n := 128) T17 (E_need_of.mono (by decide)) (E_tally_of.mono (by decide)) (E_check_marks.mono (by decide)) (E_check_lies.mono (by decide))
  have E_l_enough := My.rec_enough (P := l.prog) (w := w) (base := base) T18 (E_l_stands.mono (by decide)) (E_l_asked_by.mono (by decide)) (E_l_after.mono (by decide)) m_len m_tuple m_sorted m_range 25
  have E_law := ok_law (P := l.prog) (w := w) (base := base) (n := 129) T19 (E_need.mono (by decide)) (E_l_whole.mono (by decide)) (E_l_enough.mono (by decide)) (E_l_marks_by.mono (by decide)) m_list m_sorted
  obtain ⟨f, fd, F, _, _, m, oc, od, osl, lk⟩ := E_law
  have e2 := m.symm.trans (PySem.W.mg_of X G a19)
  cases e2
  rw [l19] at lk
  cases lk
  exact F
theorem walk {l : PySem.W.OpenLaw} {q : Program} {loose : List Str} {XP : (Str → Option Value) → Heap → Prop} {YP : World → Heap → Prop} {d : DefRec} {K : Params → PySem.W.Frag} {ts : List Addr} (hn : l.most = some 63) (hdf : d.params.defaults = [])
    (hY : ∀ (w : World) (h : Heap), YP w h → (K w.params).In h) (hYt : ∀ (w : World) (h : Heap), YP w h → ∀ P ∈ ts, h.get? P = some (PySem.W.tabObj #[]))
    (h1 : ∀ w : World, PySem.W.codeHdIn (K w.params) (tabCP (K w.params)).1 (tabCP (K w.params)).2 = true) (h2 : ∀ w : World, ((K w.params).lookup (tabCP (K w.params)).2).isNone = true) (h3 : ∀ w : World, ts.contains (tabCP (K w.params)).2 = true)
    (F : ∀ (w : World) (mg : Str → Option Value) (fa : Addr) (h : Heap), (K w.params).In h → h.Ns mainGlobals mg → mg d.name = some (.ref fa) →
      ∃ fd : FuncData, (∀ (s : Shared) (u : Value), BindsTo s fd ⟨[u], []⟩ [("script", u)]) ∧ ∀ base : Heap, (K w.params).In base → base.Ns mainGlobals mg → LamF (K w.params) mg base → FnOk l.prog w (K w.params) mg base CX0 130 fa fd ["script"] (sp_law (K w.params))) :
    PySem.W.WalkO q loose XP YP l.row.toRowW d [] (fun f vs => PySem.call f vs) :=
  L2.walk_ofT (n := 63) (k := 130) (x := "script") (CX := fun _ => CX0) (sp := fun w => sp_law (K w.params)) hn (by decide) hdf ⟨rfl, by decide, by decide⟩ hY hYt h1 h2 h3 F (fun _ _ a ns hl hT hS => ⟨a, ns, rfl, hS, hl, hT, fun _ => rfl⟩) fun _ _ _ _ _ z => z
end My
open PySem PySem.W PyProof.Rows
set_option maxRecDepth 100000 in
set_option maxHeartbeats 0 in
theorem PySem.Challenge.cw_lieask_k03_needs_of_few_holds : PySem.Challenge.rw_lieask_k03_needs_of_few.Holds := by
  w_on; o_law; k_head; (case hw => w_witness2)
  k_fill
  refine My.walk (l := PySem.Challenge.rw_lieask_k03_needs_of_few) rfl rfl (fun w h Y => PySem.W.km_in_of Y) (fun w h Y => PySem.W.km_tabs_of Y) (fun w => by kernel_rfl) (fun w => by kernel_rfl) (fun w => by kernel_rfl) ?F
  case F =>
    intro w mg fa h KX G hmg
    refine' My.all_mk KX G hmg ?a0 ?l0 ?c0 ?k0 ?a1 ?l1 ?c1 ?k1 ?a2 ?l2 ?c2 ?k2 ?a3 ?l3 ?c3 ?k3 ?a4 ?l4 ?c4 ?k4 ?a5 ?l5 ?c5 ?k5 ?a6 ?l6 ?c6 ?k6 ?a7 ?l7 ?c7 ?k7 ?a8 ?l8 ?c8 ?k8 ?a9 ?l9 ?c9 ?k9 ?a10 ?l10 ?c10 ?k10 ?a11 ?l11 ?c11 ?k11 ?a12 ?l12 ?c12 ?k12 ?a13 ?l13 ?c13 ?k13 ?a14 ?l14 ?c14 ?k14 ?a15 ?l15 ?c15 ?k15 ?a16 ?l16 ?c16 ?k16 ?a17 ?l17 ?c17 ?k17 ?a18 ?l18 ?c18 ?k18 ?a19 ?l19 ?c19 ?k19 ?z0 ?z1 ?z2 ?z3 ?z4 ?z5 ?z6 ?z7 ?z8 ?z9 ?z10 ?z11 ?cn0 ?cr0 ?cn1 ?cr1
    (case a0 => k_is)
    (case l0 => k_is)
    (case c0 => k_is)
    (case k0 => k_is)
    (case a1 => k_is)
    (case l1 => k_is)
    (case c1 => k_is)
    (case k1 => k_is)
    (case a2 => k_is)
    (case l2 => k_is)
    (case c2 => k_is)
    (case k2 => k_is)
    (case a3 => k_is)
    (case l3 => k_is)
    (case c3 => k_is)
    (case k3 => k_is)
    (case a4 => k_is)
    (case l4 => k_is)
    (case c4 => k_is)
    (case k4 => k_is)
    (case a5 => k_is)
    (case l5 => k_is)
    (case c5 => k_is)
    (case k5 => k_is)
    (case a6 => k_is)
    (case l6 => k_is)
    (case c6 => k_is)
    (case k6 => k_is)
    (case a7 => k_is)
    (case l7 => k_is)
    (case c7 => k_is)
    (case k7 => k_is)
    (case a8 => k_is)
    (case l8 => k_is)
    (case c8 => k_is)
    (case k8 => k_is)
    (case a9 => k_is)
    (case l9 => k_is)
    (case c9 => k_is)
    (case k9 => k_is)
    (case a10 => k_is)
    (case l10 => k_is)
    (case c10 => k_is)
    (case k10 => k_is)
    (case a11 => k_is)
    (case l11 => k_is)
    (case c11 => k_is)
    (case k11 => k_is)
    (case a12 => k_is)
    (case l12 => k_is)
    (case c12 => k_is)
    (case k12 => k_is)
    (case a13 => k_is)
    (case l13 => k_is)
    (case c13 => k_is)
    (case k13 => k_is)
    (case a14 => k_is)
    (case l14 => k_is)
    (case c14 => k_is)
    (case k14 => k_is)
    (case a15 => k_is)
    (case l15 => k_is)
    (case c15 => k_is)
    (case k15 => k_is)
    (case a16 => k_is)
    (case l16 => k_is)
    (case c16 => k_is)
    (case k16 => k_is)
    (case a17 => k_is)
    (case l17 => k_is)
    (case c17 => k_is)
    (case k17 => k_is)
    (case a18 => k_is)
    (case l18 => k_is)
    (case c18 => k_is)
    (case k18 => k_is)
    (case a19 => k_is)
    (case l19 => k_is)
    (case c19 => k_is)
    (case k19 => k_is)
    (case z0 => k_is)
    (case z1 => k_is)
    (case z2 => k_is)
    (case z3 => k_is)
    (case z4 => k_is)
    (case z5 => k_is)
    (case z6 => k_is)
    (case z7 => k_is)
    (case z8 => k_is)
    (case z9 => k_is)
    (case z10 => k_is)
    (case z11 => k_is)
    (case cn0 => k_is)
    (case cr0 => exact ⟨_, rfl⟩)
    (case cn1 => k_is)
    (case cr1 => exact ⟨_, rfl⟩)
#print axioms PySem.Challenge.cw_lieask_k03_needs_of_few_holds
