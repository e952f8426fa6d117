/- What Builder.Add makes of a node, in plain words; and how that tells a graph. -/
import Derived.Test.YtlcmllmphpllbaaGreatDoorXe
namespace Go.Proofs.YtlcmllmphpllbaaGreatDoor
open Go.RowKit

/-- the shape of a node behind ns, if it may be used so -/
def shapeOpt (ns : List Nd) (n : Nd) : Option (Int × Int) :=
  if n.op = 1 then (if (0 ≤ n.k ∧ n.k < 8) ∧ (sideB n.rows && sideB n.cols) = true then some (n.rows, n.cols) else none)
  else if n.op = 2 then (if (sideB n.rows && sideB n.cols) = true then some (n.rows, n.cols) else none)
  else if n.op = 6 then some ((nth ns n.a).rows, (nth ns n.a).cols)
  else if n.op = 8 then some ((nth ns n.a).cols, (nth ns n.a).rows)
  else if n.op = 7 then (if ((nth ns n.a).cols == (nth ns n.b).rows) = true then some ((nth ns n.a).rows, (nth ns n.b).cols) else none)
  else if ((nth ns n.a).rows == (nth ns n.b).rows && (nth ns n.a).cols == (nth ns n.b).cols) = true then some ((nth ns n.a).rows, (nth ns n.a).cols) else none
def aheadAll (n : Nd) (L : Nat) : Bool := (partsTo n.op n (saysZ n.op).length).all (fun x => aheadB x L)
/-- what Add makes of a node and of the inputs' shapes -/
def addZ (ns : List Nd) (ins : Nat → Int × Int) (n : Nd) : Option (Nd × (Nat → Int × Int)) :=
  if aheadAll n ns.length = false then none else
  match shapeOpt ns n with
  | none => none
  | some (r, c) =>
    if n.op = 1 then
      (if ins n.k.toNat = (0, 0) then some (⟨n.op, n.a, n.b, n.k, r, c⟩, fun k => if k = n.k.toNat then (r, c) else ins k)
       else if ins n.k.toNat = (r, c) then some (⟨n.op, n.a, n.b, n.k, r, c⟩, ins) else none)
    else some (⟨n.op, n.a, n.b, n.k, r, c⟩, ins)
def knownP (op : Int) : Prop := op = 1 ∨ op = 2 ∨ op = 3 ∨ op = 4 ∨ op = 5 ∨ op = 6 ∨ op = 7 ∨ op = 8
def TieIn (ins : Nat → Int × Int) (l : List Nd) : Prop :=
  ∀ k : Nat, k < 8 → (ins k = (0, 0) ∧ ∀ x, x ∈ l → x.op = 1 → x.k ≠ k) ∨ (ins k ≠ (0, 0) ∧ (∃ x, x ∈ l ∧ x.op = 1 ∧ x.k = k) ∧ ∀ x, x ∈ l → x.op = 1 → x.k = k → (x.rows, x.cols) = ins k)
theorem nth_take (ns : List Nd) (m : Nat) (x : Int) (h : 0 ≤ x ∧ x < m) : nth (ns.take m) x = nth ns x := by
  unfold nth
  have : x.toNat < m := by omega
  simp [List.getD_eq_getElem?_getD, this]
/-- what a node's line says, by its op -/
def saidOf (n : Nd) : Nd := saidTo n.op n (saysZ n.op).length
theorem TieIn.skip {ins : Nat → Int × Int} {ns : List Nd} {m : Nat} (hm : m < ns.length) (h : TieIn ins (ns.take m)) (ho : ¬ ns[m].op = 1) : TieIn ins (ns.take (m + 1)) := by
  intro k hk
  rw [List.take_succ_eq_append_getElem hm]
  rcases h k hk with ⟨h1, h2⟩ | ⟨h1, ⟨x, h2, h3⟩, h4⟩
  · refine .inl ⟨h1, fun x hx => ?_⟩
    rcases List.mem_append.1 hx with hx | hx
    · exact h2 x hx
    · have := List.mem_singleton.1 hx
      subst this
      exact fun e => absurd e ho
  · refine .inr ⟨h1, ⟨x, List.mem_append.2 (.inl h2), h3⟩, fun x hx => ?_⟩
    rcases List.mem_append.1 hx with hx | hx
    · exact h4 x hx
    · have := List.mem_singleton.1 hx
      subst this
      exact fun e => absurd e ho
theorem TieIn.there {ins : Nat → Int × Int} {ns : List Nd} {m : Nat} (hm : m < ns.length) (h : TieIn ins (ns.take m)) (hz : ins ns[m].k.toNat ≠ (0, 0)) (he : ins ns[m].k.toNat = (ns[m].rows, ns[m].cols)) : TieIn ins (ns.take (m + 1)) := by
  intro k hk
  rw [List.take_succ_eq_append_getElem hm]
  rcases h k hk with ⟨h1, h2⟩ | ⟨h1, ⟨x, h2, h3⟩, h4⟩
  · refine .inl ⟨h1, fun x hx => ?_⟩
    rcases List.mem_append.1 hx with hx | hx
    · exact h2 x hx
    · have := List.mem_singleton.1 hx
      subst this
      intro _ e'
      rw [e'] at hz
      exact hz (by simpa using h1)
  · refine .inr ⟨h1, ⟨x, List.mem_append.2 (.inl h2), h3⟩, fun x hx => ?_⟩
    rcases List.mem_append.1 hx with hx | hx
    · exact h4 x hx
    · have := List.mem_singleton.1 hx
      subst this
      intro _ e'
      rw [← he, e']; simp
theorem TieIn.new {ins : Nat → Int × Int} {ns : List Nd} {m : Nat} (hm : m < ns.length) (h : TieIn ins (ns.take m)) (ho : ns[m].op = 1) (hk0 : 0 ≤ ns[m].k) (hz : ins ns[m].k.toNat = (0, 0)) (he : (ns[m].rows, ns[m].cols) ≠ (0, 0)) :
    TieIn (fun k => if k = ns[m].k.toNat then (ns[m].rows, ns[m].cols) else ins k) (ns.take (m + 1)) := by
  intro k hk
  rw [List.take_succ_eq_append_getElem hm]
  by_cases e : k = ns[m].k.toNat
  · have hkk : ns[m].k = (k : Int) := by omega
    simp only [if_pos e]
    refine .inr ⟨he, ⟨ns[m], List.mem_append.2 (.inr (List.mem_singleton.2 rfl)), ho, hkk⟩, fun x hx h1 h2 => ?_⟩
    rcases List.mem_append.1 hx with hx | hx
    · rcases h k hk with ⟨_, h4⟩ | ⟨h4, _⟩
      · exact absurd h2 (h4 x hx h1)
      · rw [e] at h4; exact absurd hz h4
    · have := List.mem_singleton.1 hx
      subst this; rfl
  · have hkk : ns[m].k ≠ (k : Int) := by omega
    simp only [if_neg e]
    rcases h k hk with ⟨h1, h2⟩ | ⟨h1, ⟨x, h2, h3⟩, h4⟩
    · refine .inl ⟨h1, fun x hx => ?_⟩
      rcases List.mem_append.1 hx with hx | hx
      · exact h2 x hx
      · have := List.mem_singleton.1 hx
        subst this
        exact fun _ => hkk
    · refine .inr ⟨h1, ⟨x, List.mem_append.2 (.inl h2), h3⟩, fun x hx => ?_⟩
      rcases List.mem_append.1 hx with hx | hx
      · exact h4 x hx
      · have := List.mem_singleton.1 hx
        subst this
        exact fun _ e' => absurd e' hkk
theorem clash_no {ins : Nat → Int × Int} {l : List Nd} {n : Nd} (h : TieIn ins l) (hk : 0 ≤ n.k ∧ n.k < 8) (hc : l.any (clash n) = false) (hz : ins n.k.toNat ≠ (0, 0)) : ins n.k.toNat = (n.rows, n.cols) := by
  have hkk : n.k = (n.k.toNat : Int) := by omega
  rcases h n.k.toNat (by omega) with ⟨h1, _⟩ | ⟨_, ⟨x, h2, h3, h3'⟩, h4⟩
  · exact absurd h1 hz
  · rw [← h4 x h2 h3 h3']
    rw [List.any_eq_false] at hc
    have := hc x h2
    rw [← hkk] at h3'
    simp [clash, h3, h3'] at this
    simp [this]
theorem clash_yes {ins : Nat → Int × Int} {l : List Nd} {n : Nd} (h : TieIn ins l) (hk : 0 ≤ n.k ∧ n.k < 8) (hc : l.any (clash n) = true) : ins n.k.toNat ≠ (0, 0) ∧ ins n.k.toNat ≠ (n.rows, n.cols) := by
  have hkk : n.k = (n.k.toNat : Int) := by omega
  rw [List.any_eq_true] at hc
  obtain ⟨x, hx, hc⟩ := hc
  simp only [clash, Bool.and_eq_true, beq_iff_eq, Bool.or_eq_true, bne_iff_ne, ne_eq] at hc
  rcases h n.k.toNat (by omega) with ⟨_, h2⟩ | ⟨h1, _, h4⟩
  · exact absurd (hc.1.2.trans hkk) (h2 x hx hc.1.1)
  · refine ⟨h1, ?_⟩
    rw [← h4 x hx hc.1.1 (hc.1.2.trans hkk)]
    intro e
    have e1 := congrArg Prod.fst e
    have e2 := congrArg Prod.snd e
    simp only at e1 e2
    rcases hc.2 with hc | hc
    · exact hc e1
    · exact hc e2
theorem said1 (a b k r c : Int) : saidOf ⟨1, a, b, k, r, c⟩ = ⟨1, 0, 0, k, r, c⟩ := rfl
theorem said2 (a b k r c : Int) : saidOf ⟨2, a, b, k, r, c⟩ = ⟨2, 0, 0, k, r, c⟩ := rfl
theorem said3 (a b k r c : Int) : saidOf ⟨3, a, b, k, r, c⟩ = ⟨3, a, b, 0, 0, 0⟩ := rfl
theorem said4 (a b k r c : Int) : saidOf ⟨4, a, b, k, r, c⟩ = ⟨4, a, b, 0, 0, 0⟩ := rfl
theorem said5 (a b k r c : Int) : saidOf ⟨5, a, b, k, r, c⟩ = ⟨5, a, b, 0, 0, 0⟩ := rfl
theorem said6 (a b k r c : Int) : saidOf ⟨6, a, b, k, r, c⟩ = ⟨6, a, 0, k, 0, 0⟩ := rfl
theorem said7 (a b k r c : Int) : saidOf ⟨7, a, b, k, r, c⟩ = ⟨7, a, b, 0, 0, 0⟩ := rfl
theorem said8 (a b k r c : Int) : saidOf ⟨8, a, b, k, r, c⟩ = ⟨8, a, 0, 0, 0, 0⟩ := rfl
theorem ahead1 (a b k r c : Int) (L : Nat) : aheadAll ⟨1, a, b, k, r, c⟩ L = true := rfl
theorem ahead2 (a b k r c : Int) (L : Nat) : aheadAll ⟨2, a, b, k, r, c⟩ L = true := rfl
theorem ahead3 (a b k r c : Int) (L : Nat) : aheadAll ⟨3, a, b, k, r, c⟩ L = (aheadB a L && (aheadB b L && true)) := rfl
theorem ahead4 (a b k r c : Int) (L : Nat) : aheadAll ⟨4, a, b, k, r, c⟩ L = (aheadB a L && (aheadB b L && true)) := rfl
theorem ahead5 (a b k r c : Int) (L : Nat) : aheadAll ⟨5, a, b, k, r, c⟩ L = (aheadB a L && (aheadB b L && true)) := rfl
theorem ahead6 (a b k r c : Int) (L : Nat) : aheadAll ⟨6, a, b, k, r, c⟩ L = (aheadB a L && true) := rfl
theorem ahead7 (a b k r c : Int) (L : Nat) : aheadAll ⟨7, a, b, k, r, c⟩ L = (aheadB a L && (aheadB b L && true)) := rfl
theorem ahead8 (a b k r c : Int) (L : Nat) : aheadAll ⟨8, a, b, k, r, c⟩ L = (aheadB a L && true) := rfl
theorem core1 {ns : List Nd} {m : Nat} {ins : Nat → Int × Int} {a b k r c : Int} {T : (Nat → Int × Int) → Prop}
    (hthere : ins k.toNat ≠ (0, 0) → ins k.toNat = (r, c) → T ins) (hnew : 0 ≤ k → ins k.toNat = (0, 0) → (r, c) ≠ ((0 : Int), (0 : Int)) → T (fun j => if j = k.toNat then (r, c) else ins j))
    (hcn : 0 ≤ k ∧ k < 8 → (ns.take m).any (clash ⟨1, a, b, k, r, c⟩) = false → ins k.toNat ≠ (0, 0) → ins k.toNat = (r, c))
    (hcy : 0 ≤ k ∧ k < 8 → (ns.take m).any (clash ⟨1, a, b, k, r, c⟩) = true → ins k.toNat ≠ (0, 0) ∧ ins k.toNat ≠ (r, c)) :
    (nodeOk ns m ⟨1, a, b, k, r, c⟩ = true → ∃ ins', addZ (ns.take m) ins (saidOf ⟨1, a, b, k, r, c⟩) = some (⟨1, a, b, k, r, c⟩, ins') ∧ T ins') ∧
    (nodeOk ns m ⟨1, a, b, k, r, c⟩ = false → ∀ n' ins', addZ (ns.take m) ins (saidOf ⟨1, a, b, k, r, c⟩) = some (n', ins') → n' ≠ ⟨1, a, b, k, r, c⟩) := by
  have e1 : nodeOk ns m ⟨1, a, b, k, r, c⟩ = (sideB r && sideB c && decide (0 ≤ k) && decide (k < 8) && !(ns.take m).any (clash ⟨1, a, b, k, r, c⟩) && b == 0 && a == 0) := by
    simp [nodeOk, placedZ, partsZ, countedB]
  have e2 : addZ (ns.take m) ins (saidOf ⟨1, a, b, k, r, c⟩) = (if (0 ≤ k ∧ k < 8) ∧ (sideB r && sideB c) = true then
      (if ins k.toNat = (0, 0) then some (⟨1, 0, 0, k, r, c⟩, fun j => if j = k.toNat then (r, c) else ins j) else if ins k.toNat = (r, c) then some (⟨1, 0, 0, k, r, c⟩, ins) else none) else none) := by
    rw [said1, addZ, ahead1]
    simp only [shapeOpt]
    by_cases h : (0 ≤ k ∧ k < 8) ∧ (sideB r && sideB c) = true
    · simp only [if_pos h]; simp
    · simp only [if_neg h]; simp
  rw [e1, e2]
  generalize hcl : (ns.take m).any (clash ⟨1, a, b, k, r, c⟩) = cl at *
  by_cases h : (0 ≤ k ∧ k < 8) ∧ (sideB r && sideB c) = true
  · rw [if_pos h]
    obtain ⟨⟨k0, k8⟩, hs⟩ := h
    rw [hs]
    have hrc : (r, c) ≠ ((0 : Int), (0 : Int)) := by
      intro e
      have : r = 0 := congrArg Prod.fst e
      subst this
      simp [sideB] at hs
    simp only [k0, k8, decide_true, Bool.true_and]
    cases cl
    · have hcn := hcn ⟨k0, k8⟩ rfl
      constructor
      · intro h
        have : b = 0 ∧ a = 0 := by simpa using h
        obtain ⟨rfl, rfl⟩ := this
        by_cases hz : ins k.toNat = (0, 0)
        · exact ⟨_, by rw [if_pos hz], hnew k0 hz hrc⟩
        · exact ⟨_, by rw [if_neg hz, if_pos (hcn hz)], hthere hz (hcn hz)⟩
      · intro h n' ins' e e'
        subst e'
        have hab : ¬ (b = 0 ∧ a = 0) := by simpa using h
        apply hab
        by_cases hz : ins k.toNat = (0, 0)
        · rw [if_pos hz] at e
          have := congrArg (fun o => o.map (fun p => (p.1.b, p.1.a))) e
          simp at this
          exact ⟨this.1.symm, this.2.symm⟩
        · rw [if_neg hz, if_pos (hcn hz)] at e
          have := congrArg (fun o => o.map (fun p => (p.1.b, p.1.a))) e
          simp at this
          exact ⟨this.1.symm, this.2.symm⟩
    · obtain ⟨c1, c2⟩ := hcy ⟨k0, k8⟩ rfl
      constructor
      · intro h; simp at h
      · intro _ n' ins' e
        rw [if_neg c1, if_neg c2] at e
        cases e
  · rw [if_neg h]
    constructor
    · intro h'
      exfalso
      apply h
      simp only [Bool.and_eq_true, decide_eq_true_eq] at h' ⊢
      exact ⟨⟨h'.1.1.1.1.2, h'.1.1.1.2⟩, h'.1.1.1.1.1⟩
    · intro _ n' ins' e
      cases e
theorem end_of {x y : Nd} {ins : Nat → Int × Int} (p : Bool) (h : p = true ↔ x = y) : (p = true → some (x, ins) = some (y, ins)) ∧ (p = false → ∀ n' ins', some (x, ins) = some (n', ins') → n' ≠ y) := by
  constructor
  · intro e; rw [h.1 e]
  · intro e n' ins' e1 e2
    simp only [Option.some.injEq, Prod.mk.injEq] at e1
    rw [h.2 (e1.1.trans e2)] at e
    cases e
theorem end_no {y : Nd} {ins : Nat → Int × Int} (p : Bool) (h : p = false) : (p = true → (none : Option (Nd × (Nat → Int × Int))) = some (y, ins)) ∧ (p = false → ∀ n' ins', (none : Option (Nd × (Nat → Int × Int))) = some (n', ins') → n' ≠ y) := by
  constructor
  · intro e; rw [h] at e; cases e
  · intro _ _ _ e; cases e
theorem core_two (op : Int) (ho : op = 3 ∨ op = 4 ∨ op = 5 ∨ op = 7) {ns : List Nd} {m : Nat} {ins : Nat → Int × Int} {a b k r c : Int} (hlen : (ns.take m).length = m) :
    (nodeOk ns m ⟨op, a, b, k, r, c⟩ = true → addZ (ns.take m) ins (saidOf ⟨op, a, b, k, r, c⟩) = some (⟨op, a, b, k, r, c⟩, ins)) ∧ (nodeOk ns m ⟨op, a, b, k, r, c⟩ = false → ∀ n' ins', addZ (ns.take m) ins (saidOf ⟨op, a, b, k, r, c⟩) = some (n', ins') → n' ≠ ⟨op, a, b, k, r, c⟩) := by
  have hsaid : saidOf ⟨op, a, b, k, r, c⟩ = ⟨op, a, b, 0, 0, 0⟩ := by rcases ho with rfl | rfl | rfl | rfl <;> rfl
  have hah : aheadAll ⟨op, a, b, 0, 0, 0⟩ m = (aheadB a m && (aheadB b m && true)) := by rcases ho with rfl | rfl | rfl | rfl <;> rfl
  have hp : partsZ op = 2 := by rcases ho with rfl | rfl | rfl | rfl <;> rfl
  have hc : countedB op = false := by rcases ho with rfl | rfl | rfl | rfl <;> rfl
  have h1 : ¬ op = 1 := by omega
  rw [hsaid, addZ, hlen, hah]
  cases ha : aheadB a m
  · simp only [Bool.false_and, if_true]
    exact end_no _ (by simp [nodeOk, placedZ, hp, ha])
  cases hb : aheadB b m
  · simp only [Bool.false_and, Bool.and_false, if_true]
    exact end_no _ (by simp [nodeOk, placedZ, hp, hb, ha])
  have hna := nth_take ns m a (by simpa [aheadB] using ha)
  have hnb := nth_take ns m b (by simpa [aheadB] using hb)
  simp only [Bool.and_self, Bool.true_eq_false, if_false, h1]
  have e3 : nodeOk ns m ⟨op, a, b, k, r, c⟩ = ((shapeZ ⟨op, a, b, k, r, c⟩ (nth ns a) (nth ns b)).2.2 && (shapeZ ⟨op, a, b, k, r, c⟩ (nth ns a) (nth ns b)).1 == r && (shapeZ ⟨op, a, b, k, r, c⟩ (nth ns a) (nth ns b)).2.1 == c && k == 0) := by
    simp [nodeOk, placedZ, hp, ha, hb, h1, hc]
  rw [e3]
  generalize nth ns a = x at *
  generalize nth ns b = y at *
  by_cases h7 : op = 7
  · subst h7
    simp only [shapeOpt, shapeZ, hna, hnb]
    cases hq : (x.cols == y.rows)
    · simp
    · simp
      refine ⟨fun e1 e2 e3 => ⟨e3.symm, e1, e2⟩, fun h e1 e2 e3 => h e2 e3 e1.symm⟩
  · have e4 : shapeOpt (ns.take m) ⟨op, a, b, 0, 0, 0⟩ = if (x.rows == y.rows && x.cols == y.cols) = true then some (x.rows, x.cols) else none := by
      simp only [shapeOpt, hna, hnb, h1, h7, if_false, show ¬ op = 2 by omega, show ¬ op = 6 by omega, show ¬ op = 8 by omega]
    have e5 : shapeZ ⟨op, a, b, k, r, c⟩ x y = (x.rows, x.cols, x.rows == y.rows && x.cols == y.cols) := by
      simp only [shapeZ, show ¬ (op = 1 ∨ op = 2) by omega, show (op = 3 ∨ op = 4 ∨ op = 5) by omega, if_false, if_true]
    rw [e4, e5]
    cases hq : (x.rows == y.rows && x.cols == y.cols)
    · simp
    · simp
      refine ⟨fun e1 e2 e3 => ⟨e3.symm, e1, e2⟩, fun h e1 e2 e3 => h e2 e3 e1.symm⟩
theorem core_one (op : Int) (ho : op = 6 ∨ op = 8) {ns : List Nd} {m : Nat} {ins : Nat → Int × Int} {a b k r c : Int} (hlen : (ns.take m).length = m) :
    (nodeOk ns m ⟨op, a, b, k, r, c⟩ = true → addZ (ns.take m) ins (saidOf ⟨op, a, b, k, r, c⟩) = some (⟨op, a, b, k, r, c⟩, ins)) ∧ (nodeOk ns m ⟨op, a, b, k, r, c⟩ = false → ∀ n' ins', addZ (ns.take m) ins (saidOf ⟨op, a, b, k, r, c⟩) = some (n', ins') → n' ≠ ⟨op, a, b, k, r, c⟩) := by
  have hna := fun h => nth_take ns m a h
  rcases ho with rfl | rfl
  · rw [said6, addZ, hlen, ahead6]
    cases ha : aheadB a m
    · simp only [Bool.false_and, if_true]
      exact end_no _ (by simp [nodeOk, placedZ, partsZ, ha])
    have hna := hna (by simpa [aheadB] using ha)
    simp only [shapeOpt, hna]
    have e3 : nodeOk ns m ⟨6, a, b, k, r, c⟩ = ((nth ns a).rows == r && (nth ns a).cols == c && b == 0) := by
      simp [nodeOk, placedZ, partsZ, shapeZ, ha, countedB]
    rw [e3]
    simp
    refine ⟨fun e1 e2 e3 => ⟨e3.symm, e1, e2⟩, fun h e1 e2 e3 => h e2 e3 e1.symm⟩
  · rw [said8, addZ, hlen, ahead8]
    cases ha : aheadB a m
    · simp only [Bool.false_and, if_true]
      exact end_no _ (by simp [nodeOk, placedZ, partsZ, ha])
    have hna := hna (by simpa [aheadB] using ha)
    simp only [shapeOpt, hna]
    have e3 : nodeOk ns m ⟨8, a, b, k, r, c⟩ = ((nth ns a).cols == r && (nth ns a).rows == c && b == 0 && k == 0) := by
      simp [nodeOk, placedZ, partsZ, shapeZ, ha, countedB]
    rw [e3]
    simp
    refine ⟨fun e1 e2 e3 e4 => ⟨e3.symm, e4.symm, e1, e2⟩, fun h e1 e2 e3 e4 => h e3 e4 e1.symm e2.symm⟩
theorem core2 {ns : List Nd} {m : Nat} {ins : Nat → Int × Int} {a b k r c : Int} :
    (nodeOk ns m ⟨2, a, b, k, r, c⟩ = true → addZ (ns.take m) ins (saidOf ⟨2, a, b, k, r, c⟩) = some (⟨2, a, b, k, r, c⟩, ins)) ∧ (nodeOk ns m ⟨2, a, b, k, r, c⟩ = false → ∀ n' ins', addZ (ns.take m) ins (saidOf ⟨2, a, b, k, r, c⟩) = some (n', ins') → n' ≠ ⟨2, a, b, k, r, c⟩) := by
  rw [said2, addZ, ahead2]
  have e3 : nodeOk ns m ⟨2, a, b, k, r, c⟩ = (sideB r && sideB c && b == 0 && a == 0) := by
    simp [nodeOk, placedZ, partsZ, shapeZ, countedB]
  rw [e3]
  simp only [shapeOpt]
  cases hs : (sideB r && sideB c)
  · simp
  · simp
    refine ⟨fun e1 e2 => ⟨e2.symm, e1.symm⟩, fun h e1 e2 => h e2.symm e1.symm⟩
theorem core_rest {ns : List Nd} {m : Nat} {ins : Nat → Int × Int} {n : Nd} (hlen : (ns.take m).length = m) (ho : knownP n.op) (h1 : ¬ n.op = 1) :
    (nodeOk ns m n = true → addZ (ns.take m) ins (saidOf n) = some (n, ins)) ∧ (nodeOk ns m n = false → ∀ n' ins', addZ (ns.take m) ins (saidOf n) = some (n', ins') → n' ≠ n) := by
  obtain ⟨op, a, b, k, r, c⟩ := n
  simp only [knownP] at ho h1
  rcases ho with rfl | rfl | h | h | h | h | h | h
  · exact absurd rfl h1
  · exact core2
  · exact core_two op (by omega) hlen
  · exact core_two op (by omega) hlen
  · exact core_two op (by omega) hlen
  · exact core_one op (by omega) hlen
  · exact core_two op (by omega) hlen
  · exact core_one op (by omega) hlen
theorem nodeOk_iff_add {ns : List Nd} {m : Nat} {ins : Nat → Int × Int} (hm : m < ns.length) (ht : TieIn ins (ns.take m)) (ho : knownP ns[m].op) :
    (nodeOk ns m ns[m] = true → ∃ ins', addZ (ns.take m) ins (saidOf ns[m]) = some (ns[m], ins') ∧ TieIn ins' (ns.take (m + 1))) ∧
    (nodeOk ns m ns[m] = false → ∀ n' ins', addZ (ns.take m) ins (saidOf ns[m]) = some (n', ins') → n' ≠ ns[m]) := by
  have hlen : (ns.take m).length = m := by simp; omega
  by_cases h1 : ns[m].op = 1
  · have hthere := TieIn.there hm ht
    have hnew := TieIn.new hm ht h1
    have hcn := clash_no (n := ns[m]) ht
    have hcy := clash_yes (n := ns[m]) ht
    generalize ns[m] = n at *
    obtain ⟨op, a, b, k, r, c⟩ := n
    simp only at h1
    subst h1
    exact core1 (T := fun ins' => TieIn ins' (ns.take (m + 1))) hthere hnew hcn hcy
  · have h := core_rest (ins := ins) hlen ho h1
    exact ⟨fun hk => ⟨ins, h.1 hk, TieIn.skip hm ht h1⟩, h.2⟩
theorem TieIn.nil : TieIn (fun _ => (0, 0)) [] := fun _ _ => .inl ⟨rfl, fun _ h => absurd h (by simp)⟩
theorem nodeOk_known {ns : List Nd} {m : Nat} {n : Nd} (h : ¬ knownP n.op) : nodeOk ns m n = false := by
  simp only [knownP, not_or] at h
  obtain ⟨e1, e2, e3, e4, e5, e6, e7, e8⟩ := h
  simp [nodeOk, placedZ, shapeZ, partsZ, e1, e2, e3, e4, e5, e6, e7, e8]
end Go.Proofs.YtlcmllmphpllbaaGreatDoor
