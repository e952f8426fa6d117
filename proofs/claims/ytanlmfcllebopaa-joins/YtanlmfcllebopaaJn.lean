/- thriftref.Join, walked. -/
import Derived.Test.YtanlmfcllebopaaJm
namespace Go.Proofs.Ytanlmfcllebopaa
open Go.RowKit Go.Maps

theorem Lst.keeps {w w' : World} {ao : Option Addr} {n cap : Nat} {p : Nat → Nat} (h : Lst w ao n cap p) (hb : Below w.heap.size w w') : Lst w' ao n cap p := by
  intro hn
  obtain ⟨g, rfl, hL⟩ := h hn
  exact ⟨g, rfl, hL.keeps (S := fun _ => False) (Keeps.of_below hb) id⟩
/-- how far a round of the closing has come; D: what of it is done -/
structure RInv (ts : List Tm) (ps : List (Int × Int)) (r0 : Nat → Nat) (D : Prop) (r : Nat → Nat) (m : Bool) : Prop where
  sound : Sound ts ps r
  le : tops r ts.length ≤ tops r0 ts.length
  lt : m = true → tops r ts.length < tops r0 ts.length
  same : m = false → r = r0 ∧ D
theorem RInv.start {ts : List Tm} {ps : List (Int × Int)} {r0 : Nat → Nat} (h : Sound ts ps r0) : RInv ts ps r0 True r0 false := ⟨h, Nat.le_refl _, fun e => (by cases e), fun _ => ⟨rfl, trivial⟩⟩
theorem RInv.imp {ts : List Tm} {ps : List (Int × Int)} {r0 r : Nat → Nat} {D D' : Prop} {m : Bool} (h : RInv ts ps r0 D r m) (hD : r = r0 → D → D') : RInv ts ps r0 D' r m :=
  ⟨h.sound, h.le, h.lt, fun e => ⟨(h.same e).1, hD (h.same e).1 (h.same e).2⟩⟩
theorem RInv.merge {ts : List Tm} {ps : List (Int × Int)} {r0 r : Nat → Nat} {D : Prop} {m : Bool} (h : RInv ts ps r0 D r m) {x y : Nat} (hx : x < ts.length) (hy : y < ts.length) (hE : ∀ E, Cong ts ps E → E x y) : RInv ts ps r0 (D ∧ r0 x = r0 y) (joinR r x y) (m || (r x != r y)) := by
  have hle := tops_join_le r h.sound.2.1 x y ts.length
  refine ⟨h.sound.join hE, Nat.le_trans hle h.le, fun e => ?_, fun e => ?_⟩
  · by_cases e2 : r x = r y
    · have : m = true := by simpa [e2] using e
      exact Nat.lt_of_le_of_lt hle (h.lt this)
    · exact Nat.lt_of_lt_of_le (tops_join_lt h.sound.1 h.sound.2.1 e2 hx hy) h.le
  · obtain ⟨e1, e2⟩ := Bool.or_eq_false_iff.1 e
    have e3 : r x = r y := by simpa using e2
    obtain ⟨g1, g2⟩ := h.same e1
    rw [joinR_same e3]
    exact ⟨g1, g2, by rw [← g1]; exact e3⟩
/-- terms i and j are alike by r -/
def likeB (ts : List Tm) (r : Nat → Nat) (i j : Nat) : Bool := (tm ts i).op == (tm ts j).op && (tm ts i).k == (tm ts j).k && metB r (tm ts i).a (tm ts j).a && metB r (tm ts i).b (tm ts j).b
theorem met_PE {ts : List Tm} {ps : List (Int × Int)} {r : Nat → Nat} (h : Sound ts ps r) {E : Nat → Nat → Prop} (hE : Cong ts ps E) {n : Nat} {x y : Int} (hx : PartOk n x) (hy : PartOk n y) (hm : metB r x y = true) : PE E x y := by
  unfold metB at hm
  by_cases c : x < 0 ∨ y < 0
  · rw [if_pos c] at hm
    have e : x = y := by simpa using hm
    subst e
    rcases hx with e | e
    · exact .inl ⟨e, e⟩
    · omega
  · rw [if_neg c] at hm
    have e : r x.toNat = r y.toNat := by simpa using hm
    refine .inr ⟨by omega, by omega, hE.trans _ _ _ (h.2.2 E hE _) ?_⟩
    rw [e]
    exact hE.symm _ _ (h.2.2 E hE _)
theorem PE_met {r : Nat → Nat} {x y : Int} (h : PE (fun a b => r a = r b) x y) : metB r x y = true ∧ metB r y x = true := by
  rcases h with ⟨h1, h2⟩ | ⟨h1, h2, h3⟩
  · subst h1; subst h2; exact ⟨rfl, rfl⟩
  · unfold metB
    rw [if_neg (by omega), if_neg (by omega), h3]
    simp
theorem like_E {ts : List Tm} {ps : List (Int × Int)} (hR : Right ts ps) {r : Nat → Nat} (h : Sound ts ps r) {i j : Nat} (hi : i < ts.length) (hj : j < ts.length) (hl : likeB ts r i j = true) {E : Nat → Nat → Prop} (hE : Cong ts ps E) : E i j := by
  simp only [likeB, Bool.and_eq_true, beq_iff_eq] at hl
  have si := hR.stands hi
  have sj := hR.stands hj
  exact hE.term i j hi hj hl.1.1.1 hl.1.1.2 (met_PE h hE si.a sj.a hl.1.2) (met_PE h hE si.b sj.b hl.2)
/-- pairs and terms that are done -/
def PDone (ps : List (Int × Int)) (r0 : Nat → Nat) (k : Nat) : Prop := ∀ j, (h : j < ps.length) → j < k → r0 ps[j].1.toNat = r0 ps[j].2.toNat
def TDone (ts : List Tm) (r0 : Nat → Nat) (i k : Nat) : Prop := ∀ i' k', k' < i' → (i' < i ∨ (i' = i ∧ k' < k)) → i' < ts.length → likeB ts r0 i' k' = true → r0 i' = r0 k'
theorem best_of_done {ts : List Tm} {ps : List (Int × Int)} {r0 r : Nat → Nat} {m : Bool} (h : RInv ts ps r0 (PDone ps r0 ps.length ∧ TDone ts r0 ts.length 0) r m) (hm : m = false) : Best ts ps r := by
  obtain ⟨rfl, hP, hT⟩ := h.same hm
  have one : ∀ i j, j < i → i < ts.length → (tm ts i).op = (tm ts j).op → (tm ts i).k = (tm ts j).k → metB r (tm ts i).a (tm ts j).a = true → metB r (tm ts i).b (tm ts j).b = true → r i = r j := by
    intro i j hji hi h1 h2 h3 h4
    exact hT i j hji (.inl hi) hi (by simp [likeB, h1, h2, h3, h4])
  refine ⟨h.sound.1, h.sound.2.1, fun q hq => ?_, fun i j hi hj ho hk ha hb => ?_, h.sound.2.2⟩
  · obtain ⟨j, hj, rfl⟩ := List.getElem_of_mem hq
    exact hP j hj hj
  · rcases Nat.lt_trichotomy i j with e | e | e
    · exact (one j i e hj ho.symm hk.symm (PE_met ha).2 (PE_met hb).2).symm
    · rw [e]
    · exact one i j e hi ho hk (PE_met ha).1 (PE_met hb).1
def moreOf : Value → Nat | .bool true => 1 | _ => 0
def topsL (w : World) (ao : Option Addr) (n : Nat) : Nat := match ao with | some a => topsIn w a.block n | none => 0
theorem topsIn_eq' {w : World} {g n cap : Nat} {r : Nat → Nat} (h : LAt w g n cap r) : topsIn w g n = tops r n := by
  unfold topsIn tops
  apply List.countP_congr
  intro i hi
  rw [h.cell (List.mem_range.1 hi)]
  simp only [intOf, beq_iff_eq, Int.natCast_inj]
theorem topsL_eq {w : World} {ao : Option Addr} {n cap : Nat} {r : Nat → Nat} (h : Lst w ao n cap r) (hn : 0 < n) : topsL w ao n = tops r n := by
  obtain ⟨g, rfl, hL⟩ := h hn
  exact topsIn_eq' hL
theorem topsL_lt {w w' : World} {ao : Option Addr} {n cap : Nat} {r r' : Nat → Nat} (h : Lst w ao n cap r) (h' : Lst w' ao n cap r') (hlt : tops r' n < tops r n) : topsL w' ao n < topsL w ao n := by
  by_cases hn : 0 < n
  · rw [topsL_eq h hn, topsL_eq h' hn]; exact hlt
  · obtain rfl : n = 0 := by omega
    simp [tops] at hlt
theorem topsL_same {w w' : World} {ao : Option Addr} {n cap : Nat} {r : Nat → Nat} (h : Lst w ao n cap r) (h' : Lst w' ao n cap r) : topsL w' ao n = topsL w ao n := by
  by_cases hn : 0 < n
  · rw [topsL_eq h hn, topsL_eq h' hn]
  · obtain rfl : n = 0 := by omega
    cases ao <;> simp [topsL, topsIn]
theorem ahead_split (x : Int) (i : Nat) : aheadP x i = (!decide (x < -1) && !decide ((i : Int) ≤ x)) := by
  rw [Bool.eq_iff_iff]
  simp only [aheadP, decide_eq_true_eq, Bool.and_eq_true, Bool.not_eq_true', decide_eq_false_iff_not]
  omega
theorem place_split (x : Int) (n : Nat) : placeP x n = (!decide (x < 0) && !decide ((n : Int) ≤ x)) := by
  rw [Bool.eq_iff_iff]
  simp only [placeP, decide_eq_true_eq, Bool.and_eq_true, Bool.not_eq_true', decide_eq_false_iff_not]
  omega
end Go.Proofs.Ytanlmfcllebopaa
