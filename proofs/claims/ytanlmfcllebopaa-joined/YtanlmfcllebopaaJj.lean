/- joins.MayBe and thrift.Join, walked. -/
import Derived.Test.YtanlmfcllebopaaJi
namespace Go.Proofs.Ytanlmfcllebopaa
open Go.RowKit Go.Maps

set_option maxHeartbeats 1000000 in
theorem isPlace_any (x : Int) (n : Nat) (w : World) :
    Calls Try.prog 30 #[.int .i64 x, .int .i64 n] w fun e w' => e = .returned (.bool (placeP x n)) ∧ w' = w := by
  have HP : Hid (placeP x n = decide (0 ≤ x ∧ x < n)) := rfl
  by_cases h : 0 ≤ x
  · have hb : decide (0 ≤ x) = true := decide_eq_true h
    go_enter Try.func30, Try.ntmps30
    go_wp2
    go_ret
    exact ⟨ret_bool (by rw [HP.out]; simp [h]), rfl⟩
  · have hb : decide (0 ≤ x) = false := decide_eq_false h
    go_enter Try.func30, Try.ntmps30
    go_wp2
    go_ret
    exact ⟨ret_bool (by rw [HP.out]; exact (decide_eq_false (fun e => by omega)).symm), rfl⟩
set_option maxHeartbeats 1000000 in
theorem isPart_any (x : Int) (n : Nat) (w : World) :
    Calls Try.prog 29 #[.int .i64 x, .int .i64 n] w fun e w' => e = .returned (.bool (aheadP x n)) ∧ w' = w := by
  have HP : Hid (aheadP x n = decide (x = -1 ∨ (0 ≤ x ∧ x < n))) := rfl
  by_cases h : x = -1
  · subst h
    go_enter Try.func29, Try.ntmps29
    go_wp2
    go_ret
    exact ⟨ret_bool (by rw [HP.out]; simp), rfl⟩
  · have hb : (x == -1) = false := by simpa using h
    have HH : Hid (¬ x = -1) := h
    clear h
    go_enter Try.func29, Try.ntmps29
    go_wp2_with (go_at_call 30; refine (isPlace_any _ _ _).mono ?_; rintro e w' ⟨rfl, rfl⟩)
    go_wp2
    go_ret
    exact ⟨ret_bool (by rw [HP.out]; simp [placeP, HH.out]), rfl⟩
theorem mayBe_long1 {ts : List Tm} {ps : List (Int × Int)} (h : 200 < ts.length) : mayBe ts ps = false := by simp [mayBe]; omega
theorem mayBe_long2 {ts : List Tm} {ps : List (Int × Int)} (h : 200 < ps.length) : mayBe ts ps = false := by simp [mayBe]; omega
theorem termsOk_no {ts : List Tm} {ps : List (Int × Int)} {i : Nat} (hi : i < ts.length) (h : (aheadP ts[i].a i && aheadP ts[i].b i) = false) : mayBe ts ps = false := by
  have : termsOk ts ts.length = false := by
    rw [termsOk, List.all_eq_false]
    exact ⟨i, List.mem_range.2 hi, by rw [tm_at hi, h]; simp⟩
  simp [mayBe, this]
theorem termsOk_yes {ts : List Tm} (h : ∀ i, (hi : i < ts.length) → (aheadP ts[i].a i && aheadP ts[i].b i) = true) : termsOk ts ts.length = true := by
  rw [termsOk, List.all_eq_true]
  intro i hi
  rw [tm_at (List.mem_range.1 hi)]
  exact h i (List.mem_range.1 hi)
theorem pairsOk_no {ts : List Tm} {ps : List (Int × Int)} {i : Nat} (hi : i < ps.length) (h : (placeP ps[i].1 ts.length && placeP ps[i].2 ts.length) = false) : mayBe ts ps = false := by
  have : pairsOk ts.length ps = false := by
    rw [pairsOk, List.all_eq_false]
    exact ⟨ps[i], List.getElem_mem hi, by rw [h]; simp⟩
  simp [mayBe, this]
theorem pairsOk_yes {n : Nat} {ps : List (Int × Int)} (h : ∀ i, (hi : i < ps.length) → (placeP ps[i].1 n && placeP ps[i].2 n) = true) : pairsOk n ps = true := by
  rw [pairsOk, List.all_eq_true]
  intro q hq
  obtain ⟨i, hi, rfl⟩ := List.getElem_of_mem hq
  exact h i hi
set_option maxHeartbeats 4000000 in
set_option maxRecDepth 100000 in
theorem pmayBe_any (ts : List Tm) (ps : List (Int × Int)) (ao bo : Option Addr) (ca cb : Nat) (w : World) (hT : Terms w ao ts) (hP : Pairs w bo ps) (h1 : ts.length * 32 ≤ 140737488351232) (h2 : ps.length * 16 ≤ 140737488351232) :
    Calls Try.prog 19 #[.slice ao ts.length ca, .slice bo ps.length cb] w fun e w' => e = .returned (.bool (mayBe ts ps)) ∧ Below w.heap.size w w' := by
  have HT : Hid (Terms w ao ts) := hT
  have HP : Hid (Pairs w bo ps) := hP
  clear hT hP
  by_cases l1 : 200 < ts.length
  · have HN : Hid (mayBe ts ps = false) := mayBe_long1 l1
    have hb : decide ((200 : Int) < ts.length) = true := decide_eq_true (by omega)
    go_enter Try.func19, Try.ntmps19
    go_wp2
    go_ret
    exact ⟨ret_bool HN.out.symm, Bl.refl _⟩
  have b1 : decide ((200 : Int) < ts.length) = false := decide_eq_false (by omega)
  by_cases l2 : 200 < ps.length
  · have HN : Hid (mayBe ts ps = false) := mayBe_long2 l2
    have hb : decide ((200 : Int) < ps.length) = true := decide_eq_true (by omega)
    go_enter Try.func19, Try.ntmps19
    go_wp2
    go_ret
    exact ⟨ret_bool HN.out.symm, Bl.refl _⟩
  have b2 : decide ((200 : Int) < ps.length) = false := decide_eq_false (by omega)
  go_enter Try.func19, Try.ntmps19
  go_wp2
  clear b1 b2
  go_loopw [19] (fun v wr => ∃ i : Nat, v = .int .i64 (i : Int) ∧ i ≤ ts.length ∧ Hid (∀ j, (hj : j < ts.length) → j < i → (aheadP ts[j].a j && aheadP ts[j].b j) = true) ∧ Below w.heap.size w wr) (fun v _ => ts.length - (intOf v).toNat)
  case atStart => exact ⟨0, rfl, Nat.zero_le _, fun j _ h => absurd h (Nat.not_lt_zero _), Bl.refl _⟩
  case round =>
    obtain ⟨i, rfl, hi, hall, hbw⟩ := hrel
    by_cases hlt : i < ts.length
    · obtain ⟨b, off, rfl, hbs, c0, c1, c2, c3⟩ := HT.out.below hbw i hlt
      have hal := al1 hbs
      cases ha : aheadP ts[i].a i
      · have HN : Hid (mayBe ts ps = false) := termsOk_no hlt (by rw [ha]; rfl)
        go_wp2_with (go_at_call 29; refine (isPart_any _ _ _).mono ?_; rintro e w' ⟨rfl, rfl⟩)
        go_wp2
        go_ret
        exact ⟨ret_bool HN.out.symm, Bl.more hbw _⟩
      cases hb : aheadP ts[i].b i
      · have HN : Hid (mayBe ts ps = false) := termsOk_no hlt (by rw [hb]; simp)
        go_wp2_with (go_at_call 29; refine (isPart_any _ _ _).mono ?_; rintro e w' ⟨rfl, rfl⟩)
        go_wp2
        go_ret
        exact ⟨ret_bool HN.out.symm, Bl.more hbw _⟩
      have HY : Hid ((aheadP ts[i].a i && aheadP ts[i].b i) = true) := by show (aheadP ts[i].a i && aheadP ts[i].b i) = true; rw [ha, hb]; rfl
      go_wp2_with (go_at_call 29; refine (isPart_any _ _ _).mono ?_; rintro e w' ⟨rfl, rfl⟩)
      go_wp2
      go_roundw
      case rel => exact ⟨i + 1, by go_num, by omega, (fun j hj hl => by
        by_cases e : j = i
        · subst e; exact HY.out
        · exact hall.out j hj (by omega)), Bl.more hbw _⟩
      case measure => simp [intOf]; omega
    · have hie : i = ts.length := by omega
      subst hie
      have HY1 : Hid (termsOk ts ts.length = true) := termsOk_yes fun j hj => hall.out j hj hj
      clear hi hlt hall
      go_wp2
      go_loopw [39] (fun v wr => ∃ i : Nat, v = .int .i64 (i : Int) ∧ i ≤ ps.length ∧ Hid (∀ j, (hj : j < ps.length) → j < i → (placeP ps[j].1 ts.length && placeP ps[j].2 ts.length) = true) ∧ Below w.heap.size w wr) (fun v _ => ps.length - (intOf v).toNat)
      case atStart => exact ⟨0, rfl, Nat.zero_le _, fun j _ h => absurd h (Nat.not_lt_zero _), hbw⟩
      case round =>
        clear hbw
        obtain ⟨i, rfl, hi, hall, hbw⟩ := hrel
        by_cases hlt : i < ps.length
        · obtain ⟨b, off, rfl, hbs, c0, c1⟩ := HP.out.below hbw i hlt
          have hal := al1 hbs
          cases ha : placeP ps[i].1 ts.length
          · have HN : Hid (mayBe ts ps = false) := pairsOk_no hlt (by rw [ha]; rfl)
            go_wp2_with (go_at_call 30; refine (isPlace_any _ _ _).mono ?_; rintro e w' ⟨rfl, rfl⟩)
            go_wp2
            go_ret
            exact ⟨ret_bool HN.out.symm, Bl.more hbw _⟩
          cases hb : placeP ps[i].2 ts.length
          · have HN : Hid (mayBe ts ps = false) := pairsOk_no hlt (by rw [hb]; simp)
            go_wp2_with (go_at_call 30; refine (isPlace_any _ _ _).mono ?_; rintro e w' ⟨rfl, rfl⟩)
            go_wp2
            go_ret
            exact ⟨ret_bool HN.out.symm, Bl.more hbw _⟩
          have HY : Hid ((placeP ps[i].1 ts.length && placeP ps[i].2 ts.length) = true) := by show (placeP ps[i].1 ts.length && placeP ps[i].2 ts.length) = true; rw [ha, hb]; rfl
          go_wp2_with (go_at_call 30; refine (isPlace_any _ _ _).mono ?_; rintro e w' ⟨rfl, rfl⟩)
          go_wp2
          go_roundw
          case rel => exact ⟨i + 1, by go_num, by omega, (fun j hj hl => by
            by_cases e : j = i
            · subst e; exact HY.out
            · exact hall.out j hj (by omega)), Bl.more hbw _⟩
          case measure => simp [intOf]; omega
        · have hie : i = ps.length := by omega
          subst hie
          have HY2 : Hid (mayBe ts ps = true) := by
            show mayBe ts ps = true
            simp only [mayBe, HY1.out, pairsOk_yes fun j hj => hall.out j hj hj, Bool.and_true, Bool.and_eq_true, decide_eq_true_eq]
            omega
          clear hi hlt hall
          go_wp2
          go_ret
          exact ⟨ret_bool HY2.out.symm, hbw⟩
set_option maxHeartbeats 1000000 in
theorem tjoin_no (ts : List Tm) (ps : List (Int × Int)) (ao bo : Option Addr) (ca cb : Nat) (w : World) (hT : Terms w ao ts) (hP : Pairs w bo ps) (h1 : ts.length * 32 ≤ 140737488351232) (h2 : ps.length * 16 ≤ 140737488351232) (hn : mayBe ts ps = false) :
    Calls Try.prog 10 #[.slice ao ts.length ca, .slice bo ps.length cb] w fun e w' => e = .returned (.tuple #[.slice none 0 0, .int .i64 7]) ∧ Below w.heap.size w w' := by
  go_enter Try.func10, Try.ntmps10
  go_wp2_with fail
  refine (pmayBe_any ts ps ao bo ca cb _ hT hP h1 h2).mono ?_
  rintro e w1 ⟨rfl, hb⟩
  go_wp2
  go_ret2
  exact ⟨rfl, hb⟩
set_option maxHeartbeats 1000000 in
theorem tjoin_yes (ts : List Tm) (ps : List (Int × Int)) (ao bo : Option Addr) (ca cb : Nat) (w : World) (hT : Terms w ao ts) (hP : Pairs w bo ps) (hn : mayBe ts ps = true) (hW : ∀ i, i < ts.length → TmWf (tm ts i)) :
    Calls Try.prog 10 #[.slice ao ts.length ca, .slice bo ps.length cb] w fun e w' => ∃ g r, e = .returned (.tuple #[.slice (some ⟨g, 0, none⟩) ts.length ts.length, .int .i64 0]) ∧ w.heap.size ≤ g ∧ FAt w' g ts.length r ∧ Best ts ps r ∧ Below w.heap.size w w' := by
  have HR := right_of hn
  have l1 := HR.n
  have l2 := HR.m
  have HH : Hid (Right ts ps ∧ (∀ i, i < ts.length → TmWf (tm ts i)) ∧ Terms w ao ts ∧ Pairs w bo ps) := ⟨HR, hW, hT, hP⟩
  clear HR hW hT hP
  go_enter Try.func10, Try.ntmps10
  go_wp2_with fail
  refine (pmayBe_any ts ps ao bo ca cb _ HH.out.2.2.1 HH.out.2.2.2 (by omega) (by omega)).mono ?_
  rintro e w1 ⟨rfl, hb⟩
  go_wp2_with fail
  refine (pjoin_any ts ps ao bo ca cb _ (HH.out.2.2.1.below hb) (HH.out.2.2.2.below hb) HH.out.1 HH.out.2.1).mono ?_
  rintro e w2 ⟨g, r, rfl, hg, hf, hB, hb2⟩
  have HE : Hid (w.heap.size ≤ g ∧ FAt w2 g ts.length r ∧ Best ts ps r ∧ Below w.heap.size w w2) := ⟨Nat.le_trans hb.size hg, hf, hB, Bl.trans hb hb2⟩
  clear hg hf hB hb2 hb
  go_wp2
  go_ret2
  exact ⟨g, r, rfl, HE.out⟩

end Go.Proofs.Ytanlmfcllebopaa
