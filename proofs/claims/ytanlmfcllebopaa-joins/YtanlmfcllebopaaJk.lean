/- Rows of terms and of pairs that are grown; thriftkeep.pick and Joined, walked. -/
import Derived.Test.YtanlmfcllebopaaJj
namespace Go.Proofs.Ytanlmfcllebopaa
open Go.RowKit Go.Maps

def tcells : List Tm → List Value
  | [] => []
  | t :: ts => .int .i64 t.op :: .int .i64 t.k :: .int .i64 t.a :: .int .i64 t.b :: tcells ts
theorem tcells_app (ns ms : List Tm) : tcells (ns ++ ms) = tcells ns ++ tcells ms := by
  induction ns with
  | nil => rfl
  | cons n ns ih => simp only [List.cons_append, tcells, ih]
theorem tcells_at (ns : List Tm) : ∀ i, (h : i < ns.length) → (tcells ns)[i * 4]? = some (.int .i64 ns[i].op) ∧ (tcells ns)[i * 4 + 1]? = some (.int .i64 ns[i].k) ∧ (tcells ns)[i * 4 + 2]? = some (.int .i64 ns[i].a) ∧ (tcells ns)[i * 4 + 3]? = some (.int .i64 ns[i].b) := by
  induction ns with
  | nil => intro i h; exact absurd h (Nat.not_lt_zero _)
  | cons n ns ih =>
    intro i h
    cases i with
    | zero => simp [tcells]
    | succ i =>
      have := ih i (by simpa using h)
      have e0 : (i + 1) * 4 = (i * 4) + 1 + 1 + 1 + 1 := by omega
      simp only [e0, tcells, List.getElem?_cons_succ, List.getElem_cons_succ]
      exact this
theorem terms_of_owns {w : World} {base : Nat} {v : Value} {ts : List Tm} (h : w.ownsRow base 40 4 v ts.length (tcells ts)) : ∃ ao cap, v = .slice ao ts.length cap ∧ Terms w ao ts := by
  rcases h with ⟨h0, ⟨rfl, hn⟩ | ⟨g, cap, cur, rfl, hb, hh, hle, hm, hcs, hcur⟩⟩
  · exact ⟨none, 0, by rw [hn], fun i hi => absurd hi (by omega)⟩
  · have hw : w.ownsRow base 40 4 (.slice (some ⟨g, 0, none⟩) ts.length cap) ts.length (tcells ts) := ⟨h0, .inr ⟨g, cap, cur, rfl, hb, hh, hle, hm, hcs, hcur⟩⟩
    refine ⟨some ⟨g, 0, none⟩, cap, rfl, fun i hi => ⟨g, 0, rfl, (Array.getElem?_eq_some_iff.1 hh).1, ?_⟩⟩
    obtain ⟨a0, a1, a2, a3⟩ := tcells_at ts i hi
    simp only [Nat.zero_add]
    exact ⟨(hw.cellAt _ (by omega)).trans a0, (hw.cellAt _ (by omega)).trans a1, (hw.cellAt _ (by omega)).trans a2, (hw.cellAt _ (by omega)).trans a3⟩
theorem terms_of_owns' {w : World} {base n : Nat} {v : Value} {ts : List Tm} (h : w.ownsRow base 40 4 v n (tcells ts)) (hn : ts.length = n) : ∃ ao cap, v = .slice ao n cap ∧ Terms w ao ts := by subst hn; exact terms_of_owns h
theorem infoTm : (Try.prog.info? 40).map (fun i => (i.zero, i.size, i.bytes)) = some (some (.agg #[.int .i64 0, .int .i64 0, .int .i64 0, .int .i64 0]), 4, 32) := by kernel_rfl
theorem underTms : Try.prog.underlying 36 = some (.slice 40) := by kernel_rfl
set_option maxHeartbeats 1000000 in
theorem pick_any (c : Int) (n : Nat) (hc : -9223372036854775808 ≤ c ∧ c ≤ 9223372036854775807) (hn : 1 ≤ n) (hn2 : n ≤ 1000) (w : World) :
    Calls Try.prog 9 #[.int .i64 c, .int .i64 n] w fun e w' => (∃ r : Nat, r < n ∧ e = .returned (.int .i64 r)) ∧ w' = w := by
  obtain ⟨c1, c2⟩ := hc
  have key : ∀ d : Int, 0 ≤ d → ∃ r : Nat, r < n ∧ Ending.returned (.int .i64 (Int.tmod d n)) = .returned (.int .i64 (r : Int)) := by
    intro d hd
    have e := Int.tmod_eq_emod_of_nonneg (b := (n : Int)) hd
    have h1 := Int.emod_nonneg d (b := (n : Int)) (by omega)
    have h2 := Int.emod_lt_of_pos d (b := (n : Int)) (by omega)
    refine ⟨(d % (n : Int)).toNat, by omega, ret_int ?_⟩
    rw [e]; omega
  have HK : Hid (∀ d : Int, 0 ≤ d → ∃ r : Nat, r < n ∧ Ending.returned (.int .i64 (Int.tmod d n)) = .returned (.int .i64 (r : Int))) := key
  clear key
  have hn0 : ((n : Int) == 0) = false := by simp; omega
  by_cases h : c < 0
  · have hb : decide (c < 0) = true := decide_eq_true h
    go_enter Try.func9, Try.ntmps9
    go_wp2
    go_ret
    obtain ⟨r, hr, e⟩ := HK.out (-(c + 1)) (by omega)
    rw [Int.neg_tmod] at e
    exact ⟨⟨r, hr, e⟩, rfl⟩
  · have hb : decide (c < 0) = false := decide_eq_false h
    go_enter Try.func9, Try.ntmps9
    go_wp2
    go_ret
    obtain ⟨r, hr, e⟩ := HK.out c h
    rw [Int.tmod_eq_emod_of_nonneg h] at e
    exact ⟨⟨r, hr, e⟩, rfl⟩
theorem chain_succ (i : Nat) : chain (i + 1) = chain i ++ [⟨9, 0, (i : Int) - 1, -1⟩] := by simp [chain, List.range_succ]
theorem chain_mayBe {k x y : Nat} (hk : k ≤ 60) (hx : x < k) (hy : y < k) : mayBe (chain k) [((y : Int), (x : Int))] = true := by
  simp only [mayBe, chain_len, Bool.and_eq_true, decide_eq_true_eq, termsOk, pairsOk, List.all_eq_true, List.mem_range, aheadP, placeP, List.length_singleton, List.mem_singleton, forall_eq]
  refine ⟨⟨⟨by omega, by omega⟩, fun i hi => ?_⟩, by omega, by omega⟩
  rw [chain_at hi]
  exact ⟨by simp only; omega, .inl rfl⟩
theorem chain_wf {k : Nat} (hk : k ≤ 60) : ∀ i, i < (chain k).length → TmWf (tm (chain k) i) := by
  intro i hi
  rw [chain_len] at hi
  rw [chain_at hi]
  exact ⟨WalkArith.wf_i64 (by simp only; omega), WalkArith.wf_i64 (by simp only; omega), WalkArith.wf_i64 (by simp only; omega), WalkArith.wf_i64 (by simp only; omega)⟩
/-- what the law asks of place i -/
theorem ring_want {k x y i : Nat} (hi : i < k) : (ringZ k x y i : Int) = if (x : Int) < i ∧ (x : Int) < y then (x : Int) + Int.tmod ((i : Int) - x) ((y : Int) - x) else i := by
  by_cases h : x < i ∧ x < y
  · rw [if_pos (by omega), ring_high (by omega) hi h.2, Int.tmod_eq_emod_of_nonneg (by omega)]
    have e1 : (i : Int) - x = ((i - x : Nat) : Int) := by omega
    have e2 : (y : Int) - x = ((y - x : Nat) : Int) := by omega
    rw [e1, e2]
    simp
  · rw [if_neg (by omega)]
    unfold ringZ
    rw [if_neg (by omega)]
theorem tjoin_chain {k x y : Nat} (hk : k ≤ 60) (hxy : x ≤ y) (hy : y < k) (ao : Option Addr) (ca pb : Nat) (w : World) (hT : Terms w ao (chain k)) (hpb : pb < w.heap.size) (p0 : w.cell? ⟨pb, 0, none⟩ = some (.int .i64 (y : Int))) (p1 : w.cell? ⟨pb, 1, none⟩ = some (.int .i64 (x : Int))) :
    Calls Try.prog 10 #[.slice ao k ca, .slice (some ⟨pb, 0, none⟩) 1 1] w fun e w' => ∃ g, e = .returned (.tuple #[.slice (some ⟨g, 0, none⟩) k k, .int .i64 0]) ∧ FAt w' g k (ringZ k x y) ∧ Below w.heap.size w w' := by
  have h := tjoin_yes (chain k) [((y : Int), (x : Int))] ao (some ⟨pb, 0, none⟩) ca 1 w hT (fun i hi => by
    obtain rfl : i = 0 := by simp at hi; omega
    exact ⟨pb, 0, rfl, hpb, by simpa using p0, by simpa using p1⟩) (chain_mayBe hk (by omega) hy) (chain_wf hk)
  simp only [chain_len, List.length_singleton] at h
  refine h.mono ?_
  rintro e w' ⟨g, r, rfl, _, hf, hB, hb⟩
  exact ⟨g, rfl, hf.congr fun i _ => hB.unique (ring_best hxy hy) i, hb⟩
set_option maxHeartbeats 4000000 in
set_option maxRecDepth 100000 in
theorem joined_law (n a b : Int) (w : World) (hn : -9223372036854775808 ≤ n ∧ n ≤ 9223372036854775807) (ha : -9223372036854775808 ≤ a ∧ a ≤ 9223372036854775807) (hb : -9223372036854775808 ≤ b ∧ b ≤ 9223372036854775807) :
    Calls Try.prog 5 #[.int .i64 n, .int .i64 a, .int .i64 b] w fun e w' => e = .returned (.bool true) ∧ Below w.heap.size w w' := by
  have HA : Hid ((-9223372036854775808 ≤ n ∧ n ≤ 9223372036854775807) ∧ (-9223372036854775808 ≤ a ∧ a ≤ 9223372036854775807) ∧ (-9223372036854775808 ≤ b ∧ b ≤ 9223372036854775807)) := ⟨hn, ha, hb⟩
  clear hn ha hb
  obtain ⟨i0, hi, hz0, hz1, hz2⟩ := jinfo_parts infoTm
  have HI : Hid (i0.zero = some (.agg #[.int .i64 0, .int .i64 0, .int .i64 0, .int .i64 0]) ∧ i0.size = 4 ∧ i0.bytes = 32 ∧ Try.prog.info? 40 = some i0) := ⟨hz0, hz1, hz2, hi⟩
  clear hi hz0 hz1 hz2
  go_enter Try.func5, Try.ntmps5
  go_wp2_with fail
  refine (pick_any n 60 HA.out.1 (by omega) (by omega) _).mono ?_
  rintro e w' ⟨⟨r, hr, rfl⟩, hw'⟩
  obtain rfl := hw'.symm
  obtain ⟨k, hk⟩ : ∃ k : Nat, k = 1 + r := ⟨_, rfl⟩
  have hkI : (1 : Int) + (r : Int) = (k : Int) := by omega
  have hk1 : 1 ≤ k := by omega
  have hk2 : k ≤ 60 := by omega
  clear hk hr
  go_wp2
  go_loopw [8, 9] (fun v j wr => ∃ i : Nat, i ≤ k ∧ j = .int .i64 (i : Int) ∧ wr.ownsRow w.heap.size 40 4 v i (tcells (chain i)) ∧ Below w.heap.size w wr) (fun _ j _ => k - (intOf j).toNat)
  case atStart => exact ⟨0, Nat.zero_le _, rfl, World.ownsRow_nil _ _ _ _, Bl.refl _⟩
  case round =>
    obtain ⟨i, hi, rfl, hown, hbr⟩ := hrel
    by_cases hlt : i < k
    · have hsz := hbr.size
      go_wp2_with (at_builtin; refine wpList_append_own _ rfl _ _ 36 rfl w.heap.size 40 i0 _ 4 32 underTms HI.out.2.2.2 HI.out.1 HI.out.2.1 HI.out.2.2.1 rfl (by decide) _ _ _ rfl (hown.alloc _) ⟨wr.heap.size, 0, none⟩ 1 1 [.int .i64 9, .int .i64 0, .int .i64 ((i : Int) - 1), .int .i64 (-1)] rfl rfl ?c1 ?c2 ?c3 ?c4 ?c5 ?_)
      case c1 =>
        intro j u hj
        match j, hj with
        | 0, hj => simp at hj; subst hj; simp [Addr.add, go_sem]
        | 1, hj => simp at hj; subst hj; simp [Addr.add, go_sem]
        | 2, hj => simp at hj; subst hj; simp [Addr.add, go_sem]
        | 3, hj => simp at hj; subst hj; simp [Addr.add, go_sem]
        | j + 4, hj => simp at hj
      case c2 => intro u hu; simp at hu; rcases hu with rfl | rfl | rfl | rfl <;> rfl
      case c3 => unfold maxLen; omega
      case c4 => omega
      case c5 => simp; omega
      intro v' w1 hown' hgrow _
      have hT : tcells (chain (i + 1)) = tcells (chain i) ++ [.int .i64 9, .int .i64 0, .int .i64 ((i : Int) - 1), .int .i64 (-1)] := by
        rw [chain_succ, tcells_app]; rfl
      rw [← hT] at hown'
      clear hT
      have hb1 : Below w.heap.size w w1 := (hbr.alloc hsz _).grown hgrow (by simp; omega) (fun j e => (hown.lt j e).1)
      clear hgrow hown
      go_wp2
      go_roundw
      case rel => exact ⟨i + 1, by omega, by go_num, hown', hb1⟩
      case measure => simp [intOf]; omega
    · have hie : i = k := by omega
      subst hie
      clear hi hlt
      obtain ⟨ao, cap, rfl, hTs⟩ := terms_of_owns' hown (chain_len i)
      have HT : Hid (Terms wr ao (chain i)) := hTs
      clear hown hTs
      go_wp2_with fail
      refine (pick_any a i HA.out.2.1 (by omega) (by omega) _).mono ?_
      rintro e w2 ⟨⟨x, hx, rfl⟩, hw2⟩
      obtain rfl := hw2.symm
      go_wp2_with fail
      refine (pick_any b i HA.out.2.2 (by omega) (by omega) _).mono ?_
      rintro e w2 ⟨⟨y, hy, rfl⟩, hw2⟩
      obtain rfl := hw2.symm
      by_cases hxy : y < x
      · have hb : decide ((y : Int) < x) = true := decide_eq_true (by omega)
        go_wp2_with fail
        refine (tjoin_chain hk2 (x := y) (y := x) (by omega) (by omega) _ _ _ _ (HT.out.below (Bl.more (Bl.refl _) _)) (by simp) (by simp [go_sem]) (by simp [go_sem])).mono ?_
        rintro e w3 ⟨g, rfl, hf3, hb3⟩
        have HF : Hid (FAt w3 g i (ringZ i y x) ∧ Below w.heap.size w w3) := ⟨hf3, Bl.trans (Bl.more hbr _) hb3⟩
        clear hf3 hb3 hb
        go_wp2
        go_loopw [15] (fun v wr => ∃ j : Nat, v = .int .i64 (j : Int) ∧ j ≤ i ∧ wr = w3) (fun v _ => i - (intOf v).toNat)
        case atStart => exact ⟨0, rfl, Nat.zero_le _, rfl⟩
        case round =>
          obtain ⟨j, rfl, hj, hw3⟩ := hrel
          subst hw3
          by_cases hlt : j < i
          · have c0 := HF.out.1.cell hlt
            rw [ring_want hlt] at c0
            by_cases g1 : (y : Int) < j
            · have b1 : decide ((y : Int) < j) = true := decide_eq_true g1
              by_cases g2 : (y : Int) < x
              · have b2 : decide ((y : Int) < x) = true := decide_eq_true g2
                rw [if_pos ⟨g1, g2⟩] at c0
                have d0 : (0 : Int) < (x : Int) - y := by omega
                have d1 : (0 : Int) ≤ (j : Int) - y := by omega
                have d2 : (((x : Int) - y) == 0) = false := by simp; omega
                rw [Int.tmod_eq_emod_of_nonneg d1] at c0
                have m1 := Int.emod_nonneg ((j : Int) - y) (b := (x : Int) - y) (by omega)
                have m2 := Int.emod_lt_of_pos ((j : Int) - y) (b := (x : Int) - y) d0
                go_wp2
                exact ⟨⟨j + 1, by go_num, by omega, trivial⟩, by simp [intOf]; omega⟩
              · have b2 : decide ((y : Int) < x) = false := decide_eq_false g2
                rw [if_neg (fun e => g2 e.2)] at c0
                go_wp2
                exact ⟨⟨j + 1, by go_num, by omega, trivial⟩, by simp [intOf]; omega⟩
            · have b1 : decide ((y : Int) < j) = false := decide_eq_false g1
              rw [if_neg (fun e => g1 e.1)] at c0
              go_wp2
              exact ⟨⟨j + 1, by go_num, by omega, trivial⟩, by simp [intOf]; omega⟩
          · have hje : j = i := by omega
            subst hje
            go_wp2
            go_ret
            exact ⟨rfl, HF.out.2⟩
      · have hb : decide ((y : Int) < x) = false := decide_eq_false (by omega)
        go_wp2_with fail
        refine (tjoin_chain hk2 (x := x) (y := y) (by omega) (by omega) _ _ _ _ (HT.out.below (Bl.more (Bl.refl _) _)) (by simp) (by simp [go_sem]) (by simp [go_sem])).mono ?_
        rintro e w3 ⟨g, rfl, hf3, hb3⟩
        have HF : Hid (FAt w3 g i (ringZ i x y) ∧ Below w.heap.size w w3) := ⟨hf3, Bl.trans (Bl.more hbr _) hb3⟩
        clear hf3 hb3 hb
        go_wp2
        go_loopw [15] (fun v wr => ∃ j : Nat, v = .int .i64 (j : Int) ∧ j ≤ i ∧ wr = w3) (fun v _ => i - (intOf v).toNat)
        case atStart => exact ⟨0, rfl, Nat.zero_le _, rfl⟩
        case round =>
          obtain ⟨j, rfl, hj, hw3⟩ := hrel
          subst hw3
          by_cases hlt : j < i
          · have c0 := HF.out.1.cell hlt
            rw [ring_want hlt] at c0
            by_cases g1 : (x : Int) < j
            · have b1 : decide ((x : Int) < j) = true := decide_eq_true g1
              by_cases g2 : (x : Int) < y
              · have b2 : decide ((x : Int) < y) = true := decide_eq_true g2
                rw [if_pos ⟨g1, g2⟩] at c0
                have d0 : (0 : Int) < (y : Int) - x := by omega
                have d1 : (0 : Int) ≤ (j : Int) - x := by omega
                have d2 : (((y : Int) - x) == 0) = false := by simp; omega
                rw [Int.tmod_eq_emod_of_nonneg d1] at c0
                have m1 := Int.emod_nonneg ((j : Int) - x) (b := (y : Int) - x) (by omega)
                have m2 := Int.emod_lt_of_pos ((j : Int) - x) (b := (y : Int) - x) d0
                go_wp2
                exact ⟨⟨j + 1, by go_num, by omega, trivial⟩, by simp [intOf]; omega⟩
              · have b2 : decide ((x : Int) < y) = false := decide_eq_false g2
                rw [if_neg (fun e => g2 e.2)] at c0
                go_wp2
                exact ⟨⟨j + 1, by go_num, by omega, trivial⟩, by simp [intOf]; omega⟩
            · have b1 : decide ((x : Int) < j) = false := decide_eq_false g1
              rw [if_neg (fun e => g1 e.1)] at c0
              go_wp2
              exact ⟨⟨j + 1, by go_num, by omega, trivial⟩, by simp [intOf]; omega⟩
          · have hje : j = i := by omega
            subst hje
            go_wp2
            go_ret
            exact ⟨rfl, HF.out.2⟩
end Go.Proofs.Ytanlmfcllebopaa
