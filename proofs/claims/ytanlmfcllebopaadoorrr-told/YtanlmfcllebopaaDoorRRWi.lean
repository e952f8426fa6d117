/- thriftref.Print, walked. -/
import Derived.Test.YtanlmfcllebopaaDoorRRWh
namespace Go.Proofs.YtanlmfcllebopaaDoorRR
open Go.RowKit

set_option maxHeartbeats 400000 in
theorem rprint_no (ns : List Nd) (ao : Option Addr) (cap : Nat) (w : World) (hn : Nodes w ao ns) (hs : ns.length * 48 ≤ 140737488351232) (hg : isGraphB ns = false) :
    Calls Tryd.prog 7 #[.slice ao ns.length cap] w fun e w' => e = .returned (.tuple #[.string (bs []), .int .i64 4]) ∧ Below w.heap.size w w' := by
  go_enter Tryd.func7, Tryd.ntmps7
  go_wp2_with (go_at_call 14; refine (isGraph_any ns _ _ _ hn hs).mono ?_; rintro e w1 ⟨rfl, hb1⟩)
  go_ret2
  exact ⟨rfl, hb1⟩

theorem len100 {ns : List Nd} (h : isGraphB ns = true) : 1 ≤ ns.length ∧ ns.length ≤ 100 := by
  simp only [isGraphB, Bool.and_eq_true, decide_eq_true_eq] at h
  exact h.1
theorem ok_at {ns : List Nd} (h : isGraphB ns = true) (m : Nat) (hm : m < ns.length) : nodeOk ns m ns[m] = true := by
  simp only [isGraphB, Bool.and_eq_true, List.all_eq_true] at h
  simpa [hm] using h.2 m (by simpa using hm)
theorem line_len (n : Nd) (h : NdWf n) : (lineL n).length ≤ 120 := by
  obtain ⟨h1, h2, h3, h4, h5, h6⟩ := h
  have l2 := Lib.itoa_length_le n.a h2.1 h2.2
  have l3 := Lib.itoa_length_le n.b h3.1 h3.2
  have l4 := Lib.itoa_length_le n.k h4.1 h4.2
  have l5 := Lib.itoa_length_le n.rows h5.1 h5.2
  have l6 := Lib.itoa_length_le n.cols h6.1 h6.2
  have lw : (wordL n.op).length ≤ 5 := by unfold wordL; repeat' split
                                          all_goals simp
  unfold lineL numsOf
  simp only [List.length_append, List.flatMap_append]
  have a1 : ∀ (b : Bool) (x : Int), (Lib.itoa x).length ≤ 21 → ((if b = true then [x] else []).flatMap (fun x => 32 :: Lib.itoa x)).length ≤ 22 := by
    intro b x hx; cases b <;> simp; omega
  have a2 : ((if sizedB n.op = true then [n.rows, n.cols] else []).flatMap (fun x => 32 :: Lib.itoa x)).length ≤ 44 := by
    cases sizedB n.op <;> simp; omega
  have a3 := a1 (countedB n.op) n.k l4
  have a4 := a1 (decide (0 < partsZ n.op)) n.a l2
  have a5 := a1 (decide (1 < partsZ n.op)) n.b l3
  simp only [decide_eq_true_eq] at a4 a5
  simp only [List.length_cons, List.length_nil]
  omega
theorem print_len (ns : List Nd) (hw : Wf ns) : ∀ m, m ≤ ns.length → (printL (ns.take m)).length ≤ m * 120 := by
  intro m
  induction m with
  | zero => intro _; simp [printL]
  | succ m ih =>
    intro h
    rw [printL_step ns m (by omega), List.length_append]
    have := ih (by omega)
    have := line_len ns[m] (hw m (by omega))
    omega
theorem line1 (l : List UInt8) (n : Nd) (h : n.op = 1) : bs l ++ bs (wordL 1) ++ ⟨#[32]⟩ ++ bs (Lib.itoa n.k) ++ ⟨#[32]⟩ ++ bs (Lib.itoa n.rows) ++ ⟨#[32]⟩ ++ bs (Lib.itoa n.cols) ++ ⟨#[10]⟩ = bs (l ++ lineL n) := by
  have e1 : (⟨#[32]⟩ : ByteArray) = bs [32] := rfl
  have e2 : (⟨#[10]⟩ : ByteArray) = bs [10] := rfl
  rw [e1, e2]
  simp only [bs_add]
  congr 1
  simp [lineL, numsOf, h, wordL, countedB, partsZ, sizedB]
theorem line2 (l : List UInt8) (n : Nd) (h : n.op = 2) : bs l ++ bs (wordL 2) ++ ⟨#[32]⟩ ++ bs (Lib.itoa n.k) ++ ⟨#[32]⟩ ++ bs (Lib.itoa n.rows) ++ ⟨#[32]⟩ ++ bs (Lib.itoa n.cols) ++ ⟨#[10]⟩ = bs (l ++ lineL n) := by
  have e1 : (⟨#[32]⟩ : ByteArray) = bs [32] := rfl
  have e2 : (⟨#[10]⟩ : ByteArray) = bs [10] := rfl
  rw [e1, e2]
  simp only [bs_add]
  congr 1
  simp [lineL, numsOf, h, wordL, countedB, partsZ, sizedB]
theorem line3 (l : List UInt8) (n : Nd) (h : n.op = 3) : bs l ++ bs (wordL 3) ++ ⟨#[32]⟩ ++ bs (Lib.itoa n.a) ++ ⟨#[32]⟩ ++ bs (Lib.itoa n.b) ++ ⟨#[10]⟩ = bs (l ++ lineL n) := by
  have e1 : (⟨#[32]⟩ : ByteArray) = bs [32] := rfl
  have e2 : (⟨#[10]⟩ : ByteArray) = bs [10] := rfl
  rw [e1, e2]
  simp only [bs_add]
  congr 1
  simp [lineL, numsOf, h, wordL, countedB, partsZ, sizedB]
theorem line4 (l : List UInt8) (n : Nd) (h : n.op = 4) : bs l ++ bs (wordL 4) ++ ⟨#[32]⟩ ++ bs (Lib.itoa n.a) ++ ⟨#[32]⟩ ++ bs (Lib.itoa n.b) ++ ⟨#[10]⟩ = bs (l ++ lineL n) := by
  have e1 : (⟨#[32]⟩ : ByteArray) = bs [32] := rfl
  have e2 : (⟨#[10]⟩ : ByteArray) = bs [10] := rfl
  rw [e1, e2]
  simp only [bs_add]
  congr 1
  simp [lineL, numsOf, h, wordL, countedB, partsZ, sizedB]
theorem line5 (l : List UInt8) (n : Nd) (h : n.op = 5) : bs l ++ bs (wordL 5) ++ ⟨#[32]⟩ ++ bs (Lib.itoa n.a) ++ ⟨#[32]⟩ ++ bs (Lib.itoa n.b) ++ ⟨#[10]⟩ = bs (l ++ lineL n) := by
  have e1 : (⟨#[32]⟩ : ByteArray) = bs [32] := rfl
  have e2 : (⟨#[10]⟩ : ByteArray) = bs [10] := rfl
  rw [e1, e2]
  simp only [bs_add]
  congr 1
  simp [lineL, numsOf, h, wordL, countedB, partsZ, sizedB]
theorem line6 (l : List UInt8) (n : Nd) (h : n.op = 6) : bs l ++ bs (wordL 6) ++ ⟨#[32]⟩ ++ bs (Lib.itoa n.k) ++ ⟨#[32]⟩ ++ bs (Lib.itoa n.a) ++ ⟨#[10]⟩ = bs (l ++ lineL n) := by
  have e1 : (⟨#[32]⟩ : ByteArray) = bs [32] := rfl
  have e2 : (⟨#[10]⟩ : ByteArray) = bs [10] := rfl
  rw [e1, e2]
  simp only [bs_add]
  congr 1
  simp [lineL, numsOf, h, wordL, countedB, partsZ, sizedB]
theorem line7 (l : List UInt8) (n : Nd) (h : n.op = 7) : bs l ++ bs (wordL 7) ++ ⟨#[32]⟩ ++ bs (Lib.itoa n.a) ++ ⟨#[32]⟩ ++ bs (Lib.itoa n.b) ++ ⟨#[10]⟩ = bs (l ++ lineL n) := by
  have e1 : (⟨#[32]⟩ : ByteArray) = bs [32] := rfl
  have e2 : (⟨#[10]⟩ : ByteArray) = bs [10] := rfl
  rw [e1, e2]
  simp only [bs_add]
  congr 1
  simp [lineL, numsOf, h, wordL, countedB, partsZ, sizedB]
theorem line8 (l : List UInt8) (n : Nd) (h : n.op = 8) : bs l ++ bs (wordL 8) ++ ⟨#[32]⟩ ++ bs (Lib.itoa n.a) ++ ⟨#[10]⟩ = bs (l ++ lineL n) := by
  have e1 : (⟨#[32]⟩ : ByteArray) = bs [32] := rfl
  have e2 : (⟨#[10]⟩ : ByteArray) = bs [10] := rfl
  rw [e1, e2]
  simp only [bs_add]
  congr 1
  simp [lineL, numsOf, h, wordL, countedB, partsZ, sizedB]

set_option maxHeartbeats 4000000 in
theorem rprint_yes (ns : List Nd) (ao : Option Addr) (cap : Nat) (w : World) (hn : Nodes w ao ns) (hs : ns.length * 48 ≤ 140737488351232) (hw : Wf ns) (hg : isGraphB ns = true) :
    Calls Tryd.prog 7 #[.slice ao ns.length cap] w fun e w' => e = .returned (.tuple #[.string (bs (printL ns)), .int .i64 0]) ∧ Below w.heap.size w w' := by
  have h100 := len100 hg
  go_enter Tryd.func7, Tryd.ntmps7
  go_wp2_with (first | (go_at_call 14; refine (isGraph_any ns _ _ _ hn hs).mono ?_; rintro e w1 ⟨rfl, hb1⟩) | (go_at_call 15; refine (words_any _).mono ?_; rintro e w2 ⟨rfl, hwd, hb2⟩))
  have hbw := Bl.trans hb1 hb2
  have HG : Hid (isGraphB ns = true) := hg
  clear hg
  go_loopw [6, 7] (fun s j wr => ∃ m : Nat, m ≤ ns.length ∧ j = .int .i64 m ∧ s = .string (bs (printL (ns.take m))) ∧ Below w2.heap.size w2 wr) (fun _ j _ => ns.length - (intOf j).toNat)
  case atStart => exact ⟨0, Nat.zero_le _, rfl, rfl, Bl.refl _⟩
  case round =>
    obtain ⟨m, hm, rfl, rfl, hbr⟩ := hrel
    by_cases hlt : m < ns.length
    · obtain ⟨bl, off, rfl, hbs, c0, c1, c2, c3, c4, c5⟩ := hn.below (Bl.trans hbw hbr) m hlt
      obtain ⟨hws, d1, d2, d3, d4, d5, d6, d7, d8⟩ := hwd.below hbr
      have hop := op_range (ok_at HG.out m hlt)
      obtain ⟨⟨x1, x2⟩, ⟨x3, x4⟩, ⟨x5, x6⟩, ⟨x7, x8⟩, ⟨x9, x10⟩, ⟨x11, x12⟩⟩ := hw m hlt
      have HP : Hid (printL (ns.take (m + 1)) = printL (ns.take m) ++ lineL ns[m]) := printL_step ns m hlt
      have hal := al1 hws
      have zs : (bs (printL (ns.take m))).size ≤ 12000 := by rw [bs_size]; have := print_len ns hw m hm; omega
      have za := itoa_len ns[m].a x3 x4
      have zb := itoa_len ns[m].b x5 x6
      have zk := itoa_len ns[m].k x7 x8
      have zr := itoa_len ns[m].rows x9 x10
      have zc := itoa_len ns[m].cols x11 x12
      have y1 : (bs (wordL 1)).size = 2 := rfl
      have y2 : (bs (wordL 2)).size = 4 := rfl
      have y3 : (bs (wordL 3)).size = 3 := rfl
      have y4 : (bs (wordL 4)).size = 3 := rfl
      have y5 : (bs (wordL 5)).size = 3 := rfl
      have y6 : (bs (wordL 6)).size = 5 := rfl
      have y7 : (bs (wordL 7)).size = 5 := rfl
      have y8 : (bs (wordL 8)).size = 4 := rfl
      generalize hl : printL (ns.take m) = l at *
      have HL : Hid (printL (ns.take m) = l) := hl
      clear hl
      rcases hop with ho | ho | ho | ho | ho | ho | ho | ho
      · rw [ho] at c0
        have HO : Hid (ns[m].op = 1) := ho
        clear ho
        have q1 : partsZ 1 = 0 := rfl
        have q2 : countedB 1 = true := rfl
        have q3 : sizedB 1 = true := rfl
        go_wp2_with (first | (go_at_call 16; refine (counted_any _ _).mono ?_; rintro e w' ⟨rfl, rfl⟩) | (go_at_call 18; refine (parts_any _ _).mono ?_; rintro e w' ⟨rfl, rfl⟩) | (go_at_call 19; refine (sized_any _ _).mono ?_; rintro e w' ⟨rfl, rfl⟩) | (go_at_call 17; refine (decimal_any _ _ (by omega) (by omega)).mono ?_; rintro e w' ⟨rfl, rfl⟩))
        go_quiet ((go_at_call 17; exact Calls.quiet_of_same (decimal_any _ _ (by omega) (by omega))))
        go_wp2
        go_roundw
        case rel => exact ⟨m + 1, by omega, by go_num, congrArg Value.string (by rw [HP.out]; exact line1 l ns[m] HO.out), Bl.drew (Bl.more hbr _) _⟩
        case measure => simp [intOf]; omega
      · rw [ho] at c0
        have HO : Hid (ns[m].op = 2) := ho
        clear ho
        have q1 : partsZ 2 = 0 := rfl
        have q2 : countedB 2 = true := rfl
        have q3 : sizedB 2 = true := rfl
        go_wp2_with (first | (go_at_call 16; refine (counted_any _ _).mono ?_; rintro e w' ⟨rfl, rfl⟩) | (go_at_call 18; refine (parts_any _ _).mono ?_; rintro e w' ⟨rfl, rfl⟩) | (go_at_call 19; refine (sized_any _ _).mono ?_; rintro e w' ⟨rfl, rfl⟩) | (go_at_call 17; refine (decimal_any _ _ (by omega) (by omega)).mono ?_; rintro e w' ⟨rfl, rfl⟩))
        go_quiet ((go_at_call 17; exact Calls.quiet_of_same (decimal_any _ _ (by omega) (by omega))))
        go_wp2
        go_roundw
        case rel => exact ⟨m + 1, by omega, by go_num, congrArg Value.string (by rw [HP.out]; exact line2 l ns[m] HO.out), Bl.drew (Bl.more hbr _) _⟩
        case measure => simp [intOf]; omega
      · rw [ho] at c0
        have HO : Hid (ns[m].op = 3) := ho
        clear ho
        have q1 : partsZ 3 = 2 := rfl
        have q2 : countedB 3 = false := rfl
        have q3 : sizedB 3 = false := rfl
        go_wp2_with (first | (go_at_call 16; refine (counted_any _ _).mono ?_; rintro e w' ⟨rfl, rfl⟩) | (go_at_call 18; refine (parts_any _ _).mono ?_; rintro e w' ⟨rfl, rfl⟩) | (go_at_call 19; refine (sized_any _ _).mono ?_; rintro e w' ⟨rfl, rfl⟩) | (go_at_call 17; refine (decimal_any _ _ (by omega) (by omega)).mono ?_; rintro e w' ⟨rfl, rfl⟩))
        go_roundw
        case rel => exact ⟨m + 1, by omega, by go_num, congrArg Value.string (by rw [HP.out]; exact line3 l ns[m] HO.out), Bl.more hbr _⟩
        case measure => simp [intOf]; omega
      · rw [ho] at c0
        have HO : Hid (ns[m].op = 4) := ho
        clear ho
        have q1 : partsZ 4 = 2 := rfl
        have q2 : countedB 4 = false := rfl
        have q3 : sizedB 4 = false := rfl
        go_wp2_with (first | (go_at_call 16; refine (counted_any _ _).mono ?_; rintro e w' ⟨rfl, rfl⟩) | (go_at_call 18; refine (parts_any _ _).mono ?_; rintro e w' ⟨rfl, rfl⟩) | (go_at_call 19; refine (sized_any _ _).mono ?_; rintro e w' ⟨rfl, rfl⟩) | (go_at_call 17; refine (decimal_any _ _ (by omega) (by omega)).mono ?_; rintro e w' ⟨rfl, rfl⟩))
        go_roundw
        case rel => exact ⟨m + 1, by omega, by go_num, congrArg Value.string (by rw [HP.out]; exact line4 l ns[m] HO.out), Bl.more hbr _⟩
        case measure => simp [intOf]; omega
      · rw [ho] at c0
        have HO : Hid (ns[m].op = 5) := ho
        clear ho
        have q1 : partsZ 5 = 2 := rfl
        have q2 : countedB 5 = false := rfl
        have q3 : sizedB 5 = false := rfl
        go_wp2_with (first | (go_at_call 16; refine (counted_any _ _).mono ?_; rintro e w' ⟨rfl, rfl⟩) | (go_at_call 18; refine (parts_any _ _).mono ?_; rintro e w' ⟨rfl, rfl⟩) | (go_at_call 19; refine (sized_any _ _).mono ?_; rintro e w' ⟨rfl, rfl⟩) | (go_at_call 17; refine (decimal_any _ _ (by omega) (by omega)).mono ?_; rintro e w' ⟨rfl, rfl⟩))
        go_roundw
        case rel => exact ⟨m + 1, by omega, by go_num, congrArg Value.string (by rw [HP.out]; exact line5 l ns[m] HO.out), Bl.more hbr _⟩
        case measure => simp [intOf]; omega
      · rw [ho] at c0
        have HO : Hid (ns[m].op = 6) := ho
        clear ho
        have q1 : partsZ 6 = 1 := rfl
        have q2 : countedB 6 = true := rfl
        have q3 : sizedB 6 = false := rfl
        go_wp2_with (first | (go_at_call 16; refine (counted_any _ _).mono ?_; rintro e w' ⟨rfl, rfl⟩) | (go_at_call 18; refine (parts_any _ _).mono ?_; rintro e w' ⟨rfl, rfl⟩) | (go_at_call 19; refine (sized_any _ _).mono ?_; rintro e w' ⟨rfl, rfl⟩) | (go_at_call 17; refine (decimal_any _ _ (by omega) (by omega)).mono ?_; rintro e w' ⟨rfl, rfl⟩))
        go_roundw
        case rel => exact ⟨m + 1, by omega, by go_num, congrArg Value.string (by rw [HP.out]; exact line6 l ns[m] HO.out), Bl.more hbr _⟩
        case measure => simp [intOf]; omega
      · rw [ho] at c0
        have HO : Hid (ns[m].op = 7) := ho
        clear ho
        have q1 : partsZ 7 = 2 := rfl
        have q2 : countedB 7 = false := rfl
        have q3 : sizedB 7 = false := rfl
        go_wp2_with (first | (go_at_call 16; refine (counted_any _ _).mono ?_; rintro e w' ⟨rfl, rfl⟩) | (go_at_call 18; refine (parts_any _ _).mono ?_; rintro e w' ⟨rfl, rfl⟩) | (go_at_call 19; refine (sized_any _ _).mono ?_; rintro e w' ⟨rfl, rfl⟩) | (go_at_call 17; refine (decimal_any _ _ (by omega) (by omega)).mono ?_; rintro e w' ⟨rfl, rfl⟩))
        go_roundw
        case rel => exact ⟨m + 1, by omega, by go_num, congrArg Value.string (by rw [HP.out]; exact line7 l ns[m] HO.out), Bl.more hbr _⟩
        case measure => simp [intOf]; omega
      · rw [ho] at c0
        have HO : Hid (ns[m].op = 8) := ho
        clear ho
        have q1 : partsZ 8 = 1 := rfl
        have q2 : countedB 8 = false := rfl
        have q3 : sizedB 8 = false := rfl
        go_wp2_with (first | (go_at_call 16; refine (counted_any _ _).mono ?_; rintro e w' ⟨rfl, rfl⟩) | (go_at_call 18; refine (parts_any _ _).mono ?_; rintro e w' ⟨rfl, rfl⟩) | (go_at_call 19; refine (sized_any _ _).mono ?_; rintro e w' ⟨rfl, rfl⟩) | (go_at_call 17; refine (decimal_any _ _ (by omega) (by omega)).mono ?_; rintro e w' ⟨rfl, rfl⟩))
        go_roundw
        case rel => exact ⟨m + 1, by omega, by go_num, congrArg Value.string (by rw [HP.out]; exact line8 l ns[m] HO.out), Bl.more hbr _⟩
        case measure => simp [intOf]; omega
    · have hml : m = ns.length := by omega
      subst hml
      rw [List.take_length]
      have HM : Hid (¬ ns.length < ns.length) := hlt
      clear hlt
      go_wp2
      go_ret2
      exact ⟨rfl, Bl.trans hbw hbr⟩
end Go.Proofs.YtanlmfcllebopaaDoorRR
