/- thriftref.placed at an input, walked. -/
import Derived.Test.YtlcmllmphpllbaaGreatDoorWc
namespace Go.Proofs.YtlcmllmphpllbaaGreatDoor
open Go.RowKit

theorem clash_step (x y : Bool) (h : x = y) : Value.bool x = .bool y := by rw [h]
theorem any_take (f : Nd → Bool) (ns : List Nd) (m : Nat) (h : m < ns.length) : (ns.take (m + 1)).any f = ((ns.take m).any f || f ns[m]) := by
  rw [List.take_succ_eq_append_getElem h, List.any_append]; simp
theorem shape_in (na nb nk r c ap aa ab ak ar ac bp ba bb bk br bc : Int) (w : World) :
    Calls Tryz.prog 21 #[.agg #[.int .i64 1, .int .i64 na, .int .i64 nb, .int .i64 nk, .int .i64 r, .int .i64 c], .agg #[.int .i64 ap, .int .i64 aa, .int .i64 ab, .int .i64 ak, .int .i64 ar, .int .i64 ac],
        .agg #[.int .i64 bp, .int .i64 ba, .int .i64 bb, .int .i64 bk, .int .i64 br, .int .i64 bc]] w
      fun e w' => e = .returned (.tuple #[.int .i64 r, .int .i64 c, .bool (sideB r && sideB c)]) ∧ Below w.heap.size w w' :=
  shape_any ⟨1, na, nb, nk, r, c⟩ ⟨ap, aa, ab, ak, ar, ac⟩ ⟨bp, ba, bb, bk, br, bc⟩ w
theorem placedZ_in (ns : List Nd) (i : Nat) (a b k r c : Int) : placedZ ns i ⟨1, a, b, k, r, c⟩ = (r, c, sideB r && sideB c && decide (0 ≤ k) && decide (k < 8) && !(ns.take i).any (clash ⟨1, a, b, k, r, c⟩)) := rfl

-- an input
set_option maxHeartbeats 2000000 in
theorem placed_in (ns : List Nd) (i : Nat) (hi : i < ns.length) (a b k r c : Int) (ao : Option Addr) (cap : Nat) (w : World) (hn : Nodes w ao ns) (hs : ns.length * 48 ≤ 140737488351232)
    (he : ns[i] = ⟨1, a, b, k, r, c⟩) :
    Calls Tryz.prog 14 #[.slice ao ns.length cap, .int .i64 i] w fun e w' => e = .returned (trip (placedZ ns i ⟨1, a, b, k, r, c⟩)) ∧ Below w.heap.size w w' := by
  rw [placedZ_in]
  obtain ⟨bl, off, rfl, hbs, c0, c1, c2, c3, c4, c5⟩ := hn i hi
  rw [he] at c0 c1 c2 c3 c4 c5
  have HE : Hid (ns[i] = ⟨1, a, b, k, r, c⟩) := he
  clear he
  simp only [] at c0 c1 c2 c3 c4 c5
  have hp : partsZ 1 = 0 := rfl
  have hal := al3 hbs
  have hil : i ≤ ns.length := by omega
  cases hsd : (sideB r && sideB c)
  · 
    go_enter Tryz.func14, Tryz.ntmps14
    go_wp2_with (first | (go_at_call 19; refine (parts_any _ _).mono ?_; rintro e w' ⟨rfl, rfl⟩) | (go_at_call 20; refine (ahead_any _ _ _).mono ?_; rintro e w' ⟨rfl, rfl⟩) | (go_at_call 21; refine (shape_in _ _ _ _ _ _ _ _ _ _ _ _ _ _ _ _ _ _).mono ?_; rintro e w1 ⟨rfl, hb1⟩; obtain ⟨hcc, hff⟩ := bcell hb1))
    have hw1 : Below w.heap.size w w1 := Bl.trans (Bl.more (Bl.more (Bl.more (Bl.refl _) _) _) _) hb1
    have hz1 : w.heap.size < w1.heap.size := by have := hb1.size; simp at this; omega
    have n3 : w1.cell? ⟨w.heap.size, 3, none⟩ = some (.int .i64 k) := by rw [hcc _ _ (by first | omega | (simp; omega))]; simp [go_sem]
    have n4 : w1.cell? ⟨w.heap.size, 4, none⟩ = some (.int .i64 r) := by rw [hcc _ _ (by first | omega | (simp; omega))]; simp [go_sem]
    have n5 : w1.cell? ⟨w.heap.size, 5, none⟩ = some (.int .i64 c) := by rw [hcc _ _ (by first | omega | (simp; omega))]; simp [go_sem]
    clear hcc hff hb1 hal c0 c1 c2 c3 c4 c5 hbs
    go_loopw [15, 16] (fun ok j wr => ∃ m : Nat, m ≤ i ∧ j = .int .i64 m ∧ ok = .bool (false && !(ns.take m).any (clash ⟨1, a, b, k, r, c⟩)) ∧ Below w1.heap.size w1 wr) (fun _ j _ => i - (intOf j).toNat)
    case atStart => exact ⟨0, Nat.zero_le _, rfl, by simp, Bl.refl _⟩
    case round =>
      obtain ⟨m, hm, rfl, rfl, hbr⟩ := hrel
      have hml : m ≤ ns.length := by omega
      by_cases hlt : m < i
      · have hml' : m < ns.length := by omega
        obtain ⟨bl', off', hq, hbs', e0, e1, e2, e3, e4, e5⟩ := (hn m hml').below (Bl.trans hw1 hbr)
        simp only [Option.some.injEq, Addr.mk.injEq, and_true] at hq
        obtain ⟨rfl, rfl⟩ := hq
        have m3 : wr.cell? ⟨w.heap.size, 3, none⟩ = some (.int .i64 k) := (hbr.cell (by exact hz1)).trans n3
        have m4 : wr.cell? ⟨w.heap.size, 4, none⟩ = some (.int .i64 r) := (hbr.cell (by exact hz1)).trans n4
        have m5 : wr.cell? ⟨w.heap.size, 5, none⟩ = some (.int .i64 c) := (hbr.cell (by exact hz1)).trans n5
        have hzr : w.heap.size < wr.heap.size := Nat.lt_of_lt_of_le hz1 hbr.size
        have hal' := al1 hzr
        have HT := any_take (clash ⟨1, a, b, k, r, c⟩) ns m hml'
        have HT' : Hid ((ns.take (m + 1)).any (clash ⟨1, a, b, k, r, c⟩) = ((ns.take m).any (clash ⟨1, a, b, k, r, c⟩) || clash ⟨1, a, b, k, r, c⟩ ns[m])) := HT
        clear HT
        generalize hA : (ns.take m).any (clash ⟨1, a, b, k, r, c⟩) = A at *
        have HA : Hid ((ns.take m).any (clash ⟨1, a, b, k, r, c⟩) = A) := hA
        clear hA n3 n4 n5
        go_wp2
        all_goals
          go_roundw
          case rel => exact ⟨m + 1, by omega, by go_num, clash_step _ _ (by rw [HT'.out, Bool.eq_iff_iff]; simp [clash, *]), Bl.more hbr _⟩
          case measure => simp [intOf]; omega
      · have hmi : m = i := by omega
        subst hmi
        have HM : Hid (¬ m < m) := hlt
        clear hlt
        go_wp2
        go_ret3
        exact ⟨by rw [trip]; simp, Bl.trans hw1 hbr⟩

  · by_cases hk0 : 0 ≤ k
    · 
      go_enter Tryz.func14, Tryz.ntmps14
      go_wp2_with (first | (go_at_call 19; refine (parts_any _ _).mono ?_; rintro e w' ⟨rfl, rfl⟩) | (go_at_call 20; refine (ahead_any _ _ _).mono ?_; rintro e w' ⟨rfl, rfl⟩) | (go_at_call 21; refine (shape_in _ _ _ _ _ _ _ _ _ _ _ _ _ _ _ _ _ _).mono ?_; rintro e w1 ⟨rfl, hb1⟩; obtain ⟨hcc, hff⟩ := bcell hb1))
      have hw1 : Below w.heap.size w w1 := Bl.trans (Bl.more (Bl.more (Bl.more (Bl.refl _) _) _) _) hb1
      have hz1 : w.heap.size < w1.heap.size := by have := hb1.size; simp at this; omega
      have n3 : w1.cell? ⟨w.heap.size, 3, none⟩ = some (.int .i64 k) := by rw [hcc _ _ (by first | omega | (simp; omega))]; simp [go_sem]
      have n4 : w1.cell? ⟨w.heap.size, 4, none⟩ = some (.int .i64 r) := by rw [hcc _ _ (by first | omega | (simp; omega))]; simp [go_sem]
      have n5 : w1.cell? ⟨w.heap.size, 5, none⟩ = some (.int .i64 c) := by rw [hcc _ _ (by first | omega | (simp; omega))]; simp [go_sem]
      clear hcc hff hb1 hal c0 c1 c2 c3 c4 c5 hbs
      go_loopw [15, 16] (fun ok j wr => ∃ m : Nat, m ≤ i ∧ j = .int .i64 m ∧ ok = .bool (decide (k < 8) && !(ns.take m).any (clash ⟨1, a, b, k, r, c⟩)) ∧ Below w1.heap.size w1 wr) (fun _ j _ => i - (intOf j).toNat)
      case atStart => exact ⟨0, Nat.zero_le _, rfl, by simp, Bl.refl _⟩
      case round =>
        obtain ⟨m, hm, rfl, rfl, hbr⟩ := hrel
        have hml : m ≤ ns.length := by omega
        by_cases hlt : m < i
        · have hml' : m < ns.length := by omega
          obtain ⟨bl', off', hq, hbs', e0, e1, e2, e3, e4, e5⟩ := (hn m hml').below (Bl.trans hw1 hbr)
          simp only [Option.some.injEq, Addr.mk.injEq, and_true] at hq
          obtain ⟨rfl, rfl⟩ := hq
          have m3 : wr.cell? ⟨w.heap.size, 3, none⟩ = some (.int .i64 k) := (hbr.cell (by exact hz1)).trans n3
          have m4 : wr.cell? ⟨w.heap.size, 4, none⟩ = some (.int .i64 r) := (hbr.cell (by exact hz1)).trans n4
          have m5 : wr.cell? ⟨w.heap.size, 5, none⟩ = some (.int .i64 c) := (hbr.cell (by exact hz1)).trans n5
          have hzr : w.heap.size < wr.heap.size := Nat.lt_of_lt_of_le hz1 hbr.size
          have hal' := al1 hzr
          have HT := any_take (clash ⟨1, a, b, k, r, c⟩) ns m hml'
          have HT' : Hid ((ns.take (m + 1)).any (clash ⟨1, a, b, k, r, c⟩) = ((ns.take m).any (clash ⟨1, a, b, k, r, c⟩) || clash ⟨1, a, b, k, r, c⟩ ns[m])) := HT
          clear HT
          generalize hA : (ns.take m).any (clash ⟨1, a, b, k, r, c⟩) = A at *
          have HA : Hid ((ns.take m).any (clash ⟨1, a, b, k, r, c⟩) = A) := hA
          clear hA n3 n4 n5
          go_wp2
          all_goals
            go_roundw
            case rel => exact ⟨m + 1, by omega, by go_num, clash_step _ _ (by rw [HT'.out, Bool.eq_iff_iff]; simp [clash, *]), Bl.more hbr _⟩
            case measure => simp [intOf]; omega
        · have hmi : m = i := by omega
          subst hmi
          have HM : Hid (¬ m < m) := hlt
          clear hlt
          go_wp2
          go_ret3
          exact ⟨by rw [trip]; simp [hk0], Bl.trans hw1 hbr⟩

    · have hk0' : k < 0 := by omega
      go_enter Tryz.func14, Tryz.ntmps14
      go_wp2_with (first | (go_at_call 19; refine (parts_any _ _).mono ?_; rintro e w' ⟨rfl, rfl⟩) | (go_at_call 20; refine (ahead_any _ _ _).mono ?_; rintro e w' ⟨rfl, rfl⟩) | (go_at_call 21; refine (shape_in _ _ _ _ _ _ _ _ _ _ _ _ _ _ _ _ _ _).mono ?_; rintro e w1 ⟨rfl, hb1⟩; obtain ⟨hcc, hff⟩ := bcell hb1))
      have hw1 : Below w.heap.size w w1 := Bl.trans (Bl.more (Bl.more (Bl.more (Bl.refl _) _) _) _) hb1
      have hz1 : w.heap.size < w1.heap.size := by have := hb1.size; simp at this; omega
      have n3 : w1.cell? ⟨w.heap.size, 3, none⟩ = some (.int .i64 k) := by rw [hcc _ _ (by first | omega | (simp; omega))]; simp [go_sem]
      have n4 : w1.cell? ⟨w.heap.size, 4, none⟩ = some (.int .i64 r) := by rw [hcc _ _ (by first | omega | (simp; omega))]; simp [go_sem]
      have n5 : w1.cell? ⟨w.heap.size, 5, none⟩ = some (.int .i64 c) := by rw [hcc _ _ (by first | omega | (simp; omega))]; simp [go_sem]
      clear hcc hff hb1 hal c0 c1 c2 c3 c4 c5 hbs
      go_loopw [15, 16] (fun ok j wr => ∃ m : Nat, m ≤ i ∧ j = .int .i64 m ∧ ok = .bool (false && !(ns.take m).any (clash ⟨1, a, b, k, r, c⟩)) ∧ Below w1.heap.size w1 wr) (fun _ j _ => i - (intOf j).toNat)
      case atStart => exact ⟨0, Nat.zero_le _, rfl, by simp, Bl.refl _⟩
      case round =>
        obtain ⟨m, hm, rfl, rfl, hbr⟩ := hrel
        have hml : m ≤ ns.length := by omega
        by_cases hlt : m < i
        · have hml' : m < ns.length := by omega
          obtain ⟨bl', off', hq, hbs', e0, e1, e2, e3, e4, e5⟩ := (hn m hml').below (Bl.trans hw1 hbr)
          simp only [Option.some.injEq, Addr.mk.injEq, and_true] at hq
          obtain ⟨rfl, rfl⟩ := hq
          have m3 : wr.cell? ⟨w.heap.size, 3, none⟩ = some (.int .i64 k) := (hbr.cell (by exact hz1)).trans n3
          have m4 : wr.cell? ⟨w.heap.size, 4, none⟩ = some (.int .i64 r) := (hbr.cell (by exact hz1)).trans n4
          have m5 : wr.cell? ⟨w.heap.size, 5, none⟩ = some (.int .i64 c) := (hbr.cell (by exact hz1)).trans n5
          have hzr : w.heap.size < wr.heap.size := Nat.lt_of_lt_of_le hz1 hbr.size
          have hal' := al1 hzr
          have HT := any_take (clash ⟨1, a, b, k, r, c⟩) ns m hml'
          have HT' : Hid ((ns.take (m + 1)).any (clash ⟨1, a, b, k, r, c⟩) = ((ns.take m).any (clash ⟨1, a, b, k, r, c⟩) || clash ⟨1, a, b, k, r, c⟩ ns[m])) := HT
          clear HT
          generalize hA : (ns.take m).any (clash ⟨1, a, b, k, r, c⟩) = A at *
          have HA : Hid ((ns.take m).any (clash ⟨1, a, b, k, r, c⟩) = A) := hA
          clear hA n3 n4 n5
          go_wp2
          all_goals
            go_roundw
            case rel => exact ⟨m + 1, by omega, by go_num, clash_step _ _ (by rw [HT'.out, Bool.eq_iff_iff]; simp [clash, *]), Bl.more hbr _⟩
            case measure => simp [intOf]; omega
        · have hmi : m = i := by omega
          subst hmi
          have HM : Hid (¬ m < m) := hlt
          clear hlt
          go_wp2
          go_ret3
          exact ⟨by rw [trip]; simp; omega, Bl.trans hw1 hbr⟩

theorem placed_any (ns : List Nd) (i : Nat) (hi : i < ns.length) (ao : Option Addr) (cap : Nat) (w : World) (hn : Nodes w ao ns) (hs : ns.length * 48 ≤ 140737488351232) :
    Calls Tryz.prog 14 #[.slice ao ns.length cap, .int .i64 i] w fun e w' => ∃ r c ok, Hid (placedZ ns i ns[i] = (r, c, ok)) ∧ e = .returned (.tuple #[.int .i64 r, .int .i64 c, .bool ok]) ∧ Below w.heap.size w w' := by
  have key : Calls Tryz.prog 14 #[.slice ao ns.length cap, .int .i64 i] w fun e w' => e = .returned (trip (placedZ ns i ns[i])) ∧ Below w.heap.size w w' := by
    obtain ⟨op, a, b, k, r, c, he⟩ : ∃ op a b k r c, ns[i] = ⟨op, a, b, k, r, c⟩ := ⟨_, _, _, _, _, _, rfl⟩
    rw [he]
    by_cases h1 : op = 1
    · subst h1; exact placed_in ns i hi a b k r c ao cap w hn hs he
    · by_cases h2 : op = 3 ∨ op = 4 ∨ op = 5 ∨ op = 7
      · exact placed_two ns i hi op a b k r c ao cap w hn he h2
      · by_cases h3 : op = 6 ∨ op = 8
        · exact placed_one ns i hi op a b k r c ao cap w hn he h3
        · exact placed_none ns i hi op a b k r c ao cap w hn he (by simp [partsZ, h2, h3]) (by simpa using h1)
  exact key.mono fun _ _ h => ⟨_, _, _, rfl, h⟩
end Go.Proofs.YtlcmllmphpllbaaGreatDoor
