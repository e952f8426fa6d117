/- thriftref.placed, walked. -/
import Derived.Test.YtlcmllmphpllbaaGreatDoorWb
namespace Go.Proofs.YtlcmllmphpllbaaGreatDoor
open Go.RowKit

def zeroNd : Nd := ⟨0, 0, 0, 0, 0, 0⟩
def nth (ns : List Nd) (x : Int) : Nd := ns.getD x.toNat zeroNd
def clash (n x : Nd) : Bool := x.op == 1 && x.k == n.k && (x.rows != n.rows || x.cols != n.cols)
def placedZ (ns : List Nd) (i : Nat) (n : Nd) : Int × Int × Bool :=
  if 0 < partsZ n.op ∧ aheadB n.a i = false then (0, 0, false)
  else if 1 < partsZ n.op ∧ aheadB n.b i = false then (0, 0, false)
  else if n.op = 1 then (n.rows, n.cols, sideB n.rows && sideB n.cols && decide (0 ≤ n.k) && decide (n.k < 8) && !(ns.take i).any (clash n))
  else shapeZ n (if 0 < partsZ n.op then nth ns n.a else zeroNd) (if 1 < partsZ n.op then nth ns n.b else zeroNd)

theorem nth_at (ns : List Nd) (k : Nat) (h : k < ns.length) : nth ns (k : Int) = ns[k] := by simp [nth, h]

theorem shape_lit (op na nb nk r c ap aa ab ak ar ac bp ba bb bk br bc : Int) (w : World) :
    Calls Tryz.prog 21 #[.agg #[.int .i64 op, .int .i64 na, .int .i64 nb, .int .i64 nk, .int .i64 r, .int .i64 c], .agg #[.int .i64 ap, .int .i64 aa, .int .i64 ab, .int .i64 ak, .int .i64 ar, .int .i64 ac],
        .agg #[.int .i64 bp, .int .i64 ba, .int .i64 bb, .int .i64 bk, .int .i64 br, .int .i64 bc]] w
      fun e w' => ∃ s, s = shapeZ ⟨op, na, nb, nk, r, c⟩ ⟨ap, aa, ab, ak, ar, ac⟩ ⟨bp, ba, bb, bk, br, bc⟩ ∧ e = .returned (.tuple #[.int .i64 s.1, .int .i64 s.2.1, .bool s.2.2]) ∧ Below w.heap.size w w' :=
  (shape_any ⟨op, na, nb, nk, r, c⟩ ⟨ap, aa, ab, ak, ar, ac⟩ ⟨bp, ba, bb, bk, br, bc⟩ w).mono fun _ _ h => ⟨_, rfl, h⟩

-- a node with one part
set_option maxHeartbeats 1000000 in
theorem placed_one (ns : List Nd) (i : Nat) (hi : i < ns.length) (op a b k r c : Int) (ao : Option Addr) (cap : Nat) (w : World) (hn : Nodes w ao ns)
    (he : ns[i] = ⟨op, a, b, k, r, c⟩) (hop : op = 6 ∨ op = 8) :
    Calls Tryz.prog 14 #[.slice ao ns.length cap, .int .i64 i] w fun e w' => e = .returned (trip (placedZ ns i ⟨op, a, b, k, r, c⟩)) ∧ Below w.heap.size w w' := by
  obtain ⟨bl, off, rfl, hbs, c0, c1, c2, c3, c4, c5⟩ := hn i hi
  rw [he] at c0 c1 c2 c3 c4 c5
  have HE : Hid (ns[i] = ⟨op, a, b, k, r, c⟩) := he
  clear he
  simp only [] at c0 c1 c2 c3 c4 c5
  have hp : partsZ op = 1 := by rcases hop with rfl | rfl <;> rfl
  have h1 : (op == 1) = false := by rcases hop with rfl | rfl <;> rfl
  have HO : Hid (op = 6 ∨ op = 8) := hop
  clear hop
  cases ha : aheadB a i
  · go_enter Tryz.func14, Tryz.ntmps14
    go_wp2_with (first | (go_at_call 19; refine (parts_any _ _).mono ?_; rintro e w' ⟨rfl, rfl⟩) | (go_at_call 20; refine (ahead_any _ _ _).mono ?_; rintro e w' ⟨rfl, rfl⟩))
    go_ret3
    exact ⟨by simp [trip, placedZ, hp, ha], Bl.more (Bl.more (Bl.more (Bl.refl _) _) _) _⟩
  · have hb := ha
    simp only [aheadB, decide_eq_true_eq] at hb
    obtain ⟨ka, rfl⟩ := Int.eq_ofNat_of_zero_le hb.1
    have hka : ka < i := by omega
    have HB : Hid (0 ≤ (ka : Int) ∧ (ka : Int) < i) := hb
    clear hb
    obtain ⟨bl', off', hq, hbs', d0, d1, d2, d3, d4, d5⟩ := hn ka (by omega)
    have hkl : ka < ns.length := by omega
    simp only [Option.some.injEq, Addr.mk.injEq, and_true] at hq
    obtain ⟨rfl, rfl⟩ := hq
    have hal := al3 hbs
    go_enter Tryz.func14, Tryz.ntmps14
    go_wp2_with (first | (go_at_call 19; refine (parts_any _ _).mono ?_; rintro e w' ⟨rfl, rfl⟩) | (go_at_call 20; refine (ahead_any _ _ _).mono ?_; rintro e w' ⟨rfl, rfl⟩) | (go_at_call 21; refine (shape_lit _ _ _ _ _ _ _ _ _ _ _ _ _ _ _ _ _ _ _).mono ?_; rintro e w1 ⟨s, hs1, rfl, hb1⟩; obtain ⟨hcc, hff⟩ := bcell hb1))
    go_ret3
    subst hs1
    refine ⟨?_, Bl.trans (Bl.more (Bl.more (Bl.more (Bl.refl _) _) _) _) hb1⟩
    have hne : ¬ op = 1 := by simpa using h1
    rw [placedZ, if_neg (by simp [ha]), if_neg (by simp [hp]), if_neg hne, if_pos (by simp [hp]), if_neg (by simp [hp]), nth_at ns ka hkl]
    rfl

-- a node with two parts
set_option maxHeartbeats 1000000 in
theorem placed_two (ns : List Nd) (i : Nat) (hi : i < ns.length) (op a b k r c : Int) (ao : Option Addr) (cap : Nat) (w : World) (hn : Nodes w ao ns)
    (he : ns[i] = ⟨op, a, b, k, r, c⟩) (hop : op = 3 ∨ op = 4 ∨ op = 5 ∨ op = 7) :
    Calls Tryz.prog 14 #[.slice ao ns.length cap, .int .i64 i] w fun e w' => e = .returned (trip (placedZ ns i ⟨op, a, b, k, r, c⟩)) ∧ Below w.heap.size w w' := by
  obtain ⟨bl, off, rfl, hbs, c0, c1, c2, c3, c4, c5⟩ := hn i hi
  rw [he] at c0 c1 c2 c3 c4 c5
  have HE : Hid (ns[i] = ⟨op, a, b, k, r, c⟩) := he
  clear he
  simp only [] at c0 c1 c2 c3 c4 c5
  have hp : partsZ op = 2 := by rcases hop with rfl | rfl | rfl | rfl <;> rfl
  have h1 : (op == 1) = false := by rcases hop with rfl | rfl | rfl | rfl <;> rfl
  have HO : Hid (op = 3 ∨ op = 4 ∨ op = 5 ∨ op = 7) := hop
  clear hop
  have hal := al3 hbs
  cases ha : aheadB a i
  · go_enter Tryz.func14, Tryz.ntmps14
    go_wp2_with (first | (go_at_call 19; refine (parts_any _ _).mono ?_; rintro e w' ⟨rfl, rfl⟩) | (go_at_call 20; refine (ahead_any _ _ _).mono ?_; rintro e w' ⟨rfl, rfl⟩))
    go_ret3
    exact ⟨by simp [trip, placedZ, hp, ha], Bl.more (Bl.more (Bl.more (Bl.refl _) _) _) _⟩
  · have hb := ha
    simp only [aheadB, decide_eq_true_eq] at hb
    obtain ⟨ka, rfl⟩ := Int.eq_ofNat_of_zero_le hb.1
    have hka : ka < i := by omega
    clear hb
    obtain ⟨bl', off', hq, hbs', d0, d1, d2, d3, d4, d5⟩ := hn ka (by omega)
    have hkl : ka < ns.length := by omega
    simp only [Option.some.injEq, Addr.mk.injEq, and_true] at hq
    obtain ⟨rfl, rfl⟩ := hq
    cases hb : aheadB b i
    · go_enter Tryz.func14, Tryz.ntmps14
      go_wp2_with (first | (go_at_call 19; refine (parts_any _ _).mono ?_; rintro e w' ⟨rfl, rfl⟩) | (go_at_call 20; refine (ahead_any _ _ _).mono ?_; rintro e w' ⟨rfl, rfl⟩))
      go_ret3
      exact ⟨by simp [trip, placedZ, hp, hb], Bl.more (Bl.more (Bl.more (Bl.refl _) _) _) _⟩
    · have hb' := hb
      simp only [aheadB, decide_eq_true_eq] at hb'
      obtain ⟨kb, rfl⟩ := Int.eq_ofNat_of_zero_le hb'.1
      have hkb : kb < i := by omega
      clear hb'
      obtain ⟨bl', off', hq, hbs', e0, e1, e2, e3, e4, e5⟩ := hn kb (by omega)
      have hkl' : kb < ns.length := by omega
      simp only [Option.some.injEq, Addr.mk.injEq, and_true] at hq
      obtain ⟨rfl, rfl⟩ := hq
      go_enter Tryz.func14, Tryz.ntmps14
      go_wp2_with (first | (go_at_call 19; refine (parts_any _ _).mono ?_; rintro e w' ⟨rfl, rfl⟩) | (go_at_call 20; refine (ahead_any _ _ _).mono ?_; rintro e w' ⟨rfl, rfl⟩) | (go_at_call 21; refine (shape_lit _ _ _ _ _ _ _ _ _ _ _ _ _ _ _ _ _ _ _).mono ?_; rintro e w1 ⟨s, hs1, rfl, hb1⟩; obtain ⟨hcc, hff⟩ := bcell hb1))
      go_ret3
      subst hs1
      refine ⟨?_, Bl.trans (Bl.more (Bl.more (Bl.more (Bl.refl _) _) _) _) hb1⟩
      have hne : ¬ op = 1 := by simpa using h1
      rw [placedZ, if_neg (by simp [ha]), if_neg (by simp [hb]), if_neg hne, if_pos (by simp [hp]), if_pos (by simp [hp]), nth_at ns ka hkl, nth_at ns kb hkl']
      rfl

-- a node without parts that is no input
set_option maxHeartbeats 1000000 in
theorem placed_none (ns : List Nd) (i : Nat) (hi : i < ns.length) (op a b k r c : Int) (ao : Option Addr) (cap : Nat) (w : World) (hn : Nodes w ao ns)
    (he : ns[i] = ⟨op, a, b, k, r, c⟩) (hp : partsZ op = 0) (h1 : (op == 1) = false) :
    Calls Tryz.prog 14 #[.slice ao ns.length cap, .int .i64 i] w fun e w' => e = .returned (trip (placedZ ns i ⟨op, a, b, k, r, c⟩)) ∧ Below w.heap.size w w' := by
  obtain ⟨bl, off, rfl, hbs, c0, c1, c2, c3, c4, c5⟩ := hn i hi
  rw [he] at c0 c1 c2 c3 c4 c5
  have HE : Hid (ns[i] = ⟨op, a, b, k, r, c⟩) := he
  clear he
  simp only [] at c0 c1 c2 c3 c4 c5
  have hal := al3 hbs
  go_enter Tryz.func14, Tryz.ntmps14
  go_wp2_with (first | (go_at_call 19; refine (parts_any _ _).mono ?_; rintro e w' ⟨rfl, rfl⟩) | (go_at_call 20; refine (ahead_any _ _ _).mono ?_; rintro e w' ⟨rfl, rfl⟩) | (go_at_call 21; refine (shape_lit _ _ _ _ _ _ _ _ _ _ _ _ _ _ _ _ _ _ _).mono ?_; rintro e w1 ⟨s, hs1, rfl, hb1⟩; obtain ⟨hcc, hff⟩ := bcell hb1))
  go_ret3
  subst hs1
  refine ⟨?_, Bl.trans (Bl.more (Bl.more (Bl.more (Bl.refl _) _) _) _) hb1⟩
  have hne : ¬ op = 1 := by simpa using h1
  rw [placedZ, if_neg (by simp [hp]), if_neg (by simp [hp]), if_neg hne, if_neg (by simp [hp]), if_neg (by simp [hp])]
  rfl

end Go.Proofs.YtlcmllmphpllbaaGreatDoor
