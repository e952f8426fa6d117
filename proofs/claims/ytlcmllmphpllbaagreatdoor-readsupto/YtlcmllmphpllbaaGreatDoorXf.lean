/- Kind.Uses, graphs.look, walked. -/
import Derived.Test.YtlcmllmphpllbaaGreatDoorXd
import Derived.Test.YtlcmllmphpllbaaGreatDoorXb
namespace Go.Proofs.YtlcmllmphpllbaaGreatDoor
open Go.RowKit

set_option maxHeartbeats 400000 in
theorem index_any (op f : Int) (b : Nat) (w : World) (hs : SaysAt w b op) :
    Calls Tryz.prog 86 #[.slice (some ⟨b, 0, none⟩) (saysZ op).length (saysZ op).length, .int .i64 f] w fun e w' => ∃ r : Int, e = .returned (.int .i64 r) ∧ Hid (0 ≤ r ↔ f ∈ saysZ op) ∧ w' = w := by
  have hl := says_len op
  go_enter Tryz.func86, Tryz.ntmps86
  go_wp2
  go_loop [8] (fun j => ∃ m : Nat, m ≤ (saysZ op).length ∧ j = .int .i64 m ∧ Hid (∀ k, k < m → (h : k < (saysZ op).length) → ¬ f = (saysZ op)[k])) (fun j => (saysZ op).length - (intOf j).toNat)
  case atStart => exact ⟨0, Nat.zero_le _, rfl, fun k hk => absurd hk (Nat.not_lt_zero _)⟩
  case round =>
    obtain ⟨m, hm, rfl, hall⟩ := hrel
    by_cases hlt : m < (saysZ op).length
    · have cs := hs.2 m hlt
      have hmem : Hid ((saysZ op)[m] ∈ saysZ op) := List.getElem_mem hlt
      generalize hx : (saysZ op)[m] = x at cs hmem
      have HX : Hid ((saysZ op)[m] = x) := hx
      clear hx
      cases hfx : (f == x)
      · go_wp2
        go_round
        case rel =>
          refine ⟨m + 1, by omega, by go_num, ?_⟩
          intro k hk h
          by_cases e : k = m
          · subst e; rw [HX.out]; simpa using hfx
          · exact hall.out k (by omega) h
        case measure => simp [intOf]; omega
      · go_wp2
        go_ret
        have e : f = x := by simpa using hfx
        exact ⟨_, rfl, (by constructor; · intro _; rw [e]; exact hmem.out
                           · intro _; omega), rfl⟩
    · have hml : m = (saysZ op).length := by omega
      have hno : Hid (¬ f ∈ saysZ op) := by
        intro hin
        obtain ⟨k, hk, he⟩ := List.getElem_of_mem hin
        exact hall.out k (by omega) hk he.symm
      go_wp2
      go_ret
      exact ⟨_, rfl, (by constructor; · intro h; exact absurd h (by decide)
                         · intro h; exact absurd h hno.out), rfl⟩
set_option maxHeartbeats 400000 in
theorem contains_any (op f : Int) (b : Nat) (w : World) (hs : SaysAt w b op) :
    Calls Tryz.prog 74 #[.slice (some ⟨b, 0, none⟩) (saysZ op).length (saysZ op).length, .int .i64 f] w fun e w' => e = .returned (.bool (decide (f ∈ saysZ op))) ∧ w' = w := by
  go_enter Tryz.func74, Tryz.ntmps74
  go_wp2_with (go_at_call 86; refine (index_any op f b _ hs).mono ?_; rintro e w' ⟨r, rfl, hr, rfl⟩)
  go_ret
  exact ⟨ret_bool (by rw [Bool.eq_iff_iff]; simpa using hr.out), rfl⟩
set_option maxHeartbeats 400000 in
theorem uses_any (op f : Int) (b : Nat) (w : World) (hs : SaysAt w b op) :
    Calls Tryz.prog 62 #[.agg (kindCells op b), .int .i64 f] w fun e w' => e = .returned (.bool (decide (f ∈ saysZ op))) ∧ w' = w.alloc (.cells (kindCells op b) 73) := by
  simp only [kindCells]
  go_enter Tryz.func62, Tryz.ntmps62
  go_wp2_with (go_at_call 74; refine (contains_any op f b _ (by exact hs.below (Bl.more (Bl.refl _) _))).mono ?_; rintro e w' ⟨rfl, rfl⟩)
  go_ret
  exact ⟨rfl, rfl⟩
set_option maxHeartbeats 400000 in
theorem shapeOf_exact (a0 a1 a2 a3 a4 a5 : Int) (w : World) :
    Calls Tryz.prog 63 #[.agg #[.int .i64 a0, .int .i64 a1, .int .i64 a2, .int .i64 a3, .int .i64 a4, .int .i64 a5]] w fun e w' => e = .returned (.agg #[.int .i64 a4, .int .i64 a5]) ∧ w' = (w.alloc (.cells #[.int .i64 a0, .int .i64 a1, .int .i64 a2, .int .i64 a3, .int .i64 a4, .int .i64 a5] 42)).alloc (.cells #[.int .i64 a4, .int .i64 a5] 60) := by
  go_enter Tryz.func63, Tryz.ntmps63
  go_wp2
  exact bodyPost_ret (v := .agg #[.int .i64 a4, .int .i64 a5]) (by simp [results, Tryz.results63, go_sem]) rfl ⟨rfl, rfl⟩

theorem al5 {w : World} {b : Nat} (h : b < w.heap.size) : ∀ o0 o1 o2 o3 o4 x, (((((w.alloc o0).alloc o1).alloc o2).alloc o3).alloc o4).cell? ⟨b, x, none⟩ = w.cell? ⟨b, x, none⟩ := fun o0 o1 o2 o3 o4 _ => (Bl.more (Bl.more (Bl.more (Bl.more (Bl.more (Bl.refl w) o0) o1) o2) o3) o4).cell (by exact h)
theorem al8 {w : World} {b : Nat} (h : b < w.heap.size) : ∀ o0 o1 o2 o3 o4 o5 o6 o7 x, ((((((((w.alloc o0).alloc o1).alloc o2).alloc o3).alloc o4).alloc o5).alloc o6).alloc o7).cell? ⟨b, x, none⟩ = w.cell? ⟨b, x, none⟩ := fun o0 o1 o2 o3 o4 o5 o6 o7 _ => (Bl.more (Bl.more (Bl.more (Bl.more (Bl.more (Bl.more (Bl.more (Bl.more (Bl.refl w) o0) o1) o2) o3) o4) o5) o6) o7).cell (by exact h)
set_option maxHeartbeats 2000000 in
theorem look_two (ns : List Nd) (ao : Option Addr) (cap : Nat) (op : Int) (b : Nat) (n : Nd) (w : World) (hs : SaysAt w b op) (hn : Nodes w ao ns) (h1 : (1 : Int) ∈ saysZ op) (h2 : (2 : Int) ∈ saysZ op)
    (ha : 0 ≤ n.a ∧ n.a < ns.length) (hb : 0 ≤ n.b ∧ n.b < ns.length) :
    Calls Tryz.prog 35 #[.agg (kindCells op b), .slice ao ns.length cap, .agg n.vals] w fun e w' =>
      e = .returned (.agg #[.int .i64 n.op, .int .i64 n.a, .int .i64 n.b, .int .i64 n.k, .int .i64 n.rows, .int .i64 n.cols, .int .i64 (nth ns n.a).rows, .int .i64 (nth ns n.a).cols, .int .i64 (nth ns n.b).rows, .int .i64 (nth ns n.b).cols]) ∧ Below w.heap.size w w' := by
  obtain ⟨nop, na, nb, nk, nr, nc⟩ := n
  simp only [] at ha hb
  obtain ⟨ka, rfl⟩ := Int.eq_ofNat_of_zero_le ha.1
  have hka : ka < ns.length := by omega
  obtain ⟨kb, rfl⟩ := Int.eq_ofNat_of_zero_le hb.1
  have hkb : kb < ns.length := by omega
  clear ha hb
  obtain ⟨bl, off, rfl, hbs, c0, c1, c2, c3, c4, c5⟩ := hn ka hka
  obtain ⟨bl', off', hq, hbs', d0, d1, d2, d3, d4, d5⟩ := hn kb hkb
  simp only [Option.some.injEq, Addr.mk.injEq, and_true] at hq
  obtain ⟨rfl, rfl⟩ := hq
  have hal8 := al8 hbs
  have hal5 := al5 hbs
  simp only [nth_at ns ka hka, nth_at ns kb hkb]
  have k1 : decide ((1 : Int) ∈ saysZ op) = true := by simpa using h1
  have k2 : decide ((2 : Int) ∈ saysZ op) = true := by simpa using h2
  have HS : Hid (SaysAt w b op) := hs
  clear h1 h2 hs
  simp only [Nd.vals]
  have HU : Hid (∀ (f : Int) (w' : World), Below w.heap.size w w' → Calls Tryz.prog 62 #[.agg (kindCells op b), .int .i64 f] w' fun e w'' => e = .returned (.bool (decide (f ∈ saysZ op))) ∧ w'' = w'.alloc (.cells (kindCells op b) 73)) := fun f w' h => uses_any op f b w' (HS.out.below h)
  simp only [kindCells]
  go_enter Tryz.func35, Tryz.ntmps35
  go_wp2_with (first | (go_at_call 62; refine (HU.out _ _ ?_).mono ?_; (repeat (first | exact Bl.refl _ | refine Bl.more ?_ _)); rintro e w' ⟨rfl, rfl⟩) | (go_at_call 63; refine (shapeOf_exact _ _ _ _ _ _ _).mono ?_; rintro e w' ⟨rfl, rfl⟩))
  exact bodyPost_ret (v := .agg #[.int .i64 nop, .int .i64 (ka : Int), .int .i64 (kb : Int), .int .i64 nk, .int .i64 nr, .int .i64 nc, .int .i64 ns[ka].rows, .int .i64 ns[ka].cols, .int .i64 ns[kb].rows, .int .i64 ns[kb].cols]) (by simp [results, Tryz.results35, go_sem]) rfl ⟨rfl, by repeat (first | exact Bl.refl _ | refine Bl.more ?_ _)⟩
set_option maxHeartbeats 2000000 in
theorem look_one (ns : List Nd) (ao : Option Addr) (cap : Nat) (op : Int) (b : Nat) (n : Nd) (w : World) (hs : SaysAt w b op) (hn : Nodes w ao ns) (h1 : (1 : Int) ∈ saysZ op) (h2 : ¬ (2 : Int) ∈ saysZ op)
    (ha : 0 ≤ n.a ∧ n.a < ns.length) :
    Calls Tryz.prog 35 #[.agg (kindCells op b), .slice ao ns.length cap, .agg n.vals] w fun e w' =>
      e = .returned (.agg #[.int .i64 n.op, .int .i64 n.a, .int .i64 n.b, .int .i64 n.k, .int .i64 n.rows, .int .i64 n.cols, .int .i64 (nth ns n.a).rows, .int .i64 (nth ns n.a).cols, .int .i64 0, .int .i64 0]) ∧ Below w.heap.size w w' := by
  obtain ⟨nop, na, nb, nk, nr, nc⟩ := n
  simp only [] at ha
  obtain ⟨ka, rfl⟩ := Int.eq_ofNat_of_zero_le ha.1
  have hka : ka < ns.length := by omega
  clear ha
  obtain ⟨bl, off, rfl, hbs, c0, c1, c2, c3, c4, c5⟩ := hn ka hka
  have hal5 := al5 hbs
  simp only [nth_at ns ka hka]
  have k1 : decide ((1 : Int) ∈ saysZ op) = true := by simpa using h1
  have k2 : decide ((2 : Int) ∈ saysZ op) = false := by simpa using h2
  have HS : Hid (SaysAt w b op) := hs
  clear h1 h2 hs
  simp only [Nd.vals]
  have HU : Hid (∀ (f : Int) (w' : World), Below w.heap.size w w' → Calls Tryz.prog 62 #[.agg (kindCells op b), .int .i64 f] w' fun e w'' => e = .returned (.bool (decide (f ∈ saysZ op))) ∧ w'' = w'.alloc (.cells (kindCells op b) 73)) := fun f w' h => uses_any op f b w' (HS.out.below h)
  simp only [kindCells]
  go_enter Tryz.func35, Tryz.ntmps35
  go_wp2_with (first | (go_at_call 62; refine (HU.out _ _ ?_).mono ?_; (repeat (first | exact Bl.refl _ | refine Bl.more ?_ _)); rintro e w' ⟨rfl, rfl⟩) | (go_at_call 63; refine (shapeOf_exact _ _ _ _ _ _ _).mono ?_; rintro e w' ⟨rfl, rfl⟩))
  exact bodyPost_ret (v := .agg #[.int .i64 nop, .int .i64 (ka : Int), .int .i64 nb, .int .i64 nk, .int .i64 nr, .int .i64 nc, .int .i64 ns[ka].rows, .int .i64 ns[ka].cols, .int .i64 0, .int .i64 0]) (by simp [results, Tryz.results35, go_sem]) rfl ⟨rfl, by repeat (first | exact Bl.refl _ | refine Bl.more ?_ _)⟩
set_option maxHeartbeats 2000000 in
theorem look_none (ns : List Nd) (ao : Option Addr) (cap : Nat) (op : Int) (b : Nat) (n : Nd) (w : World) (hs : SaysAt w b op) (_hn : Nodes w ao ns) (h1 : ¬ (1 : Int) ∈ saysZ op) (h2 : ¬ (2 : Int) ∈ saysZ op) :
    Calls Tryz.prog 35 #[.agg (kindCells op b), .slice ao ns.length cap, .agg n.vals] w fun e w' =>
      e = .returned (.agg #[.int .i64 n.op, .int .i64 n.a, .int .i64 n.b, .int .i64 n.k, .int .i64 n.rows, .int .i64 n.cols, .int .i64 0, .int .i64 0, .int .i64 0, .int .i64 0]) ∧ Below w.heap.size w w' := by
  obtain ⟨nop, na, nb, nk, nr, nc⟩ := n
  have k1 : decide ((1 : Int) ∈ saysZ op) = false := by simpa using h1
  have k2 : decide ((2 : Int) ∈ saysZ op) = false := by simpa using h2
  have HS : Hid (SaysAt w b op) := hs
  clear h1 h2 hs
  simp only [Nd.vals]
  have HU : Hid (∀ (f : Int) (w' : World), Below w.heap.size w w' → Calls Tryz.prog 62 #[.agg (kindCells op b), .int .i64 f] w' fun e w'' => e = .returned (.bool (decide (f ∈ saysZ op))) ∧ w'' = w'.alloc (.cells (kindCells op b) 73)) := fun f w' h => uses_any op f b w' (HS.out.below h)
  simp only [kindCells]
  go_enter Tryz.func35, Tryz.ntmps35
  go_wp2_with (first | (go_at_call 62; refine (HU.out _ _ ?_).mono ?_; (repeat (first | exact Bl.refl _ | refine Bl.more ?_ _)); rintro e w' ⟨rfl, rfl⟩) | (go_at_call 63; refine (shapeOf_exact _ _ _ _ _ _ _).mono ?_; rintro e w' ⟨rfl, rfl⟩))
  exact bodyPost_ret (v := .agg #[.int .i64 nop, .int .i64 na, .int .i64 nb, .int .i64 nk, .int .i64 nr, .int .i64 nc, .int .i64 0, .int .i64 0, .int .i64 0, .int .i64 0]) (by simp [results, Tryz.results35, go_sem]) rfl ⟨rfl, by repeat (first | exact Bl.refl _ | refine Bl.more ?_ _)⟩
end Go.Proofs.YtlcmllmphpllbaaGreatDoor
