/- What the library's functions need of the world; texts.readNumber and ops.Named, walked. -/
import Derived.Test.YtlcmllmphpllbaaGreatDoorRd
import Derived.Test.YtlcmllmphpllbaaGreatDoorXd
import Derived.Test.YtlcmllmphpllbaaGreatDoorShelf
import Derived.Lib.LaidTab
import Derived.Lib.ItoaMem
import Derived.LaidMore
namespace Go.Proofs.YtlcmllmphpllbaaGreatDoor
open Go.RowKit

theorem gPow2 : Tryz.prog.globalNamed "internal/strconv.uint64pow10" = some 5 := by kernel_rfl
theorem gSyn : Tryz.prog.globalNamed "strconv.ErrSyntax" = some 3 := by kernel_rfl
theorem gRan : Tryz.prog.globalNamed "strconv.ErrRange" = some 4 := by kernel_rfl
/-- the package variables that are read -/
structure Env (w : World) : Prop where
  ml : ∃ m, w.cell? ⟨0, 0, none⟩ = some (.int .i64 m)
  sy : ∃ tp p, w.var? Tryz.prog "strconv.ErrSyntax" = some #[.iface tp p]
  ra : ∃ tp p, w.var? Tryz.prog "strconv.ErrRange" = some #[.iface tp p]
  tab : Lib.TabIs Tryz.prog w "internal/strconv.uint64pow10" .u64 Lib.pow10Tab
theorem var_lt {w : World} {n : String} {g : Nat} {cs : Array Value} (hg : Tryz.prog.globalNamed n = some g) (h : w.var? Tryz.prog n = some cs) : g < w.heap.size := by
  unfold World.var? at h
  rw [hg, Option.bind_some] at h
  by_cases hl : g < w.heap.size
  · exact hl
  · rw [Array.getElem?_eq_none (by omega)] at h; cases h
theorem Env.below {w w' : World} (h : Env w) (hb : Below w.heap.size w w') : Env w' where
  ml := by
    obtain ⟨m, hm⟩ := h.ml
    exact ⟨m, (hb.cell (World.block_lt_of_cell? w _ hm)).trans hm⟩
  sy := by
    obtain ⟨tp, p, hv⟩ := h.sy
    exact ⟨tp, p, var?_below hb gSyn (var_lt gSyn hv) hv⟩
  ra := by
    obtain ⟨tp, p, hv⟩ := h.ra
    exact ⟨tp, p, var?_below hb gRan (var_lt gRan hv) hv⟩
  tab := var?_below hb gPow2 (World.block_lt_of_cell? w _ (h.tab.cell gPow2 0 (by decide))) h.tab
theorem grow_below2 (w : World) (k : Nat) (os : Array Obj) : Below w.heap.size w (Go.Sort.grow (w.drewN k) os) :=
  ⟨rfl, rfl, rfl, by simp [Go.Sort.grow, World.drewN], fun i hi => by simp [Go.Sort.grow, World.drewN, Array.getElem?_append_left hi]⟩
theorem itoa_txt2 (x : Int) (w : World) (h0 : -9223372036854775808 ≤ x) (h1 : x ≤ 9223372036854775807) (ht : Lib.TabIs Tryz.prog w "internal/strconv.uint64pow10" .u64 Lib.pow10Tab) :
    Calls Tryz.prog 42 #[.int .i64 x] w fun e w' => e = .returned (.string (bs (Lib.itoa x))) ∧ Below w.heap.size w w' :=
  (Tryz.strconv_Itoa x h0 h1 w ht).mono (by rintro e w' ⟨rfl, k, os, rfl⟩; exact ⟨rfl, grow_below2 w k os⟩)
theorem split_txt (s : ByteArray) (b : UInt8) (w : World) (he : Env w) (hs : s.size ≤ 5000) :
    Calls Tryz.prog 22 #[.string s, .string ⟨#[b]⟩] w fun e w' => e = .returned (.slice (some ⟨w.heap.size, 0, none⟩) (segs s b).length (segs s b).length) ∧ Texts w' (some ⟨w.heap.size, 0, none⟩) (segs s b) ∧ Below w.heap.size w w' := by
  obtain ⟨m, hm⟩ := he.ml
  refine (Tryz.strings_Split s ⟨#[b]⟩ m w (by omega) hm (Nat.le_refl _)).mono ?_
  rintro e w' ⟨rfl, rfl⟩
  rw [split_segs, count_segs]
  refine ⟨rfl, fun i hi => ⟨w.heap.size, 0, rfl, by simp, ?_⟩, Bl.more (Bl.refl _) _⟩
  simp [go_sem, hi]
/-- what readNumber answers -/
def PNumPost (s : ByteArray) (w : World) (e : Ending) (w' : World) : Prop := ∃ (n : Int) (ok : Bool), e = .returned (.tuple #[.int .i64 n, .bool ok]) ∧ Below w.heap.size w w' ∧ (ok = true → IsNum s.data.toList n) ∧ (ok = false → NoNum s.data.toList)
theorem no_of_atoi {l : List UInt8} (h : ∀ n, Lib.atoiAll l ≠ .ok n) : NoNum l := fun m hm => h m hm.atoi
theorem no_of_itoa {l : List UInt8} {v : Int} (h : Lib.atoiAll l = .ok v) (he : Lib.itoa v ≠ l) : NoNum l := fun m hm => by
  have := hm.atoi.symm.trans h
  injection this with e
  rw [← e] at he
  exact he hm.eq
set_option maxHeartbeats 2000000 in
theorem pnumber_any (s : ByteArray) (w : World) (he : Env w) (hs : s.size ≤ 5000) :
    Calls Tryz.prog 31 #[.string s] w fun e w' => PNumPost s w e w' := by
  have HE : Hid (Env w) := he
  clear he
  cases hA : Lib.atoiAll s.data.toList with
  | ok v =>
    obtain ⟨v0, v1⟩ := Lib.atoiAll_bounds hA
    have HA : Hid (Lib.atoiAll s.data.toList = .ok v) := hA
    clear hA
    by_cases e : bs (Lib.itoa v) = s
    · have hb : ((bs (Lib.itoa v)).toList == s.toList) = true := str_eq.2 e
      have HY : Hid (IsNum s.data.toList v) := ⟨by omega, by omega, bs_eq.1 e⟩
      clear e
      go_enter Tryz.func31, Tryz.ntmps31
      go_wp2_with (first
        | (go_at_call 41; refine (Tryz.strconv_Atoi_ok s (by omega) v HA.out _).mono ?_; rintro e w1 ⟨rfl, hW⟩; have hb1 : Below w.heap.size w w1 := (by rcases hW with rfl | ⟨t, rfl⟩; exact Bl.refl _; exact Lib.bytesWorld_below _ _ _); clear hW)
        | (go_at_call 42; refine (itoa_txt2 v _ (by omega) (by omega) (HE.out.below hb1).tab).mono ?_; rintro e w2 ⟨rfl, hb2⟩)
        | fail)
      go_ret2
      exact ⟨v, true, rfl, Bl.trans hb1 hb2, fun _ => HY.out, fun e => (by cases e)⟩
    · have hb : ((bs (Lib.itoa v)).toList == s.toList) = false := by
        cases hq : ((bs (Lib.itoa v)).toList == s.toList) with
        | false => rfl
        | true => exact absurd (str_eq.1 hq) e
      have HN : Hid (NoNum s.data.toList) := no_of_itoa HA.out (fun h => e (bs_eq.2 h))
      clear e
      go_enter Tryz.func31, Tryz.ntmps31
      go_wp2_with (first
        | (go_at_call 41; refine (Tryz.strconv_Atoi_ok s (by omega) v HA.out _).mono ?_; rintro e w1 ⟨rfl, hW⟩; have hb1 : Below w.heap.size w w1 := (by rcases hW with rfl | ⟨t, rfl⟩; exact Bl.refl _; exact Lib.bytesWorld_below _ _ _); clear hW)
        | (go_at_call 42; refine (itoa_txt2 v _ (by omega) (by omega) (HE.out.below hb1).tab).mono ?_; rintro e w2 ⟨rfl, hb2⟩)
        | fail)
      go_ret2
      exact ⟨0, false, rfl, Bl.trans hb1 hb2, fun e => (by cases e), fun _ => HN.out⟩
  | «syntax» =>
    have HN : Hid (NoNum s.data.toList) := no_of_atoi (fun n h => by rw [hA] at h; cases h)
    have HA : Hid (Lib.atoiAll s.data.toList = .«syntax») := hA
    clear hA
    obtain ⟨tp, p, hv⟩ := HE.out.sy
    go_enter Tryz.func31, Tryz.ntmps31
    go_wp2_with (first
      | (go_at_call 41; refine (Tryz.strconv_Atoi_syntax_var s (by omega) HA.out tp p _ hv).mono ?_; rintro e w1 ⟨N, rfl, _, _, hb1⟩)
      | fail)
    go_ret2
    exact ⟨0, false, rfl, hb1, fun e => (by cases e), fun _ => HN.out⟩
  | range =>
    have HN : Hid (NoNum s.data.toList) := no_of_atoi (fun n h => by rw [hA] at h; cases h)
    have HA : Hid (Lib.atoiAll s.data.toList = .range) := hA
    clear hA
    obtain ⟨tp, p, hv⟩ := HE.out.ra
    go_enter Tryz.func31, Tryz.ntmps31
    go_wp2_with (first
      | (go_at_call 41; refine (Tryz.strconv_Atoi_range_var s (by omega) HA.out tp p _ hv).mono ?_; rintro e w1 ⟨N, rfl, _, _, hb1⟩)
      | fail)
    go_ret2
    exact ⟨0, false, rfl, hb1, fun e => (by cases e), fun _ => HN.out⟩
end Go.Proofs.YtlcmllmphpllbaaGreatDoor
