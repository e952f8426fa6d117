/- the law's told, and Told, walked. -/
import Derived.Test.YtanlmfcllebopaaDoorRRXr
import Derived.Test.YtanlmfcllebopaaDoorRRWf
namespace Go.Proofs.YtanlmfcllebopaaDoorRR
open Go.RowKit
set_option maxHeartbeats 2000000 in
theorem told_yes (ns : List Nd) (ao : Option Addr) (cap : Nat) (w : World) (hn : Nodes w ao ns) (hs : ns.length * 48 ≤ 140737488351232) (hw : Wf ns) (ht : Lib.TabIs Tryd.prog w "internal/strconv.uint64pow10" .u64 Lib.pow10Tab) (hg : Hid (isGraphB ns = true)) :
    Calls Tryd.prog 4 #[.slice ao ns.length cap] w fun e w' => e = .returned (.bool true) ∧ Below w.heap.size w w' := by
  have HN : Hid (Nodes w ao ns) := hn
  have HT : Hid (Lib.TabIs Tryd.prog w "internal/strconv.uint64pow10" .u64 Lib.pow10Tab) := ht
  have HW : Hid (Wf ns) := hw
  clear hn ht hw
  have HS : Hid (ns.length * 48 ≤ 140737488351232) := hs
  clear hs
  go_enter Tryd.func4, Tryd.ntmps4
  go_wp2_with fail
  refine (copied_any ns ao cap _ HN.out HS.out).mono ?_
  rintro e w1 ⟨⟨ao', cap', rfl, hN1⟩, hb1⟩
  have HN1 : Hid (Nodes w1 ao' ns) := hN1
  clear hN1
  go_wp2_with fail
  refine (pprint_yes ns ao' cap' _ HN1.out HW.out (tab_below HT.out hb1) hg.out).mono ?_
  rintro e w2 ⟨rfl, hb2⟩
  go_wp2_with fail
  refine (rprint_yes ns ao cap _ (HN.out.below (Bl.trans hb1 hb2)) HS.out HW.out hg.out).mono ?_
  rintro e w3 ⟨rfl, hb3⟩
  go_wp2_with fail
  refine (pcost_yes ns ao' cap' _ (HN1.out.below (Bl.trans hb2 hb3)) hg.out).mono ?_
  rintro e w4 ⟨rfl, hb4⟩
  go_wp2_with fail
  refine (rcost_yes ns ao cap _ (HN.out.below (Bl.trans (Bl.trans hb1 hb2) (Bl.trans hb3 hb4))) HS.out hg.out).mono ?_
  rintro e w5 ⟨rfl, hb5⟩
  go_wp2_with fail
  refine (same_refl ns ao' ao cap' cap _ (HN1.out.below (Bl.trans (Bl.trans hb2 hb3) (Bl.trans hb4 hb5))) (HN.out.below (Bl.trans hb1 (Bl.trans (Bl.trans hb2 hb3) (Bl.trans hb4 hb5)))) HS.out).mono ?_
  rintro e w6 ⟨rfl, k6, rfl⟩
  have HB : Hid (Below w.heap.size w (w5.drewN k6)) := Bl.drew (Bl.trans hb1 (Bl.trans (Bl.trans hb2 hb3) (Bl.trans hb4 hb5))) _
  clear hb1 hb2 hb3 hb4 hb5
  generalize bs (printL ns) = S at *
  generalize costZ ns = C at *
  go_wp2
  go_ret
  exact ⟨rfl, HB.out⟩
set_option maxHeartbeats 2000000 in
theorem told_no (ns : List Nd) (ao : Option Addr) (cap : Nat) (w : World) (hn : Nodes w ao ns) (hs : ns.length * 48 ≤ 140737488351232) (hw : Wf ns) (ht : Lib.TabIs Tryd.prog w "internal/strconv.uint64pow10" .u64 Lib.pow10Tab) (hg : Hid (isGraphB ns = false)) :
    Calls Tryd.prog 4 #[.slice ao ns.length cap] w fun e w' => e = .returned (.bool true) ∧ Below w.heap.size w w' := by
  have HN : Hid (Nodes w ao ns) := hn
  have HT : Hid (Lib.TabIs Tryd.prog w "internal/strconv.uint64pow10" .u64 Lib.pow10Tab) := ht
  have HW : Hid (Wf ns) := hw
  clear hn ht hw
  have HS : Hid (ns.length * 48 ≤ 140737488351232) := hs
  clear hs
  go_enter Tryd.func4, Tryd.ntmps4
  go_wp2_with fail
  refine (copied_any ns ao cap _ HN.out HS.out).mono ?_
  rintro e w1 ⟨⟨ao', cap', rfl, hN1⟩, hb1⟩
  have HN1 : Hid (Nodes w1 ao' ns) := hN1
  clear hN1
  go_wp2_with fail
  refine (pprint_no ns ao' cap' _ HN1.out hg.out).mono ?_
  rintro e w2 ⟨rfl, hb2⟩
  go_wp2_with fail
  refine (rprint_no ns ao cap _ (HN.out.below (Bl.trans hb1 hb2)) HS.out hg.out).mono ?_
  rintro e w3 ⟨rfl, hb3⟩
  go_wp2_with fail
  refine (pcost_no ns ao' cap' _ (HN1.out.below (Bl.trans hb2 hb3)) hg.out).mono ?_
  rintro e w4 ⟨rfl, hb4⟩
  go_wp2_with fail
  refine (rcost_no ns ao cap _ (HN.out.below (Bl.trans (Bl.trans hb1 hb2) (Bl.trans hb3 hb4))) HS.out hg.out).mono ?_
  rintro e w5 ⟨rfl, hb5⟩
  go_wp2_with fail
  refine (same_refl ns ao' ao cap' cap _ (HN1.out.below (Bl.trans (Bl.trans hb2 hb3) (Bl.trans hb4 hb5))) (HN.out.below (Bl.trans hb1 (Bl.trans (Bl.trans hb2 hb3) (Bl.trans hb4 hb5)))) HS.out).mono ?_
  rintro e w6 ⟨rfl, k6, rfl⟩
  have HB : Hid (Below w.heap.size w (w5.drewN k6)) := Bl.drew (Bl.trans hb1 (Bl.trans (Bl.trans hb2 hb3) (Bl.trans hb4 hb5))) _
  clear hb1 hb2 hb3 hb4 hb5
  generalize bs (printL ns) = S at *
  generalize costZ ns = C at *
  go_wp2
  go_ret
  exact ⟨rfl, HB.out⟩

theorem told_any (ns : List Nd) (ao : Option Addr) (cap : Nat) (w : World) (hn : Nodes w ao ns) (hs : ns.length * 48 ≤ 140737488351232) (hw : Wf ns) (ht : Lib.TabIs Tryd.prog w "internal/strconv.uint64pow10" .u64 Lib.pow10Tab) :
    Calls Tryd.prog 4 #[.slice ao ns.length cap] w fun e w' => e = .returned (.bool true) ∧ Below w.heap.size w w' := by
  cases hg : isGraphB ns
  · exact told_no ns ao cap w hn hs hw ht hg
  · exact told_yes ns ao cap w hn hs hw ht hg
def fillNd : Nd := ⟨2, 0, 0, -7, 2, 3⟩
set_option maxHeartbeats 2000000 in
theorem told_law (ns : List Nd) (ao : Option Addr) (cap : Nat) (w : World) (hn : Nodes w ao ns) (hs : ns.length * 48 ≤ 140737488351232) (hw : Wf ns) (ht : Lib.TabIs Tryd.prog w "internal/strconv.uint64pow10" .u64 Lib.pow10Tab) :
    Calls Tryd.prog 3 #[.slice ao ns.length cap] w fun e w' => e = .returned (.bool true) ∧ Below w.heap.size w w' := by
  have HN : Hid (Nodes w ao ns) := hn
  have HT : Hid (Lib.TabIs Tryd.prog w "internal/strconv.uint64pow10" .u64 Lib.pow10Tab) := ht
  have HW : Hid (Wf ns) := hw
  clear hn ht hw
  have HS : Hid (ns.length * 48 ≤ 140737488351232) := hs
  clear hs
  go_enter Tryd.func3, Tryd.ntmps3
  go_wp2_with fail
  refine (told_any [fillNd] (some ⟨w.heap.size, 0, none⟩) 1 _ ?_ ?_ ?_ ?_).mono ?_
  · intro i hi
    have : i = 0 := by simp at hi; omega
    subst this
    exact ⟨w.heap.size, 0, rfl, by simp, by simp [go_sem, fillNd], by simp [go_sem, fillNd], by simp [go_sem, fillNd], by simp [go_sem, fillNd], by simp [go_sem, fillNd], by simp [go_sem, fillNd]⟩
  · rw [List.length_singleton]; omega
  · intro i hi
    have : i = 0 := by simp at hi; omega
    subst this
    simp [fillNd, NdWf, inInt]
  · exact tab_below HT.out (Bl.more (Bl.refl _) _)
  rintro e w1 ⟨rfl, hb1⟩
  have hb2 := Bl.trans (Bl.more (Bl.refl w) _) hb1
  clear hb1
  go_wp2_with fail
  refine (told_any ns ao cap _ (HN.out.below hb2) HS.out HW.out (tab_below HT.out hb2)).mono ?_
  rintro e w2 ⟨rfl, hb3⟩
  go_wp2
  go_ret
  exact ⟨rfl, Bl.trans hb2 hb3⟩
end Go.Proofs.YtanlmfcllebopaaDoorRR
