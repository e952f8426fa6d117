/- the law Joins, walked. -/
import Derived.Test.YtanlmfcllebopaaJp
namespace Go.Proofs.Ytanlmfcllebopaa
open Go.RowKit Go.Maps

def knownTs : List Tm := [⟨5, 0, -1, -1⟩, ⟨6, 0, -1, -1⟩, ⟨7, 0, 0, -1⟩, ⟨7, 0, 1, -1⟩]
set_option maxHeartbeats 4000000 in
set_option maxRecDepth 100000 in
theorem joins_law (ts : List Tm) (ps : List (Int × Int)) (ao bo : Option Addr) (ca cb : Nat) (w : World) (hT : Terms w ao ts) (hP : Pairs w bo ps) (h1 : ts.length * 32 ≤ 140737488351232) (h2 : ps.length * 16 ≤ 140737488351232) (hW : ∀ i, i < ts.length → TmWf (tm ts i)) :
    Calls Try.prog 4 #[.slice ao ts.length ca, .slice bo ps.length cb] w fun e w' => e = .returned (.bool true) ∧ Below w.heap.size w w' := by
  have HT : Hid (Terms w ao ts) := hT
  have HP : Hid (Pairs w bo ps) := hP
  have HW : Hid (∀ i, i < ts.length → TmWf (tm ts i)) := hW
  clear hT hP hW
  go_enter Try.func4, Try.ntmps4
  go_wp2_with fail
  refine (bjoin_any knownTs [(0, 1)] _ _ _ _ _ w.heap.size w.heap.size (.slice none 0 0) (.slice none 0 0) [] 0 (IBook.new (Nat.le_refl _) (by simp; omega) (by simp [go_sem]) (by simp [go_sem]) (by simp [go_sem]) (by simp [go_sem]) (by simp [go_sem]) (by simp [go_sem])) (by simp; omega) (by simp) (by omega) (by omega) ?_ ?_ (by simp [knownTs]) (by simp) ?_).mono ?_
  · intro i hi
    match i, hi with
    | 0, _ => exact ⟨_, 0, rfl, by simp, by simp [go_sem, knownTs], by simp [go_sem, knownTs], by simp [go_sem, knownTs], by simp [go_sem, knownTs]⟩
    | 1, _ => exact ⟨_, 0, rfl, by simp, by simp [go_sem, knownTs], by simp [go_sem, knownTs], by simp [go_sem, knownTs], by simp [go_sem, knownTs]⟩
    | 2, _ => exact ⟨_, 0, rfl, by simp, by simp [go_sem, knownTs], by simp [go_sem, knownTs], by simp [go_sem, knownTs], by simp [go_sem, knownTs]⟩
    | 3, _ => exact ⟨_, 0, rfl, by simp, by simp [go_sem, knownTs], by simp [go_sem, knownTs], by simp [go_sem, knownTs], by simp [go_sem, knownTs]⟩
    | n + 4, h => simp [knownTs] at h; omega
  · intro i hi
    match i, hi with
    | 0, _ => exact ⟨_, 0, rfl, by simp, by simp [go_sem], by simp [go_sem]⟩
    | n + 1, h => simp at h
  · intro i hi
    match i, hi with
    | 0, _ => exact ⟨by decide, by decide, by decide, by decide⟩
    | 1, _ => exact ⟨by decide, by decide, by decide, by decide⟩
    | 2, _ => exact ⟨by decide, by decide, by decide, by decide⟩
    | 3, _ => exact ⟨by decide, by decide, by decide, by decide⟩
    | n + 4, h => simp [knownTs] at h; omega
  rintro e w1 ⟨rfl, ⟨vi, vm, I, hB, hlen⟩, hb⟩
  have hb1 : Below w.heap.size w w1 := Below.trans (by repeat (first | exact Bl.refl _ | refine Bl.more ?_ _)) hb
  have HB : Hid (IBook w1 w.heap.size w.heap.size vi vm I (0 - 1)) := hB
  have hI : I.length ≤ 10 := by rw [hlen]; simp
  clear hB hb hlen
  go_wp2_with fail
  refine (bjoin_any ts ps ao bo ca cb _ w.heap.size w.heap.size vi vm I (0 - 1) HB.out hb1.size (by omega) (by omega) (by omega) (HT.out.below hb1) (HP.out.below hb1) h1 h2 HW.out).mono ?_
  rintro e w2 ⟨rfl, ⟨vi', vm', I', hB', hlen'⟩, hb'⟩
  have hb2 : Below w.heap.size w w2 := hb1.trans hb'
  have HB2 : Hid (IBook w2 w.heap.size w.heap.size vi' vm' I' (0 - 1 - 1)) := hB'
  have hI' : I'.length ≤ 100 := by omega
  clear hB' hb' hlen' HB hI
  go_wp2_with fail
  refine (looks_any _ w.heap.size w.heap.size vi' vm' I' (0 - 1 - 1) HB2.out (by omega)).mono ?_
  rintro e w3 ⟨rfl, q, rfl⟩
  go_wp2
  go_ret
  exact ⟨rfl, Bl.drew hb2 _⟩
end Go.Proofs.Ytanlmfcllebopaa
