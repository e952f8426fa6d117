/- the law Runs, walked. -/
import Derived.Test.YtanlmfcllebopaaZq
namespace Go.Proofs.Ytanlmfcllebopaa
open Go.RowKit

def knownNs : List Nd := [⟨1, 0, 0, 0, 1, 2⟩, ⟨6, 0, 0, 3, 1, 2⟩]
def knownMs : List Mx := [⟨1, 2, [4, 5]⟩]
theorem bookOwn_nil {bb k : Nat} (h : BookOwn bb (.slice none 0 0) (.slice none 0 0) k) : k = bb := by
  rcases h with e | e | e
  · exact e
  · cases e
  · cases e
set_option maxHeartbeats 4000000 in
set_option maxRecDepth 100000 in
theorem runs_law (ns : List Nd) (ins : List Mx) (ao io : Option Addr) (ca ci : Nat) (w : World) (hn : Nodes w ao ns) (hM : Mats w io ins) (hs : ns.length * 48 ≤ 140737488351232) (hil : ins.length * 40 ≤ 140737488351232) (hnl : ∀ j, (h : j < ins.length) → ins[j].nums.length * 8 ≤ 140737488351232) :
    Calls Try.prog 3 #[.slice ao ns.length ca, .slice io ins.length ci] w fun e w' => e = .returned (.bool true) ∧ Below w.heap.size w w' := by
  have HN : Hid (Nodes w ao ns) := hn
  have HM : Hid (Mats w io ins) := hM
  have HNL : Hid (∀ j, (h : j < ins.length) → ins[j].nums.length * 8 ≤ 140737488351232) := hnl
  clear hn hM hnl
  go_enter Try.func3, Try.ntmps3
  go_wp2_with fail
  refine (brun_any knownNs knownMs _ _ _ _ _ w.heap.size w.heap.size (.slice none 0 0) (.slice none 0 0) [] 0 (IBook.new (Nat.le_refl _) (by simp; omega) (by simp [go_sem]) (by simp [go_sem]) (by simp [go_sem]) (by simp [go_sem]) (by simp [go_sem]) (by simp [go_sem])) (by simp; omega) (by simp) (by omega) (by omega) ?_ ?_ (by simp [knownNs]) (by simp [knownMs]) ?_).mono ?_
  · intro i hi
    match i, hi with
    | 0, _ => exact ⟨_, 0, rfl, by simp, by simp [go_sem, knownNs], by simp [go_sem, knownNs], by simp [go_sem, knownNs], by simp [go_sem, knownNs], by simp [go_sem, knownNs], by simp [go_sem, knownNs]⟩
    | 1, _ => exact ⟨_, 0, rfl, by simp, by simp [go_sem, knownNs], by simp [go_sem, knownNs], by simp [go_sem, knownNs], by simp [go_sem, knownNs], by simp [go_sem, knownNs], by simp [go_sem, knownNs]⟩
    | n + 2, h => simp [knownNs] at h; omega
  · intro w' hk i hi
    have off : ∀ b, b < w.heap.size + 4 → b ≠ w.heap.size → ∀ o, w'.cell? ⟨b, o, none⟩ = _ := fun b hb hne o => hk.cell (p := ⟨b, o, none⟩) (by simp; omega) (fun e => hne (bookOwn_nil e))
    match i, hi with
    | 0, _ =>
      refine ⟨w.heap.size + 1 + 1 + 1, 0, rfl, Nat.lt_of_lt_of_le (show w.heap.size + 1 + 1 + 1 < _ by simp) hk.size, ?_, ?_, some ⟨w.heap.size + 1 + 1, 0, none⟩, 2, ?_, fun j hj => ?_⟩
      · rw [off _ (by omega) (by omega)]; simp [go_sem, knownMs]
      · rw [off _ (by omega) (by omega)]; simp [go_sem, knownMs]
      · rw [off _ (by omega) (by omega)]; simp [go_sem, knownMs]
      · match j, hj with
        | 0, _ => exact ⟨w.heap.size + 1 + 1, 0, rfl, Nat.lt_of_lt_of_le (show w.heap.size + 1 + 1 < _ by simp) hk.size, by rw [off _ (by omega) (by omega)]; simp [go_sem, knownMs]⟩
        | 1, _ => exact ⟨w.heap.size + 1 + 1, 0, rfl, Nat.lt_of_lt_of_le (show w.heap.size + 1 + 1 < _ by simp) hk.size, by rw [off _ (by omega) (by omega)]; simp [go_sem, knownMs]⟩
        | n + 2, h => simp [knownMs] at h; omega
    | n + 1, h => simp [knownMs] at h
  · intro j hj
    match j, hj with
    | 0, _ => simp [knownMs]
    | n + 1, h => simp [knownMs] at h
  rintro e w1 ⟨rfl, ⟨vi, vm, I, hB, hlen⟩, hb⟩
  have hb1 : Below w.heap.size w w1 := Below.trans (by repeat (first | exact Bl.refl _ | refine Bl.more ?_ _)) hb
  have HB : Hid (IBook w1 w.heap.size w.heap.size vi vm I (0 - 1)) := hB
  have hI : I.length ≤ 10 := by rw [hlen]; simp
  clear hB hb hlen
  go_wp2_with fail
  refine (brun_any ns ins ao io ca ci _ w.heap.size w.heap.size vi vm I (0 - 1) HB.out hb1.size (by omega) (by omega) (by omega) (HN.out.below hb1) (fun w' hk => HM.out.below (hb1.trans (hk.below hb1.size fun k h e => by have := (HB.out.own_lt k e).1; omega))) hs hil HNL.out).mono ?_
  rintro e w2 ⟨rfl, ⟨vi', vm', I', hB', hlen'⟩, hb'⟩
  have hb2 : Below w.heap.size w w2 := hb1.trans hb'
  have HB2 : Hid (IBook w2 w.heap.size w.heap.size vi' vm' I' (0 - 1 - 1)) := hB'
  have hI' : I'.length ≤ 100 := by omega
  clear hB' hb' hlen' HB hI
  go_wp2_with fail
  refine (looks_any _ w.heap.size w.heap.size vi' vm' I' (0 - 1 - 1) HB2.out (by omega)).mono ?_
  rintro e w3 ⟨rfl, q, rfl⟩
  go_wp2
  go_ret
  exact ⟨rfl, Bl.drew hb2 _⟩
end Go.Proofs.Ytanlmfcllebopaa
