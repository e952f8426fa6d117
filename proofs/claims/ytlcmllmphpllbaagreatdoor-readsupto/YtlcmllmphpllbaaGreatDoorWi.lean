/- thriftref.Print, walked. -/
import Derived.Test.YtlcmllmphpllbaaGreatDoorWh
namespace Go.Proofs.YtlcmllmphpllbaaGreatDoor
open Go.RowKit

theorem len100 {ns : List Nd} (h : isGraphB ns = true) : 1 ≤ ns.length ∧ ns.length ≤ 100 := by
  simp only [isGraphB, Bool.and_eq_true, decide_eq_true_eq] at h
  exact h.1
theorem ok_at {ns : List Nd} (h : isGraphB ns = true) (m : Nat) (hm : m < ns.length) : nodeOk ns m ns[m] = true := by
  simp only [isGraphB, Bool.and_eq_true, List.all_eq_true] at h
  simpa [hm] using h.2 m (by simpa using hm)
theorem line_len (n : Nd) (h : NdWf n) : (lineL n).length ≤ 120 := by
  obtain ⟨h1, h2, h3, h4, h5, h6⟩ := h
  have l2 := Lib.itoa_length_le n.a h2.1 h2.2
  have l3 := Lib.itoa_length_le n.b h3.1 h3.2
  have l4 := Lib.itoa_length_le n.k h4.1 h4.2
  have l5 := Lib.itoa_length_le n.rows h5.1 h5.2
  have l6 := Lib.itoa_length_le n.cols h6.1 h6.2
  have lw : (wordL n.op).length ≤ 5 := by unfold wordL; repeat' split
                                          all_goals simp
  unfold lineL numsOf
  simp only [List.length_append, List.flatMap_append]
  have a1 : ∀ (b : Bool) (x : Int), (Lib.itoa x).length ≤ 21 → ((if b = true then [x] else []).flatMap (fun x => 32 :: Lib.itoa x)).length ≤ 22 := by
    intro b x hx; cases b <;> simp; omega
  have a2 : ((if sizedB n.op = true then [n.rows, n.cols] else []).flatMap (fun x => 32 :: Lib.itoa x)).length ≤ 44 := by
    cases sizedB n.op <;> simp; omega
  have a3 := a1 (countedB n.op) n.k l4
  have a4 := a1 (decide (0 < partsZ n.op)) n.a l2
  have a5 := a1 (decide (1 < partsZ n.op)) n.b l3
  simp only [decide_eq_true_eq] at a4 a5
  simp only [List.length_cons, List.length_nil]
  omega
theorem print_len (ns : List Nd) (hw : Wf ns) : ∀ m, m ≤ ns.length → (printL (ns.take m)).length ≤ m * 120 := by
  intro m
  induction m with
  | zero => intro _; simp [printL]
  | succ m ih =>
    intro h
    rw [printL_step ns m (by omega), List.length_append]
    have := ih (by omega)
    have := line_len ns[m] (hw m (by omega))
    omega
theorem line1 (l : List UInt8) (n : Nd) (h : n.op = 1) : bs l ++ bs (wordL 1) ++ ⟨#[32]⟩ ++ bs (Lib.itoa n.k) ++ ⟨#[32]⟩ ++ bs (Lib.itoa n.rows) ++ ⟨#[32]⟩ ++ bs (Lib.itoa n.cols) ++ ⟨#[10]⟩ = bs (l ++ lineL n) := by
  have e1 : (⟨#[32]⟩ : ByteArray) = bs [32] := rfl
  have e2 : (⟨#[10]⟩ : ByteArray) = bs [10] := rfl
  rw [e1, e2]
  simp only [bs_add]
  congr 1
  simp [lineL, numsOf, h, wordL, countedB, partsZ, sizedB]
theorem line2 (l : List UInt8) (n : Nd) (h : n.op = 2) : bs l ++ bs (wordL 2) ++ ⟨#[32]⟩ ++ bs (Lib.itoa n.k) ++ ⟨#[32]⟩ ++ bs (Lib.itoa n.rows) ++ ⟨#[32]⟩ ++ bs (Lib.itoa n.cols) ++ ⟨#[10]⟩ = bs (l ++ lineL n) := by
  have e1 : (⟨#[32]⟩ : ByteArray) = bs [32] := rfl
  have e2 : (⟨#[10]⟩ : ByteArray) = bs [10] := rfl
  rw [e1, e2]
  simp only [bs_add]
  congr 1
  simp [lineL, numsOf, h, wordL, countedB, partsZ, sizedB]
theorem line3 (l : List UInt8) (n : Nd) (h : n.op = 3) : bs l ++ bs (wordL 3) ++ ⟨#[32]⟩ ++ bs (Lib.itoa n.a) ++ ⟨#[32]⟩ ++ bs (Lib.itoa n.b) ++ ⟨#[10]⟩ = bs (l ++ lineL n) := by
  have e1 : (⟨#[32]⟩ : ByteArray) = bs [32] := rfl
  have e2 : (⟨#[10]⟩ : ByteArray) = bs [10] := rfl
  rw [e1, e2]
  simp only [bs_add]
  congr 1
  simp [lineL, numsOf, h, wordL, countedB, partsZ, sizedB]
theorem line4 (l : List UInt8) (n : Nd) (h : n.op = 4) : bs l ++ bs (wordL 4) ++ ⟨#[32]⟩ ++ bs (Lib.itoa n.a) ++ ⟨#[32]⟩ ++ bs (Lib.itoa n.b) ++ ⟨#[10]⟩ = bs (l ++ lineL n) := by
  have e1 : (⟨#[32]⟩ : ByteArray) = bs [32] := rfl
  have e2 : (⟨#[10]⟩ : ByteArray) = bs [10] := rfl
  rw [e1, e2]
  simp only [bs_add]
  congr 1
  simp [lineL, numsOf, h, wordL, countedB, partsZ, sizedB]
theorem line5 (l : List UInt8) (n : Nd) (h : n.op = 5) : bs l ++ bs (wordL 5) ++ ⟨#[32]⟩ ++ bs (Lib.itoa n.a) ++ ⟨#[32]⟩ ++ bs (Lib.itoa n.b) ++ ⟨#[10]⟩ = bs (l ++ lineL n) := by
  have e1 : (⟨#[32]⟩ : ByteArray) = bs [32] := rfl
  have e2 : (⟨#[10]⟩ : ByteArray) = bs [10] := rfl
  rw [e1, e2]
  simp only [bs_add]
  congr 1
  simp [lineL, numsOf, h, wordL, countedB, partsZ, sizedB]
theorem line6 (l : List UInt8) (n : Nd) (h : n.op = 6) : bs l ++ bs (wordL 6) ++ ⟨#[32]⟩ ++ bs (Lib.itoa n.k) ++ ⟨#[32]⟩ ++ bs (Lib.itoa n.a) ++ ⟨#[10]⟩ = bs (l ++ lineL n) := by
  have e1 : (⟨#[32]⟩ : ByteArray) = bs [32] := rfl
  have e2 : (⟨#[10]⟩ : ByteArray) = bs [10] := rfl
  rw [e1, e2]
  simp only [bs_add]
  congr 1
  simp [lineL, numsOf, h, wordL, countedB, partsZ, sizedB]
theorem line7 (l : List UInt8) (n : Nd) (h : n.op = 7) : bs l ++ bs (wordL 7) ++ ⟨#[32]⟩ ++ bs (Lib.itoa n.a) ++ ⟨#[32]⟩ ++ bs (Lib.itoa n.b) ++ ⟨#[10]⟩ = bs (l ++ lineL n) := by
  have e1 : (⟨#[32]⟩ : ByteArray) = bs [32] := rfl
  have e2 : (⟨#[10]⟩ : ByteArray) = bs [10] := rfl
  rw [e1, e2]
  simp only [bs_add]
  congr 1
  simp [lineL, numsOf, h, wordL, countedB, partsZ, sizedB]
theorem line8 (l : List UInt8) (n : Nd) (h : n.op = 8) : bs l ++ bs (wordL 8) ++ ⟨#[32]⟩ ++ bs (Lib.itoa n.a) ++ ⟨#[10]⟩ = bs (l ++ lineL n) := by
  have e1 : (⟨#[32]⟩ : ByteArray) = bs [32] := rfl
  have e2 : (⟨#[10]⟩ : ByteArray) = bs [10] := rfl
  rw [e1, e2]
  simp only [bs_add]
  congr 1
  simp [lineL, numsOf, h, wordL, countedB, partsZ, sizedB]

end Go.Proofs.YtlcmllmphpllbaaGreatDoor
