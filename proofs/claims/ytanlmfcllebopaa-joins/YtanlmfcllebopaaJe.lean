/- Terms as keys of a map; the table's map in plain words. -/
import Derived.Test.YtanlmfcllebopaaJd
import Derived.Maps.OwnSet
import Derived.DeepKeys4
namespace Go.Proofs.Ytanlmfcllebopaa
open Go.RowKit Go.Maps

theorem jlaidOut : laidOutB Try.prog = true := by kernel_rfl
theorem underTm : Try.prog.underlying 40 = some (.struct (Try.prog.fieldsOf 40)) := by kernel_rfl
theorem fldsTm : (Try.prog.fieldsOf 40).toList.map (fun f => (f.type, f.offset)) = [(3, 0), (3, 1), (3, 2), (3, 3)] := by kernel_rfl
theorem namesTm : (Try.prog.fieldsOf 40).all (·.name != "_") = true := by kernel_rfl
theorem cellsTm : Try.prog.cellsOf 40 = 4 := by kernel_rfl
theorem jcInt : Try.prog.cellsOf 3 = 1 := by kernel_rfl
theorem juInt : Try.prog.underlying 3 = some (.int .i64) := by kernel_rfl
theorem keyTm : Try.prog.keyType 40 = true := by kernel_rfl
theorem sizeTm : ∃ d, Try.prog.types.size + 1 = d + 1 + 1 := ⟨Try.prog.types.size - 1, by have : 0 < Try.prog.types.size := of_decide_eq_true (by kernel_rfl); omega⟩
theorem mapTm : Try.prog.underlying 99 = some (.map 40 3) := by kernel_rfl
theorem zeroInt (w : World) : (zeroValue 3).run Try.prog w = .ok (.int .i64 0) w := by kernel_rfl
theorem lawTm : Keyed Try.prog 40 := Keyed.of_law (deep_law_laid jlaidOut (m := 2) (by omega) (of_decide_eq_true (by kernel_rfl)) (by kernel_rfl) (by rw [underTm]))
/-- a term whose numbers fit -/
def TmWf (t : Tm) : Prop := (Lit.int .i64 t.op).wf = true ∧ (Lit.int .i64 t.k).wf = true ∧ (Lit.int .i64 t.a).wf = true ∧ (Lit.int .i64 t.b).wf = true
theorem list4 {α : Type} {l : List α} (h : l.length = 4) : ∃ a b c d, l = [a, b, c, d] := by
  match l, h with
  | [a, b, c, d], _ => exact ⟨a, b, c, d, rfl⟩
theorem keyLits_int (d : Nat) (v : Value) : Try.prog.keyLits (d + 1) 3 [v] = match v with | .int q n => if q = .i64 ∧ (Lit.int .i64 n).wf = true then some [.int .i64 n] else none | _ => none := by
  conv => lhs; unfold Program.keyLits
  rw [juInt]
  cases v <;> rfl
theorem keyLits_tm (d : Nat) (v0 v1 v2 v3 : Value) : Try.prog.keyLits (d + 1 + 1) 40 [v0, v1, v2, v3] =
    (Try.prog.keyLits (d + 1) 3 [v0]).bind fun a => (Try.prog.keyLits (d + 1) 3 [v1]).bind fun b => (Try.prog.keyLits (d + 1) 3 [v2]).bind fun c => (Try.prog.keyLits (d + 1) 3 [v3]).bind fun e => some (a ++ (b ++ (c ++ (e ++ [])))) := by
  have hf := fldsTm
  have hnm := namesTm
  obtain ⟨fs, hfs⟩ : ∃ fs, fs = Try.prog.fieldsOf 40 := ⟨_, rfl⟩
  rw [← hfs] at hf hnm
  have h4 : fs.toList.length = 4 := by simpa using congrArg List.length hf
  obtain ⟨f0, f1, f2, f3, he⟩ := list4 h4
  rw [he] at hf
  simp only [List.map_cons, List.map_nil, List.cons.injEq, Prod.mk.injEq, and_true] at hf
  obtain ⟨⟨t0, o0⟩, ⟨t1, o1⟩, ⟨t2, o2⟩, ⟨t3, o3⟩⟩ := hf
  conv => lhs; unfold Program.keyLits
  rw [underTm, ← hfs]
  simp only [List.length_cons, List.length_nil, cellsTm, hnm, he, List.mapM_cons, List.mapM_nil, t0, t1, t2, t3, o0, o1, o2, o3, jcInt]
  simp [Option.bind_assoc, Option.map_bind, Function.comp_def]
/-- what a term reads as, as a key -/
def kl (t : Tm) : Lit := .string (keyBytes [.int .i64 t.op, .int .i64 t.k, .int .i64 t.a, .int .i64 t.b])
theorem formedTm (v0 v1 v2 v3 : Value) : (Value.agg #[v0, v1, v2, v3]).formed Try.prog 40 = true := by simp [Value.formed, cellsTm]
theorem keyOf_tm {t : Tm} (h : TmWf t) : keyOf Try.prog 40 (.agg #[.int .i64 t.op, .int .i64 t.k, .int .i64 t.a, .int .i64 t.b]) = some (kl t) := by
  obtain ⟨h0, h1, h2, h3⟩ := h
  obtain ⟨d, hd⟩ := sizeTm
  unfold keyOf
  rw [underTm]
  simp only [keyTm, formedTm, Bool.and_self, if_true, Value.cells, hd]
  rw [keyLits_tm]
  simp only [keyLits_int, h0, h1, h2, h3, and_self, if_true, Option.bind_some, Option.map_some]
  rfl
set_option maxRecDepth 100000 in
theorem keyOf_tm_inv {v : Value} {l : Lit} (h : keyOf Try.prog 40 v = some l) : ∃ t : Tm, v = .agg #[.int .i64 t.op, .int .i64 t.k, .int .i64 t.a, .int .i64 t.b] ∧ TmWf t ∧ l = kl t := by
  have h' := h
  obtain ⟨d, hd⟩ := sizeTm
  unfold keyOf at h'
  rw [underTm] at h'
  simp only [keyTm, Bool.true_and, hd] at h'
  split at h'
  · rename_i hf
    cases v <;> simp [Value.formed, cellsTm] at hf
    rename_i cs
    obtain ⟨v0, v1, v2, v3, he⟩ := list4 (l := cs.toList) (by simpa using hf)
    obtain rfl : cs = #[v0, v1, v2, v3] := by cases cs; simp_all
    simp only [Value.cells] at h'
    rw [keyLits_tm] at h'
    simp only [keyLits_int] at h'
    have one : ∀ (v : Value) (y : List Lit), (match v with | .int q n => if q = .i64 ∧ (Lit.int .i64 n).wf = true then some [Lit.int .i64 n] else none | _ => none) = some y → ∃ n, v = .int .i64 n ∧ (Lit.int .i64 n).wf = true := by
      intro v y e
      cases v <;> simp at e
      rename_i q n
      exact ⟨n, by rw [e.1.1], e.1.2⟩
    rw [Option.map_eq_some_iff] at h'
    obtain ⟨ls, h1, h2⟩ := h'
    rw [Option.bind_eq_some_iff] at h1
    obtain ⟨y0, e0, h1⟩ := h1
    rw [Option.bind_eq_some_iff] at h1
    obtain ⟨y1, e1, h1⟩ := h1
    rw [Option.bind_eq_some_iff] at h1
    obtain ⟨y2, e2, h1⟩ := h1
    rw [Option.bind_eq_some_iff] at h1
    obtain ⟨y3, e3, h1⟩ := h1
    obtain ⟨n0, rfl, w0⟩ := one v0 y0 e0
    obtain ⟨n1, rfl, w1⟩ := one v1 y1 e1
    obtain ⟨n2, rfl, w2⟩ := one v2 y2 e2
    obtain ⟨n3, rfl, w3⟩ := one v3 y3 e3
    have hw : TmWf ⟨n0, n1, n2, n3⟩ := ⟨w0, w1, w2, w3⟩
    exact ⟨⟨n0, n1, n2, n3⟩, rfl, hw, Option.some.inj (h.symm.trans (keyOf_tm hw))⟩
  · cases h'
theorem kl_inj {t u : Tm} (ht : TmWf t) (hu : TmWf u) (h : kl t = kl u) : t = u := by
  have := lawTm.inj (keyOf_tm ht) (by rw [keyOf_tm hu, h])
  simp only [Value.agg.injEq, Array.mk.injEq, List.cons.injEq, Value.int.injEq, true_and, and_true] at this
  cases t; cases u; simp_all
/-- the datum D holds what M tells -/
structure MapD (D : DataW Unit) (M : Tm → Option Nat) : Prop where
  wf : ∀ t c, M t = some c → TmWf t
  has : ∀ t, TmWf t → Maps.has D (kl t) = (M t).isSome
  val : ∀ t c, M t = some c → ∀ zd, D.atKey (kl t) zd = .lit (.int .i64 (c : Int))
/-- block mb is a map of at most m entries that holds what M tells -/
def MapIs (w : World) (mb m : Nat) (M : Tm → Option Nat) : Prop := ∃ D : DataW Unit, w.ownsMap Try.prog 40 (plainElem Try.prog 3) mb m D ∧ MapD D M
theorem MapIs.lt {w : World} {mb m : Nat} {M : Tm → Option Nat} (h : MapIs w mb m M) : mb < w.heap.size := by obtain ⟨D, h, _⟩ := h; exact h.lt
theorem MapIs.mono {w : World} {mb m m' : Nat} {M : Tm → Option Nat} (h : MapIs w mb m M) (hm : m ≤ m') : MapIs w mb m' M := by obtain ⟨D, h, g⟩ := h; exact ⟨D, h.mono hm, g⟩
theorem ownsMap_keeps {w w' : World} {mb m : Nat} {D : DataW Unit} {S : Nat → Prop} (h : w.ownsMap Try.prog 40 (plainElem Try.prog 3) mb m D) (hk : Keeps S w w') (hs : ¬ S mb) : w'.ownsMap Try.prog 40 (plainElem Try.prog 3) mb m D := by
  have hl := h.lt
  obtain ⟨es, clock, hb, r⟩ := h
  exact ⟨es, clock, (hk.block mb hl hs).trans hb, r⟩
theorem MapIs.keeps {w w' : World} {mb m : Nat} {M : Tm → Option Nat} {S : Nat → Prop} (h : MapIs w mb m M) (hk : Keeps S w w') (hs : ¬ S mb) : MapIs w' mb m M := by
  obtain ⟨D, h, g⟩ := h
  exact ⟨D, ownsMap_keeps h hk hs, g⟩
theorem mapD_empty : MapD (.map []) (fun _ => none) := ⟨fun _ _ h => (by cases h), fun _ _ => rfl, fun _ _ h => (by cases h)⟩
theorem mapD_put {D : DataW Unit} {M : Tm → Option Nat} (h : MapD D M) (hD : IsMap D) {t : Tm} (ht : TmWf t) (c : Nat) : ∃ M', MapD (D.put (kl t) (.lit (.int .i64 (c : Int)))) M' ∧ Puts M M' t c := by
  classical
  refine ⟨fun u => if u = t then some c else M u, ⟨fun u d hu => ?_, fun u hu => ?_, fun u d hu zd => ?_⟩, ⟨by simp, fun u hu => by simp [hu]⟩⟩
  · by_cases e : u = t
    · subst e; exact ht
    · simp only [e, if_false] at hu; exact h.wf u d hu
  · by_cases e : u = t
    · subst e
      rw [has_put_same hD (lawTm.key (keyOf_tm ht))]; simp
    · rw [has_put_other (fun e' => e (kl_inj hu ht e')), h.has u hu]; simp [e]
  · by_cases e : u = t
    · subst e
      simp only [if_true, Option.some.injEq] at hu
      rw [atKey_put_same hD (lawTm.key (keyOf_tm ht)), hu]
    · simp only [e, if_false] at hu
      rw [atKey_put_other (fun e' => e (kl_inj (h.wf u d hu) ht e')), h.val u d hu]
end Go.Proofs.Ytanlmfcllebopaa
