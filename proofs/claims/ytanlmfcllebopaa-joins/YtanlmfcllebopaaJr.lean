/- At every list of terms and every list of pairs the law Joins returns true, and both read afterwards as they read before; no condition beside the row's own. -/
import Derived.Test.YtanlmfcllebopaaRows
import Derived.Test.YtanlmfcllebopaaJq
import Derived.WalkKit
import Derived.ProofKit
import Derived.OpenShut
import Derived.SizedLaws
import Derived.Deep.Slices
namespace Go.Proofs.Ytanlmfcllebopaa
open Go.ChangeShapes Go.WideShapes Go.ChangeAt Go.RowKit Go.Deep

namespace JoinsRow
theorem own : ownKnob Try.prog.godebug = none := by kernel_rfl
theorem uInt : Try.prog.underlying 3 = some (.int .i64) := by kernel_rfl
theorem uBool : Try.prog.underlying 4 = some .bool := by kernel_rfl
theorem cPr : Try.prog.cellsOf 42 = 2 := by kernel_rfl
theorem bTm : Try.prog.bytesOf 40 = 32 := by kernel_rfl
theorem bPr : Try.prog.bytesOf 42 = 16 := by kernel_rfl
theorem params : Try.f4.params = #[36, 37] := by kernel_rfl
/-- a term, off its reading -/
theorem term_of {H : Type} {enc : TypeId × Value → H} {w : World} {base : Nat} {spare : Nat → Bool} {held : Bool} {fuel : Nat} {cs : List Value} {x : DataW H × List MemPlace}
    (h : DataW.trod enc Try.prog w base spare held fuel 40 cs = some x) : ∃ n : Tm, cs = [.int .i64 n.op, .int .i64 n.k, .int .i64 n.a, .int .i64 n.b] ∧ TmWf n := by
  obtain ⟨xs, m, _, rfl, hl, hlen, hf⟩ := DataW.trod_struct underTm h
  have hfl := fldsTm
  obtain ⟨fs, hfs⟩ : ∃ fs, fs = Try.prog.fieldsOf 40 := ⟨_, rfl⟩
  rw [← hfs] at hf hfl hlen
  have h4 : fs.toList.length = 4 := by simpa using congrArg List.length hfl
  obtain ⟨f0, f1, f2, f3, he⟩ := list4 h4
  rw [he] at hfl
  simp only [List.map_cons, List.map_nil, List.cons.injEq, Prod.mk.injEq, and_true] at hfl
  obtain ⟨⟨t0, o0⟩, ⟨t1, o1⟩, ⟨t2, o2⟩, ⟨t3, o3⟩⟩ := hfl
  rw [cellsTm] at hl
  obtain ⟨v0, v1, v2, v3, rfl⟩ := list4 hl
  have hx : xs.length = 4 := by rw [hlen]; simpa using h4
  obtain ⟨y0, y1, y2, y3, rfl⟩ := list4 hx
  have g : ∀ (i : Nat) (f : Field), fs[i]? = fs.toList[i]? := fun i _ => by simp
  have r0 := hf 0 f0 (by rw [g 0 f0, he]; rfl)
  have r1 := hf 1 f1 (by rw [g 1 f0, he]; rfl)
  have r2 := hf 2 f2 (by rw [g 2 f0, he]; rfl)
  have r3 := hf 3 f3 (by rw [g 3 f0, he]; rfl)
  rw [t0, o0, jcInt] at r0
  rw [t1, o1, jcInt] at r1
  rw [t2, o2, jcInt] at r2
  rw [t3, o3, jcInt] at r3
  obtain ⟨a0, e0, _, w0⟩ := DataW.trod_int uInt (x := y0) r0
  obtain ⟨a1, e1, _, w1⟩ := DataW.trod_int uInt (x := y1) r1
  obtain ⟨a2, e2, _, w2⟩ := DataW.trod_int uInt (x := y2) r2
  obtain ⟨a3, e3, _, w3⟩ := DataW.trod_int uInt (x := y3) r3
  simp at e0 e1 e2 e3
  subst e0 e1 e2 e3
  exact ⟨⟨a0, a1, a2, a3⟩, rfl, w0, w1, w2, w3⟩
theorem fldsPr : (Try.prog.fieldsOf 42).toList.map (fun f => (f.type, f.offset)) = [(3, 0), (3, 1)] := by kernel_rfl
/-- a pair, off its reading -/
theorem pair_of {H : Type} {enc : TypeId × Value → H} {w : World} {base : Nat} {spare : Nat → Bool} {held : Bool} {fuel : Nat} {cs : List Value} {x : DataW H × List MemPlace}
    (h : DataW.trod enc Try.prog w base spare held fuel 42 cs = some x) : ∃ n : Int × Int, cs = [.int .i64 n.1, .int .i64 n.2] := by
  obtain ⟨xs, m, _, rfl, hl, hlen, hf⟩ := DataW.trod_struct underPr h
  have hfl := fldsPr
  obtain ⟨fs, hfs⟩ : ∃ fs, fs = Try.prog.fieldsOf 42 := ⟨_, rfl⟩
  rw [← hfs] at hf hfl hlen
  have h2 : fs.toList.length = 2 := by simpa using congrArg List.length hfl
  obtain ⟨f0, f1, he⟩ := jlist2 h2
  rw [he] at hfl
  simp only [List.map_cons, List.map_nil, List.cons.injEq, Prod.mk.injEq, and_true] at hfl
  obtain ⟨⟨t0, o0⟩, ⟨t1, o1⟩⟩ := hfl
  rw [cPr] at hl
  obtain ⟨v0, v1, rfl⟩ := jlist2 hl
  have hx : xs.length = 2 := by rw [hlen]; simpa using h2
  obtain ⟨y0, y1, rfl⟩ := jlist2 hx
  have g : ∀ (i : Nat) (f : Field), fs[i]? = fs.toList[i]? := fun i _ => by simp
  have r0 := hf 0 f0 (by rw [g 0 f0, he]; rfl)
  have r1 := hf 1 f1 (by rw [g 1 f0, he]; rfl)
  rw [t0, o0, jcInt] at r0
  rw [t1, o1, jcInt] at r1
  obtain ⟨a0, e0, _, w0⟩ := DataW.trod_int uInt (x := y0) r0
  obtain ⟨a1, e1, _, w1⟩ := DataW.trod_int uInt (x := y1) r1
  simp at e0 e1
  subst e0 e1
  exact ⟨(a0, a1), rfl⟩
theorem add_plain' (b o k : Nat) : (⟨b, o, none⟩ : Addr).add k = ⟨b, o + k, none⟩ := by unfold Addr.add; split <;> simp_all
/-- a slice of terms, off its reading -/
theorem terms_read {H : Type} {enc : TypeId × Value → H} {W : World} {a0 : Option Addr} {len cap fuel : Nat} {d0 : DataW H} {p0 : List MemPlace} (hf : DataW.trod enc Try.prog W 0 (fun _ => true) true fuel 36 (Value.slice a0 len cap).cells.toList = some (d0, p0)) :
    ∃ ts : List Tm, ts.length = len ∧ Terms W a0 ts ∧ (∀ i, i < ts.length → TmWf (tm ts i)) ∧ (len = 0 ∨ ∃ es sp, d0 = .slice es sp ∧ es.length = len) := by
  rcases open_slice underTms hf with ⟨hcs, hx⟩ | ⟨a, len', cap', m, fu, D, Pl, hcs, _, hl, hmx, hmm, hx, hel⟩
  · simp [Value.cells] at hcs
    obtain ⟨rfl, rfl, rfl⟩ := hcs
    exact ⟨[], rfl, fun i hi => absurd hi (Nat.not_lt_zero _), fun i hi => absurd hi (Nat.not_lt_zero _), .inl rfl⟩
  · simp [Value.cells] at hcs
    obtain ⟨rfl, rfl, rfl⟩ := hcs
    simp only [if_true] at hmm
    subst hmm
    have hd := (Prod.mk.inj hx).1
    rw [cellsTm] at hel
    have hinh : Inhabited Tm := ⟨zeroTm⟩
    obtain ⟨N, hN⟩ := choose_lt (α := Tm) (n := len) (p := fun i n => W.cells? 0 (a.add (i * 4)) 4 = some [.int .i64 n.op, .int .i64 n.k, .int .i64 n.a, .int .i64 n.b] ∧ TmWf n) (fun i hi => by
      obtain ⟨cs', h1, h2⟩ := hel i (by omega)
      obtain ⟨n, rfl, hw⟩ := term_of h2
      exact ⟨n, h1, hw⟩)
    obtain ⟨ns, hns⟩ : ∃ ns : List Tm, ns = (List.range len).map N := ⟨_, rfl⟩
    have hlen : ns.length = len := by rw [hns]; simp
    have hat : ∀ i, (h : i < ns.length) → ns[i] = N i := fun i h => by subst hns; simp
    refine ⟨ns, hlen, ?_, (fun i hi => by rw [tm_at hi, hat i hi]; exact (hN i (by omega)).2), .inr ⟨_, _, hd, by simp⟩⟩
    intro i hi
    rw [hat i hi]
    obtain ⟨h1, _⟩ := hN i (by omega)
    obtain ⟨_, _, hc⟩ := World.cells?_some h1
    have d0 : W.cell? ((a.add (i * 4)).add 0) = some (.int .i64 (N i).op) := hc 0 (by omega)
    have d1 : W.cell? ((a.add (i * 4)).add 1) = some (.int .i64 (N i).k) := hc 1 (by omega)
    have d2 : W.cell? ((a.add (i * 4)).add 2) = some (.int .i64 (N i).a) := hc 2 (by omega)
    have d3 : W.cell? ((a.add (i * 4)).add 3) = some (.int .i64 (N i).b) := hc 3 (by omega)
    simp only [Go.Deep.add_add] at d0 d1 d2 d3
    obtain ⟨_, _, hc0⟩ := World.cells?_some (hN 0 (by omega)).1
    have d00 : W.cell? ((a.add (0 * 4)).add 0) = some (.int .i64 (N 0).op) := hc0 0 (by omega)
    obtain ⟨b, off, spot⟩ := a
    have hspot : spot = none := by simpa [Addr.add] using World.cell?_spot d00
    subst hspot
    simp only [add_plain'] at d0 d1 d2 d3
    refine ⟨b, off, rfl, World.block_lt_of_cell? W _ d0, ?_, ?_, ?_, ?_⟩
    · simpa using d0
    · rw [Nat.add_assoc]; exact d1
    · rw [Nat.add_assoc]; exact d2
    · rw [Nat.add_assoc]; exact d3
/-- a slice of pairs, off its reading -/
theorem pairs_read {H : Type} {enc : TypeId × Value → H} {W : World} {a0 : Option Addr} {len cap fuel : Nat} {d0 : DataW H} {p0 : List MemPlace} (hf : DataW.trod enc Try.prog W 0 (fun _ => true) true fuel 37 (Value.slice a0 len cap).cells.toList = some (d0, p0)) :
    ∃ ts : List (Int × Int), ts.length = len ∧ Pairs W a0 ts ∧ (len = 0 ∨ ∃ es sp, d0 = .slice es sp ∧ es.length = len) := by
  rcases open_slice underPrs hf with ⟨hcs, hx⟩ | ⟨a, len', cap', m, fu, D, Pl, hcs, _, hl, hmx, hmm, hx, hel⟩
  · simp [Value.cells] at hcs
    obtain ⟨rfl, rfl, rfl⟩ := hcs
    exact ⟨[], rfl, fun i hi => absurd hi (Nat.not_lt_zero _), .inl rfl⟩
  · simp [Value.cells] at hcs
    obtain ⟨rfl, rfl, rfl⟩ := hcs
    simp only [if_true] at hmm
    subst hmm
    have hd := (Prod.mk.inj hx).1
    rw [cPr] at hel
    have hinh : Inhabited (Int × Int) := ⟨(0, 0)⟩
    obtain ⟨N, hN⟩ := choose_lt (α := (Int × Int)) (n := len) (p := fun i n => W.cells? 0 (a.add (i * 2)) 2 = some [.int .i64 n.1, .int .i64 n.2]) (fun i hi => by
      obtain ⟨cs', h1, h2⟩ := hel i (by omega)
      obtain ⟨n, rfl⟩ := pair_of h2
      exact ⟨n, h1⟩)
    obtain ⟨ns, hns⟩ : ∃ ns : List (Int × Int), ns = (List.range len).map N := ⟨_, rfl⟩
    have hlen : ns.length = len := by rw [hns]; simp
    have hat : ∀ i, (h : i < ns.length) → ns[i] = N i := fun i h => by subst hns; simp
    refine ⟨ns, hlen, ?_, .inr ⟨_, _, hd, by simp⟩⟩
    intro i hi
    rw [hat i hi]
    have h1 := hN i (by omega)
    obtain ⟨_, _, hc⟩ := World.cells?_some h1
    have d0 : W.cell? ((a.add (i * 2)).add 0) = some (.int .i64 (N i).1) := hc 0 (by omega)
    have d1 : W.cell? ((a.add (i * 2)).add 1) = some (.int .i64 (N i).2) := hc 1 (by omega)
    simp only [Go.Deep.add_add] at d0 d1
    obtain ⟨_, _, hc0⟩ := World.cells?_some (hN 0 (by omega))
    have d00 : W.cell? ((a.add (0 * 2)).add 0) = some (.int .i64 (N 0).1) := hc0 0 (by omega)
    obtain ⟨b, off, spot⟩ := a
    have hspot : spot = none := by simpa [Addr.add] using World.cell?_spot d00
    subst hspot
    simp only [add_plain'] at d0 d1
    refine ⟨b, off, rfl, World.block_lt_of_cell? W _ d0, ?_, ?_⟩
    · simpa using d0
    · rw [Nat.add_assoc]; exact d1
set_option maxRecDepth 100000 in
theorem lifted (os : Os) (started : os.Started) (H : Type) (enc : TypeId × Value → H) :
    ReturnsInHanded {} Try.checked os 4 .any (Rows.joinsSpec.pre6 enc Try.prog Try.f4 Rows.joinsRow.domain false) (Rows.joinsSpec.post enc Try.prog Try.f4 false true false false) := by
  refine returnsInHanded_of_change_sized (C := Try.checked) own started (by kernel_rfl) Try.func4
    (ChangeSpec.witness6 (enc := enc) (C := Try.checked) false ⟨#[], #[.slice none 0 0, .slice none 0 0], []⟩ 8 (by kernel_rfl) (by kernel_rfl) (by kernel_rfl) (by kernel_rfl)) ?_
  intro W base args ds gs before hval0 hW _ hsz0 _
  have hsz : (DataW.weightsEach Try.prog (Try.f4.params.toList ++ Rows.joinsSpec.plain.varTypes Try.prog) (ds ++ gs)).all (· ≤ reachBytes) = true := hsz0
  have hval : ∀ (j : Nat) t v, Try.f4.params[j]? = some t → args[j]? = some v → Value.okWide Try.prog W .any base t v := hval0
  have hW' := hW
  obtain ⟨p, q, hA0, hV, rfl, hfz, hnd⟩ := hW
  have hA : DataW.TrodAll enc Try.prog W 0 (fun _ => true) true Try.f4.params.toList args.toList ds p := hA0
  rw [params] at hA hval hsz
  obtain ⟨v0, vs0, d0, ds0, p0, q0, hargs, rfl, rfl, h0, r0⟩ := trodAll_cons hA
  obtain ⟨v1, vs1, d1, ds1, p1, q1, rfl, rfl, rfl, h1, r1⟩ := trodAll_cons r0
  obtain ⟨rfl, rfl, rfl⟩ := trodAll_nil r1
  obtain rfl : args = #[v0, v1] := by cases args; simp_all
  obtain ⟨rfl, rfl⟩ := trodVars_none hV
  clear hA0 hval0 hsz0
  simp only [List.append_nil] at hW'
  have h0k := h0
  have h1k := h1
  obtain ⟨a0, len0, cap0, rfl⟩ := okWide_slice underTms (hval 0 36 v0 rfl rfl)
  obtain ⟨a1, len1, cap1, rfl⟩ := okWide_slice underPrs (hval 1 37 v1 rfl rfl)
  have hlt0 : ∀ x ∈ p0, x.block < W.heap.size := fun x hx => by simpa using hW'.lt x (by simp [hx])
  have hlt1 : ∀ x ∈ p1, x.block < W.heap.size := fun x hx => by simpa using hW'.lt x (by simp [hx])
  have harg0 : ∀ W', Below W.heap.size W W' → DataW.Trod enc Try.prog W' 0 (fun b => decide (b < W.heap.size)) true 36 (.slice a0 len0 cap0) d0 p0 :=
    fun W' hn => Below.trod jlaidOut (by kernel_rfl) (of_decide_eq_true (by kernel_rfl)) h0k hn hlt0
  have harg1 : ∀ W', Below W.heap.size W W' → DataW.Trod enc Try.prog W' 0 (fun b => decide (b < W.heap.size)) true 37 (.slice a1 len1 cap1) d1 p1 :=
    fun W' hn => Below.trod jlaidOut (by kernel_rfl) (of_decide_eq_true (by kernel_rfl)) h1k hn hlt1
  obtain ⟨fuel0, hf0⟩ := h0
  obtain ⟨fuel1, hf1⟩ := h1
  obtain ⟨ts, rfl, hT, hTw, hd0⟩ := terms_read hf0
  obtain ⟨ps, rfl, hP, hd1⟩ := pairs_read hf1
  have s0 : ts.length * 32 ≤ 140737488351232 := by
    rcases hd0 with e | ⟨es, sp, rfl, e⟩
    · omega
    · have := sized_slice hsz (j := 0) (t := 36) (e := 40) rfl rfl underTms
      rw [bTm] at this
      simp only [reachBytes] at this
      omega
  have s1 : ps.length * 16 ≤ 140737488351232 := by
    rcases hd1 with e | ⟨es, sp, rfl, e⟩
    · omega
    · have := sized_slice hsz (j := 1) (t := 37) (e := 42) rfl rfl underPrs
      rw [bPr] at this
      simp only [reachBytes] at this
      omega
  refine (joins_law ts ps a0 a1 cap0 cap1 W hT hP s0 s1 hTw).mono fun e W' ⟨he, hb⟩ => ?_
  subst he
  exact ⟨_, rfl, _, _, _, [], p0 ++ (p1 ++ []), [], hW', trodAll_cons_mk (shut_bool uBool _) trodAll_mk0, trodAll_cons_mk (harg0 _ hb) (trodAll_cons_mk (harg1 _ hb) trodAll_mk0), rfl, hb.frame _, fun h => by cases h⟩
end JoinsRow

theorem joins_said : Rows.JoinsSaid :=
  OpenClaim.holds_of_wide 4 Try.f4 rfl rfl rfl rfl rfl rfl rfl ⟨rfl, rfl, rfl, rfl, rfl⟩ rfl rfl rfl rfl rfl (by kernel_rfl) Try.func4 (by kernel_rfl)
    (of_decide_eq_true (by kernel_rfl)) (by unfold Func.isWrapper; first | (rw [if_pos (by decide +kernel)]; kernel_rfl) | (rw [if_neg (by decide +kernel)]; exact ⟨rfl, rfl⟩))
    (fun os started H enc _ => JoinsRow.lifted os started H enc)
end Go.Proofs.Ytanlmfcllebopaa
