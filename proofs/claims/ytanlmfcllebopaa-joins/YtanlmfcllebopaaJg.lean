/- (*classes.Table).follow and Close, walked. -/
import Derived.Test.YtanlmfcllebopaaJf
namespace Go.Proofs.Ytanlmfcllebopaa
open Go.RowKit Go.Maps

/-- how far a round has come: L tells which entries of the old table M are still to come; q, N, j: the forest, the new table, whether places were joined -/
structure FInv (ts : List Tm) (ps : List (Int × Int)) (r : Nat → Nat) (M : Tm → Option Nat) (L : Tm → Prop) (s : Nat → Nat) (N : Tm → Option Nat) (j : Bool) : Prop where
  sound : Sound ts ps s
  holds : Holds ts ps N
  coarser : Coarser r s
  covers : ∀ key pl, M key = some pl → L key ∨ Covers N s key pl
  same : j = false → s = r ∧ ∀ key pl, M key = some pl → L key ∨ ∃ pl', N (ck r key) = some pl' ∧ r pl' = r pl
  le : tops s ts.length ≤ tops r ts.length
  lt : j = true → tops s ts.length < tops r ts.length
/-- one entry kept anew -/
def KeptHow (s : Nat → Nat) (N : Tm → Option Nat) (x : Tm) (pl : Nat) (b : Bool) (s' : Nat → Nat) (N' : Tm → Option Nat) : Prop :=
  (N (ck s x) = none ∧ Puts N N' (ck s x) pl ∧ s' = s ∧ b = false) ∨ (∃ first, N (ck s x) = some first ∧ Puts N N' (ck s x) (min first pl) ∧ s' = joinR s first pl ∧ b = (s first != s pl))
theorem joinR_min (r : Nat → Nat) (a b : Nat) : joinR r a b (min a b) = joinR r a b b := by
  rcases Nat.le_total a b with h | h
  · rw [Nat.min_eq_left h]; exact joinR_both r a b
  · rw [Nat.min_eq_right h]
theorem KeptHow.sound {ts : List Tm} {ps : List (Int × Int)} {s s' : Nat → Nat} {N N' : Tm → Option Nat} {x : Tm} {pl : Nat} {b : Bool} (h : KeptHow s N x pl b s' N') (hs : Sound ts ps s) (hN : Holds ts ps N) (hx : Stands ts ps x pl) :
    Sound ts ps s' ∧ Holds ts ps N' ∧ Coarser s s' ∧ Covers N' s' x pl ∧ (∀ key q, Covers N s key q → Covers N' s' key q) ∧ tops s' ts.length ≤ tops s ts.length ∧ (b = true → tops s' ts.length < tops s ts.length) ∧ (b = false → s' = s) := by
  rcases h with ⟨h1, h2, rfl, rfl⟩ | ⟨first, h1, h2, rfl, hb⟩
  · exact ⟨hs, h2.holds hN (hx.key hs), coarser_refl _, keep_covers_new hs.2.1 h2, fun key q hc => h2.covers h1 hc, Nat.le_refl _, fun e => (by cases e), fun _ => rfl⟩
  · have hst := hN _ _ h1
    have hmin : Stands ts ps (ck s x) (min first pl) := by
      rcases Nat.le_total first pl with h | h
      · rw [Nat.min_eq_left h]; exact hst
      · rw [Nat.min_eq_right h]; exact hx.key hs
    refine ⟨hs.join fun E hE => hst.both (hx.key hs) hE, h2.holds hN hmin, coarser_join _ _ _, ⟨ck s x, min first pl, h2.1, joinR_min s first pl, ck_coarser (coarser_join s first pl) (ck_idem hs.2.1 x)⟩, fun key q hc => ?_, tops_join_le _ hs.2.1 _ _ _, fun e => ?_, fun e => ?_⟩
    · obtain ⟨k, c, g1, g2, g3⟩ := hc
      by_cases e : k = ck s x
      · subst e
        rw [h1] at g1
        cases g1
        exact ⟨_, _, h2.1, (joinR_min s first pl).trans ((joinR_both s first pl).symm.trans (coarser_join s first pl _ _ g2)), ck_coarser (coarser_join s first pl) g3⟩
      · exact ⟨k, c, (h2.2 k e).trans g1, coarser_join s first pl _ _ g2, ck_coarser (coarser_join s first pl) g3⟩
    · rw [e] at hb
      exact tops_join_lt hs.1 hs.2.1 (by simpa using hb.symm) hst.lt hx.lt
    · rw [e] at hb
      exact joinR_same (by simpa using hb.symm)
theorem FInv.step {ts : List Tm} {ps : List (Int × Int)} {r : Nat → Nat} {M : Tm → Option Nat} {L L' : Tm → Prop} {s s' : Nat → Nat} {N N' : Tm → Option Nat} {j b : Bool} (h : FInv ts ps r M L s N j) {x : Tm} {pl : Nat} (hM : Holds ts ps M) (hx : M x = some pl)
    (hL : ∀ key q, M key = some q → key ≠ x → L key → L' key) (hk : KeptHow s N x pl b s' N') : FInv ts ps r M L' s' N' (j || b) := by
  obtain ⟨k1, k2, k3, k4, k5, k6, k7, k8⟩ := hk.sound h.sound h.holds (hM _ _ hx)
  refine ⟨k1, k2, h.coarser.trans k3, fun key q hq => ?_, fun e => ?_, Nat.le_trans k6 h.le, fun e => ?_⟩
  · by_cases e : key = x
    · subst e
      rw [hx] at hq
      cases hq
      exact .inr k4
    · rcases h.covers key q hq with hl | hc
      · exact .inl (hL key q hq e hl)
      · exact .inr (k5 key q hc)
  · obtain ⟨e1, e2⟩ := Bool.or_eq_false_iff.1 e
    obtain ⟨g1, g2⟩ := h.same e1
    subst g1
    refine ⟨k8 e2, fun key q hq => ?_⟩
    by_cases e : key = x
    · subst e
      rw [hx] at hq
      cases hq
      rcases hk with ⟨h1, h2, _, _⟩ | ⟨first, h1, h2, _, hb⟩
      · exact .inr ⟨pl, h2.1, rfl⟩
      · rw [e2] at hb
        have hfp : s first = s pl := by simpa using hb.symm
        refine .inr ⟨min first pl, h2.1, ?_⟩
        rcases Nat.le_total first pl with h | h
        · rw [Nat.min_eq_left h]; exact hfp
        · rw [Nat.min_eq_right h]
    · rcases g2 key q hq with hl | ⟨pl', a1, a2⟩
      · exact .inl (hL key q hq e hl)
      · rcases hk with ⟨h1, h2, _, _⟩ | ⟨first, h1, h2, _, hb⟩
        · refine .inr ⟨pl', ?_, a2⟩
          rw [h2.2 _ (fun e' => by rw [e', h1] at a1; cases a1)]
          exact a1
        · by_cases e' : ck s key = ck s x
          · rw [e', h1] at a1
            have ea : first = pl' := Option.some.inj a1
            subst ea
            rw [e2] at hb
            have hfp : s first = s pl := by simpa using hb.symm
            refine .inr ⟨min first pl, by rw [e']; exact h2.1, ?_⟩
            rcases Nat.le_total first pl with h | h
            · rw [Nat.min_eq_left h]; exact a2
            · rw [Nat.min_eq_right h]; exact hfp.symm.trans a2
          · exact .inr ⟨pl', (h2.2 _ e').trans a1, a2⟩
  · cases b
    · rw [k8 rfl]
      exact h.lt (by simpa using e)
    · exact Nat.lt_of_lt_of_le (k7 rfl) h.le
theorem FInv.start {ts : List Tm} {ps : List (Int × Int)} {r : Nat → Nat} {M : Tm → Option Nat} (hs : Sound ts ps r) : FInv ts ps r M (fun t => (M t).isSome) r (fun _ => none) false :=
  ⟨hs, fun _ _ h => (by cases h), coarser_refl _, fun _ _ h => .inl (by rw [h]; rfl), fun _ => ⟨rfl, fun _ _ h => .inl (by rw [h]; rfl)⟩, Nat.le_refl _, fun e => (by cases e)⟩
theorem FInv.imp {ts : List Tm} {ps : List (Int × Int)} {r : Nat → Nat} {M : Tm → Option Nat} {L L' : Tm → Prop} {s : Nat → Nat} {N : Tm → Option Nat} {j : Bool} (h : FInv ts ps r M L s N j) (hL : ∀ key q, M key = some q → L key → L' key) : FInv ts ps r M L' s N j :=
  ⟨h.sound, h.holds, h.coarser, fun key q hq => (h.covers key q hq).imp_left (hL key q hq), fun e => ⟨(h.same e).1, fun key q hq => ((h.same e).2 key q hq).imp_left (hL key q hq)⟩, h.le, h.lt⟩
theorem run_makeMap_hint (x : Int) (w : World) : (Instr.makeMap 99 (some (.int .i64 x))).run Try.prog w = .ok (.map (some w.heap.size)) (w.alloc (.map #[] 0)) := by
  simp [Instr.makeMap, run_underlying mapTm, asInt, asIntOf, Result.andThen]
theorem ranges_keeps {w w' : World} {b r n cnt : Nat} {D : DataW Unit} {left : Lit → Bool} {S : Nat → Prop} (h : w.ranges Try.prog 40 (plainElem Try.prog 3) b r n D left cnt) (hk : Keeps S w w') (hb : ¬ S b) (hr : ¬ S r) : w'.ranges Try.prog 40 (plainElem Try.prog 3) b r n D left cnt := by
  have h1 := h.owns.lt
  have h2 := h.lt
  obtain ⟨es, clock, since, seen, c0, hb', F, hs, hD, hr', rest⟩ := h
  exact ⟨es, clock, since, seen, c0, (hk.block b h1 hb).trans hb', F, hs, hD, (hk.block r h2 hr).trans hr', rest⟩
/-- the entry that comes is one of M's -/
theorem next_entry {D : DataW Unit} {M : Tm → Option Nat} (h : MapD D M) {x : Tm} {c : Int} {l : Lit} {y : DataW Unit × List MemPlace} (hkey : keyOf Try.prog 40 (.agg #[.int .i64 x.op, .int .i64 x.k, .int .i64 x.a, .int .i64 x.b]) = some l)
    (hRv : plainElem Try.prog 3 (.int .i64 c) = some y) (hat : ∀ zd, D.atKey l zd = y.1) : l = kl x ∧ ∃ pl : Nat, M x = some pl ∧ c = pl := by
  obtain ⟨x', ex, hwx, rfl⟩ := keyOf_tm_inv hkey
  obtain rfl : x = x' := by
    simp only [Value.agg.injEq, Array.mk.injEq, List.cons.injEq, Value.int.injEq, true_and, and_true] at ex
    cases x; cases x'; simp_all
  have hh : Maps.has D (kl x) = true := has_true_of_atKey hat
  rw [h.has x hwx] at hh
  obtain ⟨pl, hpl⟩ := Option.isSome_iff_exists.1 hh
  refine ⟨rfl, pl, hpl, ?_⟩
  have hv := h.val x pl hpl (.lit (.int .i64 0))
  rw [hat] at hv
  obtain ⟨c', hc', hy, _⟩ := plainElem_int_inv juInt hRv
  cases hc'
  rw [hy] at hv
  simpa using hv
/-- what a round leaves -/
structure FollowPost (ts : List Tm) (ps : List (Int × Int)) (p : Nat → Nat) (M : Tm → Option Nat) (tb xb fb m : Nat) (w : World) (j : Bool) (w' : World) (p' : Nat → Nat) (M' : Tm → Option Nat) (mb' : Nat) : Prop where
  t : TableAt w' tb xb fb ts.length mb'
  f : FAt w' fb ts.length p'
  tops : Tops p'
  map : MapIs w' mb' m M'
  inv : FInv ts ps (root p) M (fun _ => False) (root p') M' j
  new : w.heap.size ≤ mb'
  keeps : Keeps (fun k => k = fb ∨ k = tb) w w'
set_option maxHeartbeats 2000000 in
set_option maxRecDepth 100000 in
theorem follow_any (ts : List Tm) (ps : List (Int × Int)) (tb xb fb mb m : Nat) (p : Nat → Nat) (M : Tm → Option Nat) (w : World) (ht : TableAt w tb xb fb ts.length mb) (hf : FAt w fb ts.length p) (hp : Tops p) (hM : MapIs w mb m M) (hm : m ≤ 1000) (hn : ts.length ≤ 1000)
    (hs : Sound ts ps (root p)) (hh : Holds ts ps M) (h1 : tb ≠ fb) (h2 : mb ≠ fb) (h3 : tb ≠ mb) (h4 : xb ≠ fb) (h5 : tb ≠ xb) :
    Calls Try.prog 47 #[.pointer (some ⟨tb, 0, none⟩)] w fun e w' => ∃ j p' M' mb', e = .returned (.bool j) ∧ FollowPost ts ps p M tb xb fb m w j w' p' M' mb' := by
  have HF : Hid (FAt w fb ts.length p) := hf
  have HT : Hid (TableAt w tb xb fb ts.length mb) := ht
  have HM : Hid (MapIs w mb m M) := hM
  have HS : Hid (Sound ts ps (root p) ∧ Holds ts ps M) := ⟨hs, hh⟩
  have hl := hf.lt
  have hl2 := hM.lt
  have hl3 := ht.lt
  have hl4 := ht.xlt
  clear hf ht hM hs hh
  obtain ⟨D, hown, hD⟩ := HM.out
  have HO : Hid (w.ownsMap Try.prog 40 (plainElem Try.prog 3) mb m D) := hown
  have HD : Hid (MapD D M) := hD
  have hsz := hown.size_le
  clear hown hD
  obtain ⟨T0, T1, T2, T3, T4, T5, T6⟩ := HT.out
  have hmm := run_makeMap_hint
  have hal := al1 T0
  have e1 : (w.alloc (.map #[] 0)).heap.size = w.heap.size + 1 := by simp
  go_enter Try.func47, Try.ntmps47
  go_wp2_with (first
    | (at_len; refine wpList_len_own _ rfl _ 99 rfl 40 3 mapTm _ mb m D rfl HO.out ?_)
    | (at_range; refine wpList_range_own _ rfl _ 99 rfl 40 3 lawTm mapTm _ mb m D rfl (HO.out.alloc _) ?_; intro w0 hrg0 hg0 hs0)
    | go_in)
  go_frame
  rw [e1] at hrg0 hs0 ⊢
  have hk0 : Keeps (fun _ => False) w w0 := (Keeps.of_below (Bl.more (Bl.refl _) _)).trans (Keeps.of_grown hg0 (fun j e => by cases e))
  have HM0 : Hid (MapIs w0 w.heap.size 0 (fun _ => none)) := ⟨_, (World.ownsMap_made _ _ _ _).kept hg0 (by simp), mapD_empty⟩
  have HRG : Hid (w0.ranges Try.prog 40 (plainElem Try.prog 3) mb (w.heap.size + 1) m D (Maps.has D) (Maps.size D)) := hrg0
  have HK0 : Hid (Keeps (fun _ => False) w w0) := hk0
  clear hrg0 hg0 hk0 hmm
  go_loopw [4, 18] (fun v4 _ wr => ∃ (left : Lit → Bool) (cnt : Nat) (q : Nat → Nat) (N : Tm → Option Nat) (j : Bool), v4 = .bool j ∧ wr.ranges Try.prog 40 (plainElem Try.prog 3) mb (w.heap.size + 1) m D left cnt ∧ cnt ≤ m ∧ FAt wr fb ts.length q ∧ Tops q ∧
      MapIs wr w.heap.size (m - cnt) N ∧ FInv ts ps (root p) M (fun t => left (kl t) = true) (root q) N j ∧ Keeps (fun k => k = fb) w wr)
    (fun _ _ wr => wr.rangeLeft mb (w.heap.size + 1))
  case atStart =>
    refine ⟨_, _, p, _, false, rfl, HRG.out, hsz, HF.out.keeps HK0.out id, hp, HM0.out.mono (Nat.zero_le _), (FInv.start HS.out.1).imp fun key c hc _ => ?_, HK0.out.mono fun _ _ e => e.elim⟩
    show Maps.has D (kl key) = true
    rw [HD.out.has key (HD.out.wf key c hc), hc]; rfl
  case round =>
    obtain ⟨left, cnt, q, N, j, rfl, hrg, hcm, hq, htq, hN, hI, hk⟩ := hrel
    have HQ : Hid (FAt wr fb ts.length q ∧ Tops q ∧ MapIs wr w.heap.size (m - cnt) N ∧ FInv ts ps (root p) M (fun t => left (kl t) = true) (root q) N j ∧ Keeps (fun k => k = fb) w wr) := ⟨hq, htq, hN, hI, hk⟩
    clear hq htq hN hI hk
    have TT := HT.out.keeps HQ.out.2.2.2.2 h1 h4
    obtain ⟨t0, t1, t2, t3, t4, t5, t6⟩ := TT
    go_wp2_with (first
      | (at_next; refine wpList_next_ranges (α := Tm) (β := Int) _ rfl _ rfl 40 lawTm (plainElem Try.prog 3) (fun t => .agg #[.int .i64 t.op, .int .i64 t.k, .int .i64 t.a, .int .i64 t.b]) (Value.int .i64) (fun key l hk => (by obtain ⟨t, h, _⟩ := keyOf_tm_inv hk; exact ⟨t, h⟩)) (fun v y hv => (by obtain ⟨c, h, _⟩ := plainElem_int_inv juInt hv; exact ⟨c, h⟩)) mb (w.heap.size + 1) m D left cnt rfl hrg ?_ ?_)
      | go_in)
    · intro hc0 hl0
      have HL : Hid (∀ kl, left kl = false) := hl0
      clear hl0
      have HE : Hid (FollowPost ts ps p M tb xb fb m w j (wr.setCell ⟨tb, 2, none⟩ (.map (some w.heap.size))) q N w.heap.size) := by
        obtain ⟨q1, q2, q3, q4, q5⟩ := HQ.out
        have hkt : Keeps (fun k => k = tb) wr (wr.setCell ⟨tb, 2, none⟩ (.map (some w.heap.size)))   := Keeps.setCell (S := fun k => k = tb) (p := ⟨tb, 2, none⟩) (Keeps.refl _ _) (.inl rfl) _
        refine ⟨⟨by simpa using t0, by simpa using t1, (hkt.cell (by exact t1) (fun e => h5 e.symm)).trans t2, by simp [go_sem, t3], by simp [go_sem, t4], by simp [go_sem, t5], by simp [go_sem, t6]⟩, q1.keeps hkt (fun e => h1 e.symm), q2, (q3.keeps hkt (fun e => by omega)).mono (by omega), q4.imp fun key c _ hl => (by rw [HL.out] at hl; cases hl), Nat.le_refl _, (q5.mono (fun k _ e => .inl e)).setCell (.inl (.inr rfl)) _⟩
      go_wp2
      go_ret
      exact ⟨j, q, N, w.heap.size, rfl, HE.out⟩
    · intro x c l y1 y2 w1 cnt1 hkey hlx hRv hat hrg1 hlt hg1 hs1 hen
      obtain ⟨rfl, pl, hpl, rfl⟩ := next_entry HD.out hkey hRv hat
      clear hkey hRv hat hlx
      have HKX : Hid (Keeps (fun k => k = w.heap.size + 1) wr w1) := Keeps.of_grown hg1 (fun j e => (Option.some.inj e).symm)
      have HRG1 : Hid (w1.ranges Try.prog 40 (plainElem Try.prog 3) mb (w.heap.size + 1) m D (fun z => left z && !z.sameKey (kl x)) cnt1) := hrg1
      have HX : Hid (M x = some pl ∧ Stands ts ps x pl ∧ TmWf x) := ⟨hpl, HS.out.2 _ _ hpl, HD.out.wf _ _ hpl⟩
      have hlr := hrg.lt
      have HLT : Hid (cnt1 < cnt ∧ cnt ≤ m) := ⟨hlt, hcm⟩
      have HRL : Hid (wr.rangeLeft mb (w.heap.size + 1) = cnt) := hrg.left_eq
      clear hg1 hrg1 hpl hrg hlt hcm
      go_wp2_with (first
        | (go_at_call 46; refine (keep_any tb xb fb ts.length w.heap.size mb (m - cnt) q N x pl _ (((HT.out.keeps HQ.out.2.2.2.2 h1 h4).keeps HKX.out (by omega) (by omega)).keeps (S := fun _ => False) (Keeps.of_below (Bl.more (Bl.refl _) _)) id id) ((HQ.out.1.keeps HKX.out (by omega)).keeps (S := fun _ => False) (Keeps.of_below (Bl.more (Bl.refl _) _)) id) HQ.out.2.1 ((HQ.out.2.2.1.keeps HKX.out (by omega)).keeps (S := fun _ => False) (Keeps.of_below (Bl.more (Bl.refl _) _)) id) (by omega) hn HX.out.2.2 HX.out.2.1.a HX.out.2.1.b HX.out.2.1.lt (fun k c hc => (HQ.out.2.2.2.1.holds k c hc).lt) h1 (by omega) (by omega) (by omega) h4).mono ?_; rintro e w2 ⟨b, q', N', rfl, hP⟩; have HP : Hid (KeepPost q N x pl fb ts.length w.heap.size (m - cnt) _ b w2 q' N') := hP; clear hP; cases b)
        | go_in)
      all_goals
        have HR2 : Hid (w2.ranges Try.prog 40 (plainElem Try.prog 3) mb (w.heap.size + 1) m D (fun z => left z && !z.sameKey (kl x)) cnt1) := ranges_keeps (ranges_keeps (S := fun _ => False) HRG1.out (Keeps.of_below (Bl.more (Bl.refl _) _)) id id) HP.out.keeps (by omega) (by omega)
        have HST := HQ.out.2.2.2.1.step (L' := fun t => (left (kl t) && !(kl t).sameKey (kl x)) = true) HS.out.2 HX.out.1 (fun key c hc hne hl => by
          have hs := sameKey_ne (a := kl key) (b := kl x) (fun e => hne (kl_inj (HD.out.wf key c hc) HX.out.2.2 e))
          simp only [hl, hs, Bool.not_false, Bool.and_self]) HP.out.how
        have HKK : Hid (Keeps (fun k => k = fb) w w2) := ((HQ.out.2.2.2.2.after HKX.out (fun i hi e => by omega)).after (Keeps.of_below (S := fun _ => False) (Bl.more (Bl.refl _) _)) (fun _ _ e => e.elim)).after HP.out.keeps (fun i hi e => by omega)
        have HFI : Hid (FInv ts ps (root p) M (fun t => (left (kl t) && !(kl t).sameKey (kl x)) = true) (root q') N' _) := HST
        clear HST
        go_wp2
      · exact ⟨⟨_, cnt1, q', N', j, rfl, HR2.out, by have := HLT.out; omega, HP.out.f, HP.out.tops, HP.out.map.mono (by have := HLT.out; omega), by simpa using HFI.out, HKK.out⟩, by rw [HR2.out.left_eq, HRL.out]; exact HLT.out.1⟩
      · exact ⟨⟨_, cnt1, q', N', true, rfl, HR2.out, by have := HLT.out; omega, HP.out.f, HP.out.tops, HP.out.map.mono (by have := HLT.out; omega), by simpa using HFI.out, HKK.out⟩, by rw [HR2.out.left_eq, HRL.out]; exact HLT.out.1⟩
end Go.Proofs.Ytanlmfcllebopaa
