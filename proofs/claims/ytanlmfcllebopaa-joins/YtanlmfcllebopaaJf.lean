/- (*classes.Table).keep and Put, walked. -/
import Derived.Test.YtanlmfcllebopaaJe
namespace Go.Proofs.Ytanlmfcllebopaa
open Go.RowKit Go.Maps

theorem cp_wf {r : Nat → Nat} (hr : ∀ i, r i ≤ i) {n : Nat} (hn : n ≤ 1000) {x : Int} (h : PartOk n x) : (Lit.int .i64 (cp r x)).wf = true := by
  apply WalkArith.wf_i64
  unfold cp
  rcases h with h | h
  · rw [if_pos h]; omega
  · rw [if_neg (by omega)]
    have := hr x.toNat
    omega
theorem ck_wf {r : Nat → Nat} (hr : ∀ i, r i ≤ i) {n : Nat} (hn : n ≤ 1000) {t : Tm} (ht : TmWf t) (ha : PartOk n t.a) (hb : PartOk n t.b) : TmWf (ck r t) :=
  ⟨ht.1, ht.2.1, cp_wf hr hn ha, cp_wf hr hn hb⟩
/-- what keep does -/
structure KeepPost (p : Nat → Nat) (M : Tm → Option Nat) (t : Tm) (pl fb n mb m : Nat) (w : World) (b : Bool) (w' : World) (p' : Nat → Nat) (M' : Tm → Option Nat) : Prop where
  f : FAt w' fb n p'
  tops : Tops p'
  map : MapIs w' mb (m + 1) M'
  keeps : Keeps (fun k => k = fb ∨ k = mb) w w'
  how : (M (ck (root p) t) = none ∧ Puts M M' (ck (root p) t) pl ∧ root p' = root p ∧ b = false) ∨ (∃ first, M (ck (root p) t) = some first ∧ Puts M M' (ck (root p) t) (min first pl) ∧ root p' = joinR (root p) first pl ∧ b = (root p first != root p pl))
set_option maxHeartbeats 2000000 in
set_option maxRecDepth 100000 in
theorem keep_any (tb xb fb n mb mt m : Nat) (p : Nat → Nat) (M : Tm → Option Nat) (t : Tm) (pl : Nat) (w : World) (ht : TableAt w tb xb fb n mt) (hf : FAt w fb n p) (hp : Tops p) (hM : MapIs w mb m M) (hm : m ≤ 1000) (hn : n ≤ 1000) (hw : TmWf t)
    (ha : PartOk n t.a) (hb : PartOk n t.b) (hpl : pl < n) (hv : ∀ k c, M k = some c → c < n) (h1 : tb ≠ fb) (h2 : mb ≠ fb) (h3 : tb ≠ mb) (h4 : xb ≠ mb) (h5 : xb ≠ fb) :
    Calls Try.prog 46 #[.pointer (some ⟨tb, 0, none⟩), .map (some mb), .agg #[.int .i64 t.op, .int .i64 t.k, .int .i64 t.a, .int .i64 t.b], .int .i64 pl] w fun e w' => ∃ b p' M', e = .returned (.bool b) ∧ KeepPost p M t pl fb n mb m w b w' p' M' := by
  have HF : Hid (FAt w fb n p) := hf
  have HT : Hid (TableAt w tb xb fb n mt) := ht
  have HM : Hid (MapIs w mb m M) := hM
  have HX : Hid (PartOk n t.a ∧ PartOk n t.b) := ⟨ha, hb⟩
  have HW : Hid (TmWf t) := hw
  have HV : Hid (∀ k c, M k = some c → c < n) := hv
  have hl := hf.lt
  have hl2 := hM.lt
  have hl3 := ht.lt
  clear hf ht ha hb hM hw hv
  go_enter Try.func46, Try.ntmps46
  go_wp2_with fail
  refine (key_any tb xb fb n mt p t _ (HT.out.keeps (S := fun _ => False) (Keeps.of_below (Bl.more (Bl.refl _) _)) id id) (HF.out.keeps (S := fun _ => False) (Keeps.of_below (Bl.more (Bl.refl _) _)) id) hp HX.out.1 HX.out.2 h1 h5).mono ?_
  rintro e w1 ⟨rfl, ⟨p1, f1, t1, r1⟩, k1⟩
  have HK1 : Hid (Keeps (fun k => k = fb) w w1) := Keeps.trans (Keeps.of_below (Bl.more (Bl.refl _) _)) k1
  have HF1 : Hid (FAt w1 fb n p1 ∧ Tops p1 ∧ root p1 = root p) := ⟨f1, t1, r1⟩
  obtain ⟨D, hown, hD⟩ := HM.out.keeps HK1.out h2
  have HO : Hid (w1.ownsMap Try.prog 40 (plainElem Try.prog 3) mb m D) := hown
  have HD : Hid (MapD D M) := hD
  have HQ : Hid (TmWf (ck (root p) t)) := ck_wf (root_le hp) hn HW.out HX.out.1 HX.out.2
  have HT1 : Hid (TableAt w1 tb xb fb n mt) := HT.out.keeps HK1.out h1 h5
  clear f1 t1 r1 k1 hown hD
  have hkey : keyOf Try.prog 40 (.agg #[.int .i64 t.op, .int .i64 t.k, .int .i64 (cp (root p) t.a), .int .i64 (cp (root p) t.b)]) = some (kl (ck (root p) t)) := keyOf_tm HQ.out
  have HKEY : Hid (keyOf Try.prog 40 (.agg #[.int .i64 t.op, .int .i64 t.k, .int .i64 (cp (root p) t.a), .int .i64 (cp (root p) t.b)]) = some (kl (ck (root p) t))) := hkey
  clear hkey
  cases hM1 : M (ck (root p) t) with
  | none =>
    have HN : Hid (M (ck (root p) t) = none) := hM1
    have hh : Maps.has D (kl (ck (root p) t)) = false := by rw [HD.out.has _ HQ.out, hM1]; rfl
    clear hM1
    go_wp2_with (first
      | (at_lookup; refine wpList_lookup_own_ok_int _ rfl _ _ 99 rfl 40 3 .i64 lawTm mapTm juInt (zeroInt _) mb m D rfl (HO.out.alloc _) _ _ rfl HKEY.out ?_; intro c hat hwc)
      | (at_mapUpdate; refine wpList_mapUpdate_own _ rfl _ _ _ 99 rfl 40 3 lawTm mapTm _ mb m D rfl (HO.out.alloc _) (by unfold maxLen; omega) _ _ _ rfl rfl HKEY.out _ [] (plainElem_int juInt (WalkArith.wf_i64 (by omega))) ?_; intro w2 hown2 hg2)
      | go_in)
    clear hat hwc
    obtain ⟨M', hD', hP⟩ := mapD_put HD.out HO.out.isMap HQ.out pl
    have HE : Hid (∃ b p' M', Ending.returned (.bool false) = .returned (.bool b) ∧ KeepPost p M t pl fb n mb m w b w2 p' M') := by
      refine ⟨false, p1, M', rfl, ?_, HF1.out.2.1, ⟨_, hown2, hD'⟩, ?_, .inl ⟨HN.out, hP, HF1.out.2.2, rfl⟩⟩
      · exact (HF1.out.1.keeps (S := fun _ => False) (Keeps.of_below (Bl.more (Bl.refl _) _)) id).keeps (S := fun k => k = mb) (Keeps.of_grown hg2 (fun j e => (Option.some.inj e).symm)) (fun e => h2 e.symm)
      · exact (HK1.out.mono (fun k _ e => .inl e)).trans ((Keeps.of_below (Bl.more (Bl.refl _) _)).trans (Keeps.of_grown hg2 (fun j e => .inr (Option.some.inj e).symm)))
    clear hown2 hg2 hD' hP
    go_wp2
    go_ret
    exact HE.out
  | some first =>
    have HS : Hid (M (ck (root p) t) = some first) := hM1
    have hh : Maps.has D (kl (ck (root p) t)) = true := by rw [HD.out.has _ HQ.out, hM1]; rfl
    have hfl : first < n := HV.out _ _ hM1
    clear hM1
    have HMN : Hid ((if pl < first then (pl : Int) else (first : Int)) = ((min first pl : Nat) : Int)) := by
      show (if pl < first then (pl : Int) else (first : Int)) = _
      split <;> omega
    go_wp2_with (first
      | (at_lookup; refine wpList_lookup_own_ok_int _ rfl _ _ 99 rfl 40 3 .i64 lawTm mapTm juInt (zeroInt _) mb m D rfl (HO.out.alloc _) _ _ rfl HKEY.out ?_; intro c hat hwc; obtain rfl : c = (first : Int) := (by have := (HD.out.val _ _ HS.out (.lit (.int .i64 0))).symm.trans hat; simpa using this.symm); clear hat hwc)
      | (at_mapUpdate; refine wpList_mapUpdate_own _ rfl _ _ _ 99 rfl 40 3 lawTm mapTm _ mb m D rfl (HO.out.alloc _) (by unfold maxLen; omega) _ _ _ rfl rfl HKEY.out _ [] (plainElem_int juInt (WalkArith.wf_i64 (by split <;> omega))) ?_; intro w2 hown2 hg2; rw [HMN.out] at hown2; have HG2 : Hid (Keeps (fun k => k = mb) _ w2) := Keeps.of_grown hg2 (fun j e => (Option.some.inj e).symm); have HO2 : Hid (w2.ownsMap Try.prog 40 (plainElem Try.prog 3) mb (m + 1) (D.put (kl (ck (root p) t)) (.lit (.int .i64 ((min first pl : Nat) : Int))))) := hown2; have HT2 : Hid (TableAt w2 tb xb fb n mt) := ((HT1.out.keeps (S := fun _ => False) (Keeps.of_below (Bl.more (Bl.refl _) _)) id id).keeps HG2.out h3 h4); clear hown2 hg2; obtain ⟨T0, T1, T2, T3, T4, T5, T6⟩ := HT2.out)
      | fail)
    all_goals
      refine (fjoin_any fb n p1 first pl _ ((HF1.out.1.keeps (S := fun _ => False) (Keeps.of_below (Bl.more (Bl.refl _) _)) id).keeps HG2.out (fun e => h2 e.symm)) HF1.out.2.1 hfl hpl).mono ?_
      rintro e w3 ⟨rfl, ⟨p2, f2, t2, r2⟩, k2⟩
      obtain ⟨M', hD', hP⟩ := mapD_put HD.out HO.out.isMap HQ.out (min first pl)
      have HE : Hid (∃ b p' M', Ending.returned (.bool (root p1 first != root p1 pl)) = .returned (.bool b) ∧ KeepPost p M t pl fb n mb m w b w3 p' M') := by
        rw [HF1.out.2.2] at r2 ⊢
        refine ⟨_, p2, M', rfl, f2, t2, ?_, ?_, .inr ⟨first, HS.out, hP, r2, rfl⟩⟩
        · exact MapIs.keeps ⟨_, HO2.out, hD'⟩ k2 h2
        · exact (HK1.out.mono (fun k _ e => .inl e)).trans ((Keeps.of_below (Bl.more (Bl.refl _) _)).trans ((HG2.out.mono (fun k _ e => .inr e)).trans (k2.mono (fun k _ e => .inl e))))
      clear f2 t2 r2 k2 hP hD'
      go_wp2
      go_ret
      exact HE.out
set_option maxHeartbeats 2000000 in
theorem tput_any (tb xb fb n mb m : Nat) (p : Nat → Nat) (M : Tm → Option Nat) (t : Tm) (pl : Nat) (w : World) (ht : TableAt w tb xb fb n mb) (hf : FAt w fb n p) (hp : Tops p) (hM : MapIs w mb m M) (hm : m ≤ 1000) (hn : n ≤ 1000) (hw : TmWf t)
    (ha : PartOk n t.a) (hb : PartOk n t.b) (hpl : pl < n) (hv : ∀ k c, M k = some c → c < n) (h1 : tb ≠ fb) (h2 : mb ≠ fb) (h3 : tb ≠ mb) (h4 : xb ≠ mb) (h5 : xb ≠ fb) :
    Calls Try.prog 35 #[.pointer (some ⟨tb, 0, none⟩), .agg #[.int .i64 t.op, .int .i64 t.k, .int .i64 t.a, .int .i64 t.b], .int .i64 pl] w fun e w' => e = .returned (.tuple #[]) ∧ ∃ b p' M', KeepPost p M t pl fb n mb m w b w' p' M' := by
  have HF : Hid (FAt w fb n p) := hf
  have HT : Hid (TableAt w tb xb fb n mb) := ht
  have HM : Hid (MapIs w mb m M) := hM
  have HX : Hid (PartOk n t.a ∧ PartOk n t.b) := ⟨ha, hb⟩
  have HW : Hid (TmWf t) := hw
  have HV : Hid (∀ k c, M k = some c → c < n) := hv
  clear hf ht ha hb hM hw hv
  obtain ⟨T0, T1, T2, T3, T4, T5, T6⟩ := HT.out
  have hal := al1 T0
  go_enter Try.func35, Try.ntmps35
  go_wp2
  go_region_with (first | (go_at_call 46; refine (keep_any tb xb fb n mb mb m p M t pl _ (HT.out.keeps (S := fun _ => False) ?_ id id) (HF.out.keeps (S := fun _ => False) ?_ id) hp (HM.out.keeps (S := fun _ => False) ?_ id) hm hn HW.out HX.out.1 HX.out.2 hpl HV.out h1 h2 h3 h4 h5).mono ?_; (exact Keeps.of_below (by repeat (first | exact Bl.refl _ | refine Bl.more ?_ _ | refine Below.drew ?_))); (exact Keeps.of_below (by repeat (first | exact Bl.refl _ | refine Bl.more ?_ _ | refine Below.drew ?_))); (exact Keeps.of_below (by repeat (first | exact Bl.refl _ | refine Bl.more ?_ _ | refine Below.drew ?_))); rintro e w3 ⟨b, p', M', rfl, hP⟩; have HP : Hid (KeepPost p M t pl fb n mb m w b w3 p' M') := ⟨hP.f, hP.tops, hP.map, Keeps.trans (Keeps.of_below (by repeat (first | exact Bl.refl _ | refine Bl.more ?_ _ | refine Below.drew ?_))) hP.keeps, hP.how⟩; clear hP) | fail)
  all_goals
    go_wp2
    exact bodyPost_end (v := .tuple #[]) (by simp [results, Try.results35, go_sem]) rfl ⟨rfl, b, p', M', HP.out⟩
end Go.Proofs.Ytanlmfcllebopaa
