/- What is between brackets. -/
import Derived.Test.YtfafhjglcaikoaaGreatDoorG16
import Derived.Deep.DeepCutAuto
import Derived.Deep.Light
namespace Go.Proofs.YtfafhjglcaikoaaGreatDoor
open Go.RowKit Go.Shelf

theorem setNoV : setV [] setNo = #[.int .u64 0, .int .u64 0, .int .u64 0, .int .u64 0] := by
  unfold setV wVL
  rw [wordOf_no, wordOf_no, wordOf_no, wordOf_no]
  rfl
theorem LtAt.drop {W : World} {g o : Nat} {l : List Lt} (h : LtAt W g o l) (j : Nat) : LtAt W g (o + j * 2) (l.drop j) := fun k x hx => by
  have := h (j + k) x (by rw [List.getElem?_drop] at hx; exact hx)
  rw [show o + j * 2 + k * 2 = o + (j + k) * 2 by omega]
  exact this
theorem LtAt.grown {W W' : World} {g o b : Nat} {l : List Lt} (h : LtAt W g o l) (hg : W.grownBy W' (some b)) (hne : g ≠ b) : LtAt W' g o l := fun k x hx => by
  have h1 := h k x hx
  have hb := hg.block g (lt_of_cell h1.1) (fun e => hne (by cases e; rfl))
  exact ⟨(World.cell?_of_block hb).trans h1.1, (World.cell?_of_block hb).trans h1.2⟩

/-- The loop's rest, one round on. -/
theorem fillS_one (a : Lt) (r : List Lt) (f : Nat → Bool) (h : ∀ b d q, r = b :: d :: q → isL b 45 = false) : fillS (a :: r) f = fillS r (setAdd f a.1.toNat a.1.toNat) := by
  match r, h with
  | [], _ => rfl
  | [b], _ => rfl
  | b :: d :: q, h => simp [fillS, h b d q rfl]
theorem fillS_three (a b d : Lt) (q : List Lt) (f : Nat → Bool) (h : isL b 45 = true) : fillS (a :: b :: d :: q) f = fillS q (setAdd f a.1.toNat d.1.toNat) := by
  simp [fillS, h]

theorem copy4 {W : World} {b : Nat} {t : TypeId} {g f : Nat → Bool} (h : Cel W b t (setV [] g)) : Cel ((((W.setCell ⟨b, 0, none⟩ (.int .u64 (wordOf f 0))).setCell ⟨b, 1, none⟩ (.int .u64 (wordOf f 1))).setCell ⟨b, 2, none⟩ (.int .u64 (wordOf f 2))).setCell ⟨b, 3, none⟩ (.int .u64 (wordOf f 3))) b t (setV [] f) :=
  (((h.set (j := 0) _).set (j := 1) _).set (j := 2) _).set (j := 3) _
/-- A slice's length. -/
def lenOf : Value → Nat | .slice _ n _ => n | _ => 0
theorem size85 : (Tryz.prog.info? 311).map (·.size) = some 4 := by kernel_rfl

/-- The loop of among: from what is left to the set. -/
def AmongRel (w : World) (g : Nat) (F : Nat → Bool) (v0 : Value) (wr : World) : Prop :=
  ∃ (r : List Lt) (f : Nat → Bool) (ad : Option Addr) (o cap : Nat), v0 = .slice ad r.length cap ∧ r.length ≤ cap ∧ r.length < 4294967296 ∧ (r ≠ [] → ad = some ⟨g, o, none⟩) ∧ Hid (LtAt wr g o r) ∧ Hid (fillS r f = F) ∧
    Cel wr (w.heap.size + 1) 311 (setV [] f) ∧ Cel wr w.heap.size 311 (setV [] setNo) ∧ Below w.heap.size w wr

theorem among_next {w wr w2 : World} {g : Nat} {F f' : Nat → Bool} {r r' : List Lt} {o2 cap2 j : Nat} {ad : Option Addr} (hr' : r.drop j = r') (had : r' ≠ [] → ad = some ⟨g, o2 + j * 2, none⟩) (hrc : r.length ≤ cap2) (hrl : r.length < 4294967296) (hlt : LtAt wr g o2 r)
    (hF : fillS r' f' = F) (hg2 : wr.grownBy w2 (some (w.heap.size + 1))) (hgw : g ≠ w.heap.size + 1) (cS2 : Cel w2 (w.heap.size + 1) 311 (setV [] f')) (cR : Cel wr w.heap.size 311 (setV [] setNo)) (hb : Below w.heap.size w wr) (hj : 0 < j) (hjr : j ≤ r.length) :
    AmongRel w g F (.slice ad r'.length (cap2 - j)) w2 ∧ r'.length < r.length := by
  have hl : r'.length = r.length - j := by rw [← hr']; simp
  refine ⟨⟨r', f', ad, o2 + j * 2, cap2 - j, rfl, by omega, by omega, had, ?_, hF, cS2, cR.kept hg2 (by simp), hb.grown hg2 hb.size (fun k e => by cases e; omega)⟩, by omega⟩
  rw [← hr']
  exact (hlt.drop j).grown hg2 hgw

set_option maxRecDepth 100000 in
set_option maxHeartbeats 4000000 in
theorem among_any (g o cap : Nat) (l : List Lt) (hl : l ≠ []) (hlen : l.length < 4294967296) (hcap : l.length ≤ cap) (w : World) (h : LtAt w g o l) :
    Calls Tryz.prog 256 #[.slice (some ⟨g, o, none⟩) l.length cap] w fun e w' => e = .returned (.agg (setV [] (amongS l))) ∧ Below w.heap.size w w' := by
  obtain ⟨x0, l1, rfl⟩ : ∃ x0 l1, l = x0 :: l1 := by cases l with | nil => exact absurd rfl hl | cons a b => exact ⟨a, b, rfl⟩
  obtain ⟨h1, h2⟩ := h 0 x0 rfl
  simp only [Nat.zero_mul, Nat.add_zero] at h1 h2
  have hgl : g < w.heap.size := lt_of_cell h1
  have H : Hid (LtAt w g o (x0 :: l1)) := h
  clear h
  have hlv : (x0 :: l1).length = l1.length + 1 := rfl
  rw [hlv] at hlen hcap ⊢
  clear hlv hl
  obtain ⟨T, hT⟩ : ∃ T, turnedL (x0 :: l1) = T := ⟨_, rfl⟩
  have hTv : T = (decide (0 < l1.length) && isL x0 94) := by rw [← hT]; simp [turnedL]
  have HA : Hid (amongS (x0 :: l1) = if T then setNot (fillS l1 setNo) else fillS (x0 :: l1) setNo) := by
    unfold Hid amongS
    rw [hT]; rfl
  clear hT
  rw [HA.out]
  have HTV : Hid _ := hTv
  clear hTv
  go_enter Tryz.func256, Tryz.ntmps256
  go_upto_region 2 with fail
  go_cut [4] (fun v4 wx => v4 = .bool T ∧ Below w.heap.size w wx ∧ Cel wx w.heap.size 311 #[.int .u64 0, .int .u64 0, .int .u64 0, .int .u64 0] ∧ Cel wx (w.heap.size + 1) 311 #[.int .u64 0, .int .u64 0, .int .u64 0, .int .u64 0])
  case first => as_aux_lemma =>
    have k0 := (Cel.new w 311 #[.int .u64 0, .int .u64 0, .int .u64 0, .int .u64 0]).alloc (.cells #[.int .u64 0, .int .u64 0, .int .u64 0, .int .u64 0] 311)
    have k1 := Cel.new (w.alloc (.cells #[.int .u64 0, .int .u64 0, .int .u64 0, .int .u64 0] 311)) 311 #[.int .u64 0, .int .u64 0, .int .u64 0, .int .u64 0]
    rw [World.size_alloc] at k1
    have hB0 : Below w.heap.size w ((w.alloc (.cells #[.int .u64 0, .int .u64 0, .int .u64 0, .int .u64 0] 311)).alloc (.cells #[.int .u64 0, .int .u64 0, .int .u64 0, .int .u64 0] 311)) := ((Below.refl _ w).alloc (Nat.le_refl _) _).alloc (by simp) _
    cases hq : isL x0 94 <;> by_cases hl1 : 0 < l1.length
    · go_wp2_with (go_at_call 252; refine (is_below x0 94 94 rfl _).mono ?_; rintro e w1 ⟨rfl, hb1⟩; rw [hq])
      go_meet
      case rel => exact ⟨by rw [HTV.out, hq]; simp, hB0.trans (hb1.mono (by simp; omega)), k0.below hb1 k0.lt, k1.below hb1 k1.lt⟩
    · have hl0 : l1.length = 0 := by omega
      go_wp2
      go_meet
      case rel => exact ⟨by rw [HTV.out, hl0]; simp, hB0, k0, k1⟩
    · go_wp2_with (go_at_call 252; refine (is_below x0 94 94 rfl _).mono ?_; rintro e w1 ⟨rfl, hb1⟩; rw [hq])
      go_meet
      case rel => exact ⟨by rw [HTV.out, hq]; simp [hl1], hB0.trans (hb1.mono (by simp; omega)), k0.below hb1 k0.lt, k1.below hb1 k1.lt⟩
    · have hl0 : l1.length = 0 := by omega
      go_wp2
      go_meet
      case rel => exact ⟨by rw [HTV.out, hl0]; simp, hB0, k0, k1⟩
  case rest =>
    obtain ⟨rfl, hB1, k0, k1⟩ := hcut
    go_upto_if 14 with fail
    go_cut [0] from 15 to 16 (fun v0 wx => AmongRel w g (if T then fillS l1 setNo else fillS (x0 :: l1) setNo) v0 wx)
    case first => as_aux_lemma =>
      cases T
      · go_wp2
        go_meet
        case rel => exact ⟨x0 :: l1, setNo, _, o, cap, rfl, hcap, hlen, fun _ => rfl, LtAt.below H.out hB1 hgl, rfl, by rw [setNoV]; exact k1, by rw [setNoV]; exact k0, hB1⟩
      · have hl1 : 0 < l1.length := by
          have h6 : (decide (0 < l1.length) && isL x0 94) = true := HTV.out.symm
          simp at h6; exact h6.1
        go_wp2
        go_meet
        case rel => exact ⟨l1, setNo, some ⟨g, o + 2, none⟩, o + 2, cap - 1, by first | rfl | (simp; omega) | (rw [if_neg (by omega)]) | simp, by omega, by omega, fun _ => rfl, (LtAt.below H.out hB1 hgl).drop 1, rfl, by rw [setNoV]; exact k1, by rw [setNoV]; exact k0, hB1⟩
    case rest =>
      go_wp2
      go_loopw [0] (AmongRel w g (if T then fillS l1 setNo else fillS (x0 :: l1) setNo)) (fun v0 _ => lenOf v0)
      case atStart => exact hcut
      case round =>
        obtain ⟨r, f, ad, o2, cap2, rfl, hrc, hrl, had, hlt, hfF, cS, cR, hb⟩ := hrel
        have hbz := hb.size
        cases r with
        | nil =>
          cases T
          · rw [if_neg (by simp)] at hfF
            have s0 : wr.cell? ⟨w.heap.size + 1, 0, none⟩ = some (.int .u64 (wordOf f 0)) := cS.cell 0
            have r0 : wr.cell? ⟨w.heap.size, 0, none⟩ = some (.int .u64 (wordOf setNo 0)) := cR.cell 0
            have z0 := cR.frozen 0
            have s1 : wr.cell? ⟨w.heap.size + 1, 1, none⟩ = some (.int .u64 (wordOf f 1)) := cS.cell 1
            have r1 : wr.cell? ⟨w.heap.size, 1, none⟩ = some (.int .u64 (wordOf setNo 1)) := cR.cell 1
            have z1 := cR.frozen 1
            have s2 : wr.cell? ⟨w.heap.size + 1, 2, none⟩ = some (.int .u64 (wordOf f 2)) := cS.cell 2
            have r2 : wr.cell? ⟨w.heap.size, 2, none⟩ = some (.int .u64 (wordOf setNo 2)) := cR.cell 2
            have z2 := cR.frozen 2
            have s3 : wr.cell? ⟨w.heap.size + 1, 3, none⟩ = some (.int .u64 (wordOf f 3)) := cS.cell 3
            have r3 : wr.cell? ⟨w.heap.size, 3, none⟩ = some (.int .u64 (wordOf setNo 3)) := cR.cell 3
            have z3 := cR.frozen 3
            go_wp2
            refine bodyPost_ret (results_cell_row (p := 2) (ty := 311) rfl _ _ w.heap.size 311 (setV [] f) (0, 0) _ rfl (copy4 cR) Tryz.underlying311 rfl size85) rfl ?_
            exact ⟨by first | rfl | (rw [← hfF.out]; rfl) | (simp only [if_pos, if_neg, Bool.false_eq_true, ↓reduceIte]; rw [← hfF.out]; rfl), (((hb.setCell (p := ⟨w.heap.size, 0, none⟩) (Nat.le_refl _) _).setCell (p := ⟨w.heap.size, 1, none⟩) (Nat.le_refl _) _).setCell (p := ⟨w.heap.size, 2, none⟩) (Nat.le_refl _) _).setCell (p := ⟨w.heap.size, 3, none⟩) (Nat.le_refl _) _⟩
          · rw [if_pos rfl] at hfF
            go_wp2_with (go_at_call 253; refine (turn_any (w.heap.size + 1) 311 [] f _ cS).mono ?_; rintro e w2 ⟨rfl, cS2, hg2⟩; have cR2 := cR.kept hg2 (by simp); have hb2 := hb.grown hg2 hb.size (fun k e => by cases e; omega); have s0 : w2.cell? ⟨w.heap.size + 1, 0, none⟩ = some (.int .u64 (wordOf (setNot f) 0)) := cS2.cell 0; have r0 : w2.cell? ⟨w.heap.size, 0, none⟩ = some (.int .u64 (wordOf setNo 0)) := cR2.cell 0; have z0 := cR2.frozen 0; have s1 : w2.cell? ⟨w.heap.size + 1, 1, none⟩ = some (.int .u64 (wordOf (setNot f) 1)) := cS2.cell 1; have r1 : w2.cell? ⟨w.heap.size, 1, none⟩ = some (.int .u64 (wordOf setNo 1)) := cR2.cell 1; have z1 := cR2.frozen 1; have s2 : w2.cell? ⟨w.heap.size + 1, 2, none⟩ = some (.int .u64 (wordOf (setNot f) 2)) := cS2.cell 2; have r2 : w2.cell? ⟨w.heap.size, 2, none⟩ = some (.int .u64 (wordOf setNo 2)) := cR2.cell 2; have z2 := cR2.frozen 2; have s3 : w2.cell? ⟨w.heap.size + 1, 3, none⟩ = some (.int .u64 (wordOf (setNot f) 3)) := cS2.cell 3; have r3 : w2.cell? ⟨w.heap.size, 3, none⟩ = some (.int .u64 (wordOf setNo 3)) := cR2.cell 3; have z3 := cR2.frozen 3)
            refine bodyPost_ret (results_cell_row (p := 2) (ty := 311) rfl _ _ w.heap.size 311 (setV [] (setNot f)) (0, 0) _ rfl (copy4 cR2) Tryz.underlying311 rfl size85) rfl ?_
            exact ⟨by first | rfl | (rw [← hfF.out]; rfl) | (simp only [if_pos, if_neg, Bool.false_eq_true, ↓reduceIte]; rw [← hfF.out]; rfl), (((hb2.setCell (p := ⟨w.heap.size, 0, none⟩) (Nat.le_refl _) _).setCell (p := ⟨w.heap.size, 1, none⟩) (Nat.le_refl _) _).setCell (p := ⟨w.heap.size, 2, none⟩) (Nat.le_refl _) _).setCell (p := ⟨w.heap.size, 3, none⟩) (Nat.le_refl _) _⟩
        | cons a r1 =>
          obtain rfl := had (by simp)
          clear had
          obtain ⟨q1, q2⟩ := hlt.out 0 a rfl
          simp only [Nat.zero_mul, Nat.add_zero] at q1 q2
          have hgr : g < wr.heap.size := lt_of_cell q1
          have hgw : g ≠ w.heap.size + 1 := by omega
          have cSd : Cel wr.drew (w.heap.size + 1) 311 (setV [] f) := cS
          have cRd : Cel wr.drew w.heap.size 311 (setV [] setNo) := cR
          have hbd : Below w.heap.size w wr.drew := hb.drew
          have hltd : Hid (LtAt wr.drew g o2 (a :: r1)) := hlt.out
          match r1, hrc, hrl, hltd, hfF, hlt with
          | [], hrc, hrl, hltd, hfF, hlt =>
            go_wp2
            go_region_with (go_at_call 257; refine (add_any (w.heap.size + 1) 311 [] f a.1 a.1 _ cSd).mono ?_; rintro e w2 ⟨rfl, cS2, hg2⟩)
            all_goals go_wp2
            all_goals
              exact among_next (r := [a]) (r' := []) (j := 1) (o2 := o2) (cap2 := cap2) rfl (fun hne => by first | exact absurd rfl hne | rfl | (rw [if_neg (by first | omega | (simp at hrc; omega) | exact fun e => hne (List.eq_nil_of_length_eq_zero (by omega)))])) hrc hrl hltd.out (by rw [← hfF.out]; exact (fillS_one a [] f (by simp)).symm) hg2 hgw cS2 cRd hbd (by decide) (by simp)
          | [b], hrc, hrl, hltd, hfF, hlt =>
            go_wp2
            go_region_with (go_at_call 257; refine (add_any (w.heap.size + 1) 311 [] f a.1 a.1 _ cSd).mono ?_; rintro e w2 ⟨rfl, cS2, hg2⟩)
            all_goals go_wp2
            all_goals
              exact among_next (r := [a, b]) (r' := [b]) (j := 1) (o2 := o2) (cap2 := cap2) rfl (fun hne => by first | exact absurd rfl hne | rfl | (rw [if_neg (by first | omega | (simp at hrc; omega) | exact fun e => hne (List.eq_nil_of_length_eq_zero (by omega)))])) hrc hrl hltd.out (by rw [← hfF.out]; exact (fillS_one a [b] f (by simp)).symm) hg2 hgw cS2 cRd hbd (by decide) (by simp)
          | b :: d :: q, hrc, hrl, hltd, hfF, hlt =>
            have hrl2 : (a :: b :: d :: q).length = q.length + 1 + 1 + 1 := rfl
            rw [hrl2] at hrc hrl ⊢
            obtain ⟨q3, q4⟩ := hlt.out 1 b rfl
            obtain ⟨q5, q6⟩ := hlt.out 2 d rfl
            simp only [Nat.one_mul, Nat.reduceMul] at q3 q4 q5 q6
            cases hm : isL b 45
            · go_wp2_with (go_at_call 252; refine (is_below b 45 45 rfl _).mono ?_; rintro e w3 ⟨rfl, hb3⟩; rw [hm]; have p1 := (hb3.cell (p := ⟨g, o2, none⟩) hgr).trans q1)
              have cSd : Cel w3.drew (w.heap.size + 1) 311 (setV [] f) := cS.below hb3.drew cS.lt
              have cRd : Cel w3.drew w.heap.size 311 (setV [] setNo) := cR.below hb3.drew cR.lt
              have hbd : Below w.heap.size w w3.drew := (hb.trans (hb3.mono hbz)).drew
              have hltd : Hid (LtAt w3.drew g o2 (a :: b :: d :: q)) := LtAt.below hlt.out hb3.drew hgr
              go_region_with (go_at_call 257; refine (add_any (w.heap.size + 1) 311 [] f a.1 a.1 _ cSd).mono ?_; rintro e w2 ⟨rfl, cS2, hg2⟩)
              all_goals go_wp2
              all_goals
                exact among_next (r := a :: b :: d :: q) (r' := b :: d :: q) (j := 1) (o2 := o2) (cap2 := cap2) rfl (fun hne => by first | exact absurd rfl hne | rfl | (rw [if_neg (by first | omega | (simp at hrc; omega) | exact fun e => hne (List.eq_nil_of_length_eq_zero (by omega)))])) hrc hrl hltd.out (by rw [← hfF.out]; exact (fillS_one a (b :: d :: q) f (fun b2 d2 q2 e => by cases e; exact hm)).symm) hg2 hgw cS2 cRd hbd (by decide) (by simp)
            · go_wp2_with (go_at_call 252; refine (is_below b 45 45 rfl _).mono ?_; rintro e w3 ⟨rfl, hb3⟩; rw [hm]; have p1 := (hb3.cell (p := ⟨g, o2, none⟩) hgr).trans q1; have p5 := (hb3.cell (p := ⟨g, o2 + 4, none⟩) hgr).trans q5)
              have cSd : Cel w3.drew (w.heap.size + 1) 311 (setV [] f) := cS.below hb3.drew cS.lt
              have cRd : Cel w3.drew w.heap.size 311 (setV [] setNo) := cR.below hb3.drew cR.lt
              have hbd : Below w.heap.size w w3.drew := (hb.trans (hb3.mono hbz)).drew
              have hltd : Hid (LtAt w3.drew g o2 (a :: b :: d :: q)) := LtAt.below hlt.out hb3.drew hgr
              go_region_with (go_at_call 257; refine (add_any (w.heap.size + 1) 311 [] f a.1 d.1 _ cSd).mono ?_; rintro e w2 ⟨rfl, cS2, hg2⟩)
              all_goals go_wp2
              all_goals
                exact among_next (r := a :: b :: d :: q) (r' := q) (j := 3) (o2 := o2) (cap2 := cap2) rfl (fun hne => by first | exact absurd rfl hne | rfl | (rw [if_neg (by first | omega | (simp at hrc; omega) | exact fun e => hne (List.eq_nil_of_length_eq_zero (by omega)))])) hrc hrl hltd.out (by rw [← hfF.out]; exact (fillS_three a b d q f hm).symm) hg2 hgw cS2 cRd hbd (by decide) (by simp)
end Go.Proofs.YtfafhjglcaikoaaGreatDoor
