/- Which worlds may be. -/
import Derived.Test.YtfafhjglcaikoaaGreatDoorG3
/-! What is wrong with a file, with a row. -/
namespace Go.Proofs.YtfafhjglcaikoaaGreatDoor
open Go.RowKit Go.Shelf

/-- An error by its place. -/
def errO (ea : Nat → Addr) : Option Nat → Value
  | none => .nilIface
  | some i => errV (ea i)
def Ers (W : World) (ea : Nat → Addr) : Prop := ∀ i, i < 11 ∧ i ≠ 3 → Er W i (ea i)
theorem Ers.below {w w' : World} {ea : Nat → Addr} {B : Nat} (h : Ers w ea) (hb : Below B w w') (hB : w.heap.size ≤ B) : Ers w' ea := fun i hi => (h i hi).below hb (Nat.lt_of_lt_of_le (h i hi).2 hB)

set_option maxHeartbeats 1000000 in
theorem taken_at (f : Txt × Txt) (w : World) (fb : Nat) (hf : w.cell? ⟨fb, 0, none⟩ = some (str f.1)) (hlt : fb < w.heap.size) :
    PredBelow Tryz.prog 195 #[.pointer (some ⟨fb, 0, none⟩)] (fun x : Txt × Txt => .agg [str x.1, str x.2].toArray) (fun x => x.1 == f.1) w := by
  intro W x hb
  obtain ⟨a, b⟩ := x
  show Calls Tryz.prog 195 #[.agg #[str a, str b], .pointer (some ⟨fb, 0, none⟩)] W _
  have hba := hb.alloc hb.size (.cells #[str a, str b] 68)
  have c0 := (hba.cell (p := ⟨fb, 0, none⟩) hlt).trans hf
  have HBA : Hid _ := hba
  clear hba hb hf
  go_enter Tryz.func195, Tryz.ntmps195
  go_wp2_with fail
  go_ret
  exact ⟨rfl, HBA.out⟩
theorem taken_any (f : Txt × Txt) (fb : Nat) (v : Value) (A : Fls) (w : World) (h : FlAt w v A) (hl : A.length < 4294967296) (hf : w.cell? ⟨fb, 0, none⟩ = some (str f.1)) (hlt : fb < w.heap.size) :
    Calls Tryz.prog 197 #[v, .func (.func 195) #[] #[.pointer (some ⟨fb, 0, none⟩)]] w fun e w' => e = .returned (.bool (A.any fun x => x.1 == f.1)) ∧ Below w.heap.size w w' := by
  rcases h with ⟨h0, ad, cap, rfl⟩ | ⟨g, o, cap, hv, h2, h3, h4⟩
  · have hA : A = [] := by simpa using h0
    subst hA
    exact (empty68 ad cap _ w).mono fun e w' ⟨he, hw⟩ => ⟨he, by rw [hw]; exact Below.refl _ _⟩
  · obtain rfl : v = .slice (some ⟨g, o, none⟩) A.length cap := by rw [hv]; simp
    refine (AnyQ.slices_ContainsFunc Tryz.cf197 2 Tryz.isAgg68 Tryz.sizeOf68 (fun x : Txt × Txt => [str x.1, str x.2]) (fun _ => rfl) (fun x => x.1 == f.1) 195 _ (enters_of Tryz.func195 (by kernel_rfl) rfl) g o A.length cap A w (taken_at f w fb hf hlt) (Nat.le_refl _) (by omega) h3 ?_).mono ?_
    · intro j hj i u hu
      refine h4 j _ ?_ i u hu
      rw [getElem!_pos A j hj, List.getElem?_map, List.getElem?_eq_getElem hj]
      rfl
    · rintro e w' ⟨rfl, hb⟩
      refine ⟨ret_bool ?_, hb⟩
      rw [List.take_length]

def fileR (f : Txt × Txt) (A : Fls) : Option Nat := if noNm f.1 || A.any (fun x => x.1 == f.1) then some 9 else if 16384 < f.2.length then some 10 else none
set_option maxHeartbeats 2000000 in
theorem mayFile_any (f : Txt × Txt) (v : Value) (A : Fls) (ea : Nat → Addr) (W : World) (h : FlAt W v A) (hl : A.length < 4294967296) (hE : Ers W ea) :
    Calls Tryz.prog 142 #[.agg #[str f.1, str f.2], v] W fun e w' => e = .returned (errO ea (fileR f A)) ∧ Below W.heap.size W w' := by
  obtain ⟨nm, dt⟩ := f
  have HF : Hid (∀ W', Below W.heap.size W W' → FlAt W' v A) := fun W' hb => h.below hb (Nat.le_refl _)
  have HE : Hid (∀ W', Below W.heap.size W W' → Ers W' ea) := fun W' hb => hE.below hb (Nat.le_refl _)
  obtain ⟨ad, cap, rfl⟩ := h.form
  clear h hE
  have hb1 := below_new W (.cells #[str nm, str dt] 68)
  cases hn : noNm nm with
  | true =>
    have e1 : fileR (nm, dt) A = some 9 := by simp [fileR, hn]
    rw [e1]
    have c2 := (HE.out _ hb1 9 (by decide)).1
    have HNN : Hid _ := noName_any nm (W.alloc (.cells #[str nm, str dt] 68))
    rw [hn] at HNN
    clear e1 hn
    go_enter Tryz.func142, Tryz.ntmps142
    go_wp2_with fail
    refine Calls.mono HNN.out ?_
    rintro e w1 ⟨rfl, hw⟩
    subst hw
    go_wp2_with fail
    go_ret
    exact ⟨rfl, hb1⟩
  | false =>
    have HNN : Hid _ := noName_any nm (W.alloc (.cells #[str nm, str dt] 68))
    rw [hn] at HNN
    have HB : Hid (Cel (W.alloc (.cells #[str nm, str dt] 68)) W.heap.size 68 #[str nm, str dt]) := Cel.new W 68 _
    obtain ⟨tk, HTK⟩ : ∃ tk, Hid ((A.any fun x => x.1 == nm) = tk) := ⟨_, rfl⟩
    have HRR : Hid (fileR (nm, dt) A = if tk then some 9 else if 16384 < dt.length then some 10 else none) := by
      unfold Hid fileR
      have := HTK.out
      simp only [hn, Bool.false_or, this]
    clear hn
    go_enter Tryz.func142, Tryz.ntmps142
    go_wp2_with fail
    refine Calls.mono HNN.out ?_
    rintro e w1 ⟨rfl, hw⟩
    subst hw
    go_wp2_with fail
    refine (taken_any (nm, dt) W.heap.size _ A _ (HF.out _ hb1) hl (HB.out.cell 0) HB.out.lt).mono ?_
    rintro e w2 ⟨rfl, hb2'⟩
    have hb2 := hb1.trans (hb2'.mono hb1.size)
    have d1 := (HB.out.turn (Turn.ofBelow (S := fun _ => False) hb2') (fun h => h)).cell 1
    have c2 := (HE.out _ hb2 9 (by decide)).1
    have c3 := (HE.out _ hb2 10 (by decide)).1
    rw [show (A.any fun x => x.1 == (nm, dt).1) = tk from HTK.out]
    clear hb2' hb1
    cases tk with
    | true =>
      go_wp2_with fail
      go_ret
      exact ⟨by rw [HRR.out]; rfl, hb2⟩
    | false =>
      by_cases hbig : 16384 < dt.length
      · go_wp2_with fail
        go_ret
        exact ⟨by rw [HRR.out, if_neg Bool.false_ne_true, if_pos hbig]; rfl, hb2⟩
      · go_wp2_with fail
        go_ret
        exact ⟨by rw [HRR.out, if_neg Bool.false_ne_true, if_neg hbig]; rfl, hb2⟩

def rowR (r : Rw) : Option Nat := if noNm r.name then some 9 else if longT r.out || r.args.any longT then some 10 else if r.status < 0 ∨ 255 < r.status then some 8 else none
set_option maxHeartbeats 2000000 in
theorem mayRow_any (r : Rw) (v : Value) (ea : Nat → Addr) (W : World) (h : Tx W v r.args) (hl : r.args.length < 4294967296) (hE : Ers W ea) :
    Calls Tryz.prog 143 #[rwV r v] W fun e w' => e = .returned (errO ea (rowR r)) ∧ Below W.heap.size W w' := by
  obtain ⟨nm, ars, an, re, co, ou, st⟩ := r
  have HT : Hid (∀ W', Below W.heap.size W W' → Tx W' v ars) := fun W' hb => h.below hb (Nat.le_refl _)
  have HE : Hid (∀ W', Below W.heap.size W W' → Ers W' ea) := fun W' hb => hE.below hb (Nat.le_refl _)
  obtain ⟨ad, cap, hv⟩ := h.form
  obtain rfl : v = .slice ad ars.length cap := hv
  clear h hE
  have hb1 := below_new W (.cells #[str nm, .slice ad ars.length cap, .bool an, .bool re, .bool co, str ou, .int .i64 st] 80)
  have HB : Hid (Cel (W.alloc (.cells #[str nm, .slice ad ars.length cap, .bool an, .bool re, .bool co, str ou, .int .i64 st] 80)) W.heap.size 80 #[str nm, .slice ad ars.length cap, .bool an, .bool re, .bool co, str ou, .int .i64 st]) := Cel.new W 80 _
  have HNN : Hid _ := noName_any nm (W.alloc (.cells #[str nm, .slice ad ars.length cap, .bool an, .bool re, .bool co, str ou, .int .i64 st] 80))
  have HTL : Hid _ := tooLong_any ou (W.alloc (.cells #[str nm, .slice ad ars.length cap, .bool an, .bool re, .bool co, str ou, .int .i64 st] 80))
  have c2 := (HE.out _ hb1 9 (by decide)).1
  have c3 := (HE.out _ hb1 10 (by decide)).1
  have c4 := (HE.out _ hb1 8 (by decide)).1
  cases hn : noNm nm with
  | true =>
    have e1 : Hid (rowR ⟨nm, ars, an, re, co, ou, st⟩ = some 9) := by unfold Hid; simp [rowR, hn]
    rw [hn] at HNN
    clear hn
    go_enter Tryz.func143, Tryz.ntmps143
    go_wp2_with fail
    refine Calls.mono HNN.out ?_
    rintro e w1 ⟨rfl, hw⟩
    subst hw
    go_wp2_with fail
    go_ret
    exact ⟨by rw [e1.out]; rfl, hb1⟩
  | false =>
    rw [hn] at HNN
    cases ho : longT ou with
    | true =>
      have e1 : Hid (rowR ⟨nm, ars, an, re, co, ou, st⟩ = some 10) := by unfold Hid; simp [rowR, hn, ho]
      rw [ho] at HTL
      clear hn ho
      go_enter Tryz.func143, Tryz.ntmps143
      go_wp2_with fail
      refine Calls.mono HNN.out ?_
      rintro e w1 ⟨rfl, hw⟩
      subst hw
      go_wp2_with fail
      refine Calls.mono HTL.out ?_
      rintro e w1 ⟨rfl, hw⟩
      subst hw
      go_wp2_with fail
      go_ret
      exact ⟨by rw [e1.out]; rfl, hb1⟩
    | false =>
      rw [ho] at HTL
      obtain ⟨la, HLA⟩ : ∃ la, Hid (ars.any longT = la) := ⟨_, rfl⟩
      have e1 : Hid (rowR ⟨nm, ars, an, re, co, ou, st⟩ = if la then some 10 else if st < 0 ∨ 255 < st then some 8 else none) := by
        unfold Hid rowR
        have := HLA.out
        simp only [hn, ho, this, Bool.false_or, Bool.false_eq_true, if_false]
      clear hn ho
      go_enter Tryz.func143, Tryz.ntmps143
      go_wp2_with fail
      refine Calls.mono HNN.out ?_
      rintro e w1 ⟨rfl, hw⟩
      subst hw
      go_wp2_with fail
      refine Calls.mono HTL.out ?_
      rintro e w1 ⟨rfl, hw⟩
      subst hw
      go_wp2_with fail
      refine (longs_any _ ars _ (HT.out _ hb1) hl).mono ?_
      rintro e w2 ⟨rfl, hb2'⟩
      have hb2 := hb1.trans (hb2'.mono hb1.size)
      have d6 := (HB.out.turn (Turn.ofBelow (S := fun _ => False) hb2') (fun h => h)).cell 6
      have k3 := (HE.out _ hb2 10 (by decide)).1
      have k4 := (HE.out _ hb2 8 (by decide)).1
      rw [HLA.out]
      clear hb2' hb1 c2 c3 c4
      cases la with
      | true =>
        go_wp2_with fail
        go_ret
        exact ⟨by rw [e1.out]; rfl, hb2⟩
      | false =>
        by_cases h0 : st < 0
        · go_wp2_with fail
          go_ret
          exact ⟨by rw [e1.out, if_neg Bool.false_ne_true, if_pos (.inl h0)]; rfl, hb2⟩
        · have h0' : decide (st < 0) = false := decide_eq_false h0
          by_cases h1 : 255 < st
          · go_wp2_with fail
            go_ret
            exact ⟨by rw [e1.out, if_neg Bool.false_ne_true, if_pos (.inr h1)]; rfl, hb2⟩
          · go_wp2_with fail
            go_ret
            exact ⟨by rw [e1.out, if_neg Bool.false_ne_true, if_neg (by omega)]; rfl, hb2⟩
end Go.Proofs.YtfafhjglcaikoaaGreatDoor
namespace Go.Proofs.YtfafhjglcaikoaaGreatDoor
open Go.RowKit Go.Shelf

/-- The first that there is, from i on, so many. -/
def firstOf (f : Nat → Option Nat) : Nat → Nat → Option Nat
  | _, 0 => none
  | i, n + 1 => match f i with
    | some e => some e
    | none => firstOf f (i + 1) n
theorem firstOf_skip (f : Nat → Option Nat) : ∀ (n i k : Nat), (∀ j, i ≤ j → j < k → f j = none) → i ≤ k → k ≤ i + n → firstOf f i n = firstOf f k (i + n - k)
  | 0, i, k, _, h1, h2 => by
    obtain rfl : k = i := by omega
    rw [show k + 0 - k = 0 by omega]
  | n + 1, i, k, h, h1, h2 => by
    by_cases hk : k = i
    · subst hk
      rw [show k + (n + 1) - k = n + 1 by omega]
    · have e : firstOf f i (n + 1) = firstOf f (i + 1) n := by
        unfold firstOf
        rw [h i (Nat.le_refl _) (by omega)]
        cases n <;> rfl
      rw [e, firstOf_skip f n (i + 1) k (fun j hj hjk => h j (by omega) hjk) (by omega) (by omega)]
      congr 1
      omega
theorem firstOf_hit (f : Nat → Option Nat) (n k e : Nat) (h : ∀ j, j < k → f j = none) (hk : k < n) (he : f k = some e) : firstOf f 0 n = some e := by
  rw [firstOf_skip f n 0 k (fun j _ hj => h j hj) (by omega) (by omega)]
  obtain ⟨m, hm⟩ : ∃ m, 0 + n - k = m + 1 := ⟨n - k - 1, by omega⟩
  rw [hm]
  unfold firstOf
  rw [he]
theorem firstOf_none (f : Nat → Option Nat) (n : Nat) (h : ∀ j, j < n → f j = none) : firstOf f 0 n = none := by
  rw [firstOf_skip f n 0 n (fun j _ hj => h j hj) (by omega) (by omega)]
  rw [show 0 + n - n = 0 by omega]
  rfl
def fileAt (Fl : Fls) (i : Nat) : Option Nat := match Fl[i]? with | some f => fileR f (Fl.take i) | none => none
def rowAt (R : List Rw) (i : Nat) : Option Nat := match R[i]? with | some r => rowR r | none => none
def manyW (Fl : Fls) (R : List Rw) : Bool := decide (50 < Fl.length) || decide (50 < R.length) || R.any manyB
/-- What is wrong with a world. -/
def mayR (Fl : Fls) (R : List Rw) : Option Nat := if manyW Fl R then some 4 else match firstOf (fileAt Fl) 0 Fl.length with
  | some e => some e
  | none => firstOf (rowAt R) 0 R.length
theorem FlAt.cut {W : World} {g o cap : Nat} {F : Fls} (h : FlAt W (.slice (some ⟨g, o, none⟩) F.length cap) F) (hF : F ≠ []) (k : Nat) : FlAt W (.slice (some ⟨g, o, none⟩) (F.take k).length cap) (F.take k) := by
  rcases h with ⟨h0, _⟩ | ⟨g', o', cap', hv, h2, h3, h4⟩
  · exact absurd (by simpa using h0) hF
  · simp only [Value.slice.injEq, Option.some.injEq, Addr.mk.injEq] at hv
    obtain ⟨⟨rfl, rfl, _⟩, _, rfl⟩ := hv
    refine .inr ⟨g, o, cap, by simp, ?_, h3, fun j cs hj => h4 j cs ?_⟩
    · simp only [List.length_map, List.length_take] at h2 ⊢
      omega
    · rw [List.getElem?_map] at hj ⊢
      rw [List.getElem?_take] at hj
      by_cases hjk : j < k
      · rw [if_pos hjk] at hj; exact hj
      · rw [if_neg hjk] at hj; simp at hj

/-- A world's value. -/
abbrev wV (fv rv : Value) : Value := .agg #[fv, rv]
set_option maxRecDepth 100000 in
set_option maxHeartbeats 4000000 in
theorem may_any (fv rv : Value) (Fl : Fls) (Y : List (Rw × Value)) (ea : Nat → Addr) (W : World) (hf : FlAt W fv Fl) (hr : RwAt W rv Y) (hFl : Fl.length < 4294967296) (hY : Y.length < 4294967296) (hl : ∀ p ∈ Y, p.1.args.length < 4294967296) (hE : Ers W ea) :
    Calls Tryz.prog 98 #[wV fv rv] W fun e w' => e = .returned (errO ea (mayR Fl (Y.map Prod.fst))) ∧ Below W.heap.size W w' := by
  have HF : Hid (∀ W', Below W.heap.size W W' → FlAt W' fv Fl) := fun W' hb => hf.below hb (Nat.le_refl _)
  have HR : Hid (∀ W', Below W.heap.size W W' → RwAt W' rv Y) := fun W' hb => hr.below hb (Nat.le_refl _)
  have HE : Hid (∀ W', Below W.heap.size W W' → Ers W' ea) := fun W' hb => hE.below hb (Nat.le_refl _)
  have HL : Hid (∀ p ∈ Y, p.1.args.length < 4294967296) := hl
  obtain ⟨adf, capf, rfl⟩ := hf.form
  obtain ⟨adr, capr, rfl⟩ := hr.form
  clear hf hr hE hl
  have hb1 := below_new W (.cells #[.slice adf Fl.length capf, .slice adr Y.length capr] 27)
  have c1 := (HE.out _ hb1 4 (by decide)).1
  by_cases h50 : 50 < Fl.length
  · have e1 : Hid (mayR Fl (Y.map Prod.fst) = some 4) := by unfold Hid; simp [mayR, manyW, h50]
    go_enter Tryz.func98, Tryz.ntmps98
    go_wp2_with fail
    go_ret
    exact ⟨by rw [e1.out]; rfl, hb1⟩
  · have h50' : decide ((50 : Int) < (Fl.length : Int)) = false := decide_eq_false (by omega)
    have h50n : decide (50 < Fl.length) = false := decide_eq_false h50
    by_cases r50 : 50 < Y.length
    · have e1 : Hid (mayR Fl (Y.map Prod.fst) = some 4) := by unfold Hid; simp [mayR, manyW, r50]
      go_enter Tryz.func98, Tryz.ntmps98
      go_wp2_with fail
      go_ret
      exact ⟨by rw [e1.out]; rfl, hb1⟩
    · have r50' : decide ((50 : Int) < (Y.length : Int)) = false := decide_eq_false (by omega)
      have r50n : decide (50 < Y.length) = false := decide_eq_false r50
      obtain ⟨mn, HMN⟩ : ∃ mn, Hid ((Y.map Prod.fst).any manyB = mn) := ⟨_, rfl⟩
      have HW : Hid (manyW Fl (Y.map Prod.fst) = mn) := by
        unfold Hid manyW
        rw [List.length_map, h50n, r50n, HMN.out]
        rfl
      have HCB : Hid (Cel (W.alloc (.cells #[.slice adf Fl.length capf, .slice adr Y.length capr] 27)) W.heap.size 27 #[.slice adf Fl.length capf, .slice adr Y.length capr]) := Cel.new W 27 _
      go_enter Tryz.func98, Tryz.ntmps98
      go_wp2_with fail
      refine (many_any _ Y _ (HR.out _ hb1) hY).mono ?_
      rintro e w1 ⟨rfl, hb2'⟩
      have hb2 := hb1.trans (hb2'.mono hb1.size)
      have HC1 : Hid (Cel w1 W.heap.size 27 #[.slice adf Fl.length capf, .slice adr Y.length capr]) := HCB.out.turn (Turn.ofBelow (S := fun _ => False) hb2') (fun h => h)
      have k1 := (HE.out _ hb2 4 (by decide)).1
      have d0 := HC1.out.cell 0
      have d1 := HC1.out.cell 1
      rw [HMN.out]
      clear hb2' hb1 c1 HCB
      cases mn with
      | true =>
        go_wp2_with fail
        go_ret
        exact ⟨by unfold mayR; rw [HW.out, if_pos rfl]; rfl, hb2⟩
      | false =>
        go_wp2_with fail
        clear d0 d1 k1
        go_loopw [28] (fun v28 wr => ∃ k : Nat, v28 = .int .i64 k ∧ k ≤ Fl.length ∧ Hid (∀ j, j < k → fileAt Fl j = none) ∧ Below W.heap.size W wr ∧ Hid (Cel wr W.heap.size 27 #[.slice adf Fl.length capf, .slice adr Y.length capr])) (fun v28 _ => Fl.length - (intOf v28).toNat)
        case atStart => exact ⟨0, rfl, by omega, fun j hj => absurd hj (by omega), hb2, HC1.out⟩
        case round =>
          obtain ⟨k, rfl, hk, HN, hbr, HC⟩ := hrel
          by_cases hkl : k < Fl.length
          · obtain ⟨p, hp⟩ : ∃ p, Fl[k]? = some p := ⟨_, List.getElem?_eq_getElem hkl⟩
            have hne : Fl ≠ [] := fun e => by rw [e] at hkl; simp at hkl
            obtain ⟨g, o, cap', hv, hcap, hg, x0, x1⟩ := (HF.out _ hbr).at hp
            cases hv
            have HP : Hid (fileAt Fl k = fileR p (Fl.take k)) := by unfold Hid fileAt; rw [hp]
            obtain ⟨pn, pd⟩ := p
            have hTL : (Fl.take k).length = k := by rw [List.length_take]; omega
            have hkc : (k : Int) ≤ (capf : Int) := by omega
            have hba : Below W.heap.size W (World.drew (wr.alloc (.cells #[str pn, str pd] 68))) := (hbr.alloc hbr.size _).drew
            have HCa : Hid (Cel (World.drew (wr.alloc (.cells #[str pn, str pd] 68))) W.heap.size 27 #[.slice (some ⟨g, o, none⟩) Fl.length capf, .slice adr Y.length capr]) := HC.out.turn (Turn.ofBelow (S := fun _ => False) (below_new _ _).drew) (fun h => h)
            have HFc : Hid (FlAt (World.drew (wr.alloc (.cells #[str pn, str pd] 68))) (.slice (some ⟨g, o, none⟩) k capf) (Fl.take k)) := by
              have := (HF.out _ hba).cut hne k
              rw [hTL] at this
              exact this
            have b0 := HCa.out.cell 0
            obtain ⟨fe, HFE⟩ : ∃ fe, Hid (fileR (pn, pd) (Fl.take k) = fe) := ⟨_, rfl⟩
            have HLk : Hid ((Fl.take k).length < 4294967296) := by unfold Hid; omega
            clear hp hg hTL
            go_wp2_with fail
            refine wp_region_any (by kernel_rfl) ?_
            try (change wpAny _ _ _ _ _ _ _ (World.drew _))
            refine wpAny_take (i := 1) (v := .pointer (some ⟨W.heap.size, 0, none⟩)) rfl (by kernel_rfl) (by kernel_rfl) (by kernel_rfl) (fun _ _ _ h => h) (Or.inl ⟨by rfl, by intro wz; go_simp⟩) ?_
            try simp only [Act.put, List.getElem_toArray, List.getElem_cons_succ, List.getElem_cons_zero, List.setIfInBounds_toArray, List.set_cons_zero, List.set_cons_succ]
            refine wpAny_take (i := 3) (v := .int .i64 (k : Int)) rfl (by kernel_rfl) (by kernel_rfl) (by kernel_rfl) (fun _ _ _ h => h) (Or.inl ⟨by rfl, by intro wz; go_simp⟩) ?_
            try simp only [Act.put, List.getElem_toArray, List.getElem_cons_succ, List.getElem_cons_zero, List.setIfInBounds_toArray, List.set_cons_zero, List.set_cons_succ]
            refine wpAny_ready (rs := [0, 2]) (by kernel_rfl) (by simp) ?_
            refine AllReady.cons rfl (fun K hK => ?_) ?_
            · go_simp
              refine hK _ _ ?_
              clear hK K
              try simp only [Act.put, List.getElem_toArray, List.getElem_cons_succ, List.getElem_cons_zero, List.setIfInBounds_toArray, List.set_cons_zero, List.set_cons_succ]
              refine wpAny_ready (rs := [2]) (by kernel_rfl) (by simp) ?_
              refine AllReady.cons rfl (fun K hK => ?_) ?_
              · go_simp
                refine hK _ _ ?_
                clear hK K
                try simp only [Act.put, List.getElem_toArray, List.getElem_cons_succ, List.getElem_cons_zero, List.setIfInBounds_toArray, List.set_cons_zero, List.set_cons_succ]
                refine wpAny_take (i := 4) (v := .slice (some ⟨g, o, none⟩) k capf) rfl (by kernel_rfl) (by kernel_rfl) (by kernel_rfl) (fun _ _ _ h => h) (Or.inl ⟨by rfl, by intro wz; go_simp⟩) ?_
                try simp only [Act.put, List.getElem_toArray, List.getElem_cons_succ, List.getElem_cons_zero, List.setIfInBounds_toArray, List.set_cons_zero, List.set_cons_succ]
                refine wpAny_ready (rs := [5]) (by kernel_rfl) (by simp) ?_
                refine AllReady.cons rfl (fun K hK => ?_) ?_
                · go_simp
                  refine (mayFile_any (pn, pd) _ (Fl.take k) ea _ HFc.out HLk.out (HE.out _ hba)).mono ?_
                  rintro e w3 ⟨rfl, hb3'⟩
                  have hb3 := hba.trans (hb3'.mono hba.size)
                  rw [HFE.out]
                  have HC3 : Hid (Cel w3 W.heap.size 27 #[.slice (some ⟨g, o, none⟩) Fl.length capf, .slice adr Y.length capr]) := HCa.out.turn (Turn.ofBelow (S := fun _ => False) hb3') (fun h => h)
                  refine hK _ _ ?_
                  clear hK K
                  try simp only [Act.put, List.getElem_toArray, List.getElem_cons_succ, List.getElem_cons_zero, List.setIfInBounds_toArray, List.set_cons_zero, List.set_cons_succ]
                  refine wpAny_ready (rs := [6]) (by kernel_rfl) (by simp) ?_
                  refine AllReady.cons rfl (fun K hK => ?_) ?_
                  · go_simp
                    refine hK _ _ ?_
                    clear hK K
                    try simp only [Act.put, List.getElem_toArray, List.getElem_cons_succ, List.getElem_cons_zero, List.setIfInBounds_toArray, List.set_cons_zero, List.set_cons_succ]
                    refine wpAny_done (by kernel_rfl) ?_ _
                    cases fe
                    · simp only [errO]
                      go_wp2_with fail
                      refine ⟨⟨k + 1, by simp, by omega, ?_, hb3, HC3.out⟩, by simp [intOf]; omega⟩
                      intro j hj
                      by_cases hjk : j < k
                      · exact HN.out j hjk
                      · rw [show j = k by omega, HP.out, HFE.out]
                    · simp only [errO]
                      go_wp2_with fail
                      go_ret
                      refine ⟨?_, hb3⟩
                      have hfo := firstOf_hit (fileAt Fl) Fl.length k _ HN.out hkl (HP.out.trans HFE.out)
                      unfold mayR
                      rw [HW.out, if_neg Bool.false_ne_true, hfo]
                      rfl
                  exact AllReady.nil
                exact AllReady.nil
              exact AllReady.nil
            refine AllReady.cons rfl (fun K hK => ?_) ?_
            · go_simp
              refine hK _ _ ?_
              clear hK K
              try simp only [Act.put, List.getElem_toArray, List.getElem_cons_succ, List.getElem_cons_zero, List.setIfInBounds_toArray, List.set_cons_zero, List.set_cons_succ]
              refine wpAny_take (i := 4) (v := .slice (some ⟨g, o, none⟩) k capf) rfl (by kernel_rfl) (by kernel_rfl) (by kernel_rfl) (fun _ _ _ h => h) (Or.inl ⟨by rfl, by intro wz; go_simp⟩) ?_
              try simp only [Act.put, List.getElem_toArray, List.getElem_cons_succ, List.getElem_cons_zero, List.setIfInBounds_toArray, List.set_cons_zero, List.set_cons_succ]
              refine wpAny_ready (rs := [0]) (by kernel_rfl) (by simp) ?_
              refine AllReady.cons rfl (fun K hK => ?_) ?_
              · go_simp
                refine hK _ _ ?_
                clear hK K
                try simp only [Act.put, List.getElem_toArray, List.getElem_cons_succ, List.getElem_cons_zero, List.setIfInBounds_toArray, List.set_cons_zero, List.set_cons_succ]
                refine wpAny_ready (rs := [5]) (by kernel_rfl) (by simp) ?_
                refine AllReady.cons rfl (fun K hK => ?_) ?_
                · go_simp
                  refine (mayFile_any (pn, pd) _ (Fl.take k) ea _ HFc.out HLk.out (HE.out _ hba)).mono ?_
                  rintro e w3 ⟨rfl, hb3'⟩
                  have hb3 := hba.trans (hb3'.mono hba.size)
                  rw [HFE.out]
                  have HC3 : Hid (Cel w3 W.heap.size 27 #[.slice (some ⟨g, o, none⟩) Fl.length capf, .slice adr Y.length capr]) := HCa.out.turn (Turn.ofBelow (S := fun _ => False) hb3') (fun h => h)
                  refine hK _ _ ?_
                  clear hK K
                  try simp only [Act.put, List.getElem_toArray, List.getElem_cons_succ, List.getElem_cons_zero, List.setIfInBounds_toArray, List.set_cons_zero, List.set_cons_succ]
                  refine wpAny_ready (rs := [6]) (by kernel_rfl) (by simp) ?_
                  refine AllReady.cons rfl (fun K hK => ?_) ?_
                  · go_simp
                    refine hK _ _ ?_
                    clear hK K
                    try simp only [Act.put, List.getElem_toArray, List.getElem_cons_succ, List.getElem_cons_zero, List.setIfInBounds_toArray, List.set_cons_zero, List.set_cons_succ]
                    refine wpAny_done (by kernel_rfl) ?_ _
                    cases fe
                    · simp only [errO]
                      go_wp2_with fail
                      refine ⟨⟨k + 1, by simp, by omega, ?_, hb3, HC3.out⟩, by simp [intOf]; omega⟩
                      intro j hj
                      by_cases hjk : j < k
                      · exact HN.out j hjk
                      · rw [show j = k by omega, HP.out, HFE.out]
                    · simp only [errO]
                      go_wp2_with fail
                      go_ret
                      refine ⟨?_, hb3⟩
                      have hfo := firstOf_hit (fileAt Fl) Fl.length k _ HN.out hkl (HP.out.trans HFE.out)
                      unfold mayR
                      rw [HW.out, if_neg Bool.false_ne_true, hfo]
                      rfl
                  exact AllReady.nil
                exact AllReady.nil
              exact AllReady.nil
            exact AllReady.nil
          · have hkz : k = Fl.length := by omega
            subst hkz
            have d1 := HC.out.cell 1
            have HFN : Hid (firstOf (fileAt Fl) 0 Fl.length = none) := firstOf_none _ _ HN.out
            clear HN
            go_wp2_with fail
            clear d1
            go_loopw [46] (fun v46 wr => ∃ k : Nat, v46 = .int .i64 k ∧ k ≤ Y.length ∧ Hid (∀ j, j < k → rowAt (Y.map Prod.fst) j = none) ∧ Below W.heap.size W wr) (fun v46 _ => Y.length - (intOf v46).toNat)
            case atStart => exact ⟨0, rfl, by omega, fun j hj => absurd hj (by omega), hbr⟩
            case round =>
              obtain ⟨k, rfl, hk, HN, hbs⟩ := hrel
              by_cases hkl : k < Y.length
              · obtain ⟨q, hq⟩ : ∃ q, Y[k]? = some q := ⟨_, List.getElem?_eq_getElem hkl⟩
                obtain ⟨g, o, cap', hv, hg, c0, c1, c2, c3, c4, c5, c6⟩ := (HR.out _ hbs).at hq
                cases hv
                have hqm := List.mem_of_getElem? hq
                have HT : Hid (∀ W', Below W.heap.size W W' → Tx W' q.2 q.1.args) := fun W' hb => (HR.out W' hb).2 q hqm
                have hql := HL.out q hqm
                have HP : Hid (rowAt (Y.map Prod.fst) k = rowR q.1) := by unfold Hid rowAt; rw [List.getElem?_map, hq]; rfl
                obtain ⟨⟨nm, ars, an, re, co, ou, st⟩, lv⟩ := q
                obtain ⟨adl, capl, hlv⟩ := (HT.out _ hbs).form
                obtain rfl : lv = .slice adl ars.length capl := hlv
                have hba : Below W.heap.size W (wr.alloc (.cells #[str nm, .slice adl ars.length capl, .bool an, .bool re, .bool co, str ou, .int .i64 st] 80)) := hbs.alloc hbs.size _
                obtain ⟨fe, HFE⟩ : ∃ fe, Hid (rowR ⟨nm, ars, an, re, co, ou, st⟩ = fe) := ⟨_, rfl⟩
                clear hq hqm
                go_wp2_with fail
                refine (mayRow_any ⟨nm, ars, an, re, co, ou, st⟩ _ ea _ (HT.out _ hba) hql (HE.out _ hba)).mono ?_
                rintro e w3 ⟨rfl, hb3'⟩
                have hb3 := hba.trans (hb3'.mono hba.size)
                rw [HFE.out]
                clear hb3' c0 c1 c2 c3 c4 c5 c6
                cases fe with
                | none =>
                  simp only [errO]
                  go_wp2_with fail
                  refine ⟨⟨k + 1, by simp, by omega, ?_, hb3⟩, by simp [intOf]; omega⟩
                  intro j hj
                  by_cases hjk : j < k
                  · exact HN.out j hjk
                  · rw [show j = k by omega, HP.out, HFE.out]
                | some i =>
                  simp only [errO]
                  go_wp2_with fail
                  go_ret
                  refine ⟨?_, hb3⟩
                  have hfo := firstOf_hit (rowAt (Y.map Prod.fst)) (Y.map Prod.fst).length k _ HN.out (by rw [List.length_map]; exact hkl) (HP.out.trans HFE.out)
                  unfold mayR
                  rw [HW.out, if_neg Bool.false_ne_true, HFN.out, hfo]
                  rfl
              · have hkz : k = Y.length := by omega
                subst hkz
                go_wp2_with fail
                go_ret
                refine ⟨?_, hbs⟩
                have hfo := firstOf_none (rowAt (Y.map Prod.fst)) (Y.map Prod.fst).length (fun j hj => HN.out j (by rw [List.length_map] at hj; exact hj))
                unfold mayR
                rw [HW.out, if_neg Bool.false_ne_true, HFN.out, hfo]
                rfl
end Go.Proofs.YtfafhjglcaikoaaGreatDoor
