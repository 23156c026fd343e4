/- What is wrong with a file, with a row. -/
import Derived.Test.YthhghkjgffcpeaaDoorMay
namespace Go.Proofs.YthhghkjgffcpeaaDoor
open Go.RowKit Go.Shelf

/-- An error by its place. -/
def errO (ea : Nat → Addr) : Option Nat → Value
  | none => .nilIface
  | some i => errV (ea i)
def Ers (W : World) (ea : Nat → Addr) : Prop := ∀ i, i < 5 → Er W i (ea i)
theorem Ers.below {w w' : World} {ea : Nat → Addr} {B : Nat} (h : Ers w ea) (hb : Below B w w') (hB : w.heap.size ≤ B) : Ers w' ea := fun i hi => (h i hi).below hb (Nat.lt_of_lt_of_le (h i hi).2 hB)

set_option maxHeartbeats 1000000 in
theorem taken_at (f : Txt × Txt) (w : World) (fb : Nat) (hf : w.cell? ⟨fb, 0, none⟩ = some (str f.1)) (hlt : fb < w.heap.size) :
    PredBelow Tryd.prog 66 #[.pointer (some ⟨fb, 0, none⟩)] (fun x : Txt × Txt => .agg [str x.1, str x.2].toArray) (fun x => x.1 == f.1) w := by
  intro W x hb
  obtain ⟨a, b⟩ := x
  show Calls Tryd.prog 66 #[.agg #[str a, str b], .pointer (some ⟨fb, 0, none⟩)] W _
  have hba := hb.alloc hb.size (.cells #[str a, str b] 73)
  have c0 := (hba.cell (p := ⟨fb, 0, none⟩) hlt).trans hf
  have HBA : Hid _ := hba
  clear hba hb hf
  go_enter Tryd.func66, Tryd.ntmps66
  go_wp2_with fail
  go_ret
  exact ⟨rfl, HBA.out⟩
theorem taken_any (f : Txt × Txt) (fb : Nat) (v : Value) (A : Fls) (w : World) (h : FlAt w v A) (hl : A.length < 4294967296) (hf : w.cell? ⟨fb, 0, none⟩ = some (str f.1)) (hlt : fb < w.heap.size) :
    Calls Tryd.prog 68 #[v, .func (.func 66) #[] #[.pointer (some ⟨fb, 0, none⟩)]] w fun e w' => e = .returned (.bool (A.any fun x => x.1 == f.1)) ∧ Below w.heap.size w w' := by
  rcases h with ⟨h0, ad, cap, rfl⟩ | ⟨g, o, cap, hv, h2, h3, h4⟩
  · have hA : A = [] := by simpa using h0
    subst hA
    exact (empty68 ad cap _ w).mono fun e w' ⟨he, hw⟩ => ⟨he, by rw [hw]; exact Below.refl _ _⟩
  · obtain rfl : v = .slice (some ⟨g, o, none⟩) A.length cap := by rw [hv]; simp
    refine (AnyQ.slices_ContainsFunc Tryd.cf68 2 Tryd.isAgg73 Tryd.sizeOf73 (fun x : Txt × Txt => [str x.1, str x.2]) (fun _ => rfl) (fun x => x.1 == f.1) 66 _ (enters_of Tryd.func66 (by kernel_rfl) rfl) g o A.length cap A w (taken_at f w fb hf hlt) (Nat.le_refl _) (by omega) h3 ?_).mono ?_
    · intro j hj i u hu
      refine h4 j _ ?_ i u hu
      rw [getElem!_pos A j hj, List.getElem?_map, List.getElem?_eq_getElem hj]
      rfl
    · rintro e w' ⟨rfl, hb⟩
      refine ⟨ret_bool ?_, hb⟩
      rw [List.take_length]

def fileR (f : Txt × Txt) (A : Fls) : Option Nat := if noNm f.1 || A.any (fun x => x.1 == f.1) then some 2 else if 16384 < f.2.length then some 3 else none
set_option maxHeartbeats 2000000 in
theorem mayFile_any (f : Txt × Txt) (v : Value) (A : Fls) (ea : Nat → Addr) (W : World) (h : FlAt W v A) (hl : A.length < 4294967296) (hE : Ers W ea) :
    Calls Tryd.prog 46 #[.agg #[str f.1, str f.2], v] W fun e w' => e = .returned (errO ea (fileR f A)) ∧ Below W.heap.size W w' := by
  obtain ⟨nm, dt⟩ := f
  have HF : Hid (∀ W', Below W.heap.size W W' → FlAt W' v A) := fun W' hb => h.below hb (Nat.le_refl _)
  have HE : Hid (∀ W', Below W.heap.size W W' → Ers W' ea) := fun W' hb => hE.below hb (Nat.le_refl _)
  obtain ⟨ad, cap, rfl⟩ := h.form
  clear h hE
  have hb1 := below_new W (.cells #[str nm, str dt] 73)
  cases hn : noNm nm with
  | true =>
    have e1 : fileR (nm, dt) A = some 2 := by simp [fileR, hn]
    rw [e1]
    have c2 := (HE.out _ hb1 2 (by decide)).1
    have HNN : Hid _ := noName_any nm (W.alloc (.cells #[str nm, str dt] 73))
    rw [hn] at HNN
    clear e1 hn
    go_enter Tryd.func46, Tryd.ntmps46
    go_wp2_with fail
    refine Calls.mono HNN.out ?_
    rintro e w1 ⟨rfl, hw⟩
    subst hw
    go_wp2_with fail
    go_ret
    exact ⟨rfl, hb1⟩
  | false =>
    have HNN : Hid _ := noName_any nm (W.alloc (.cells #[str nm, str dt] 73))
    rw [hn] at HNN
    have HB : Hid (Cel (W.alloc (.cells #[str nm, str dt] 73)) W.heap.size 73 #[str nm, str dt]) := Cel.new W 73 _
    obtain ⟨tk, HTK⟩ : ∃ tk, Hid ((A.any fun x => x.1 == nm) = tk) := ⟨_, rfl⟩
    have HRR : Hid (fileR (nm, dt) A = if tk then some 2 else if 16384 < dt.length then some 3 else none) := by
      unfold Hid fileR
      have := HTK.out
      simp only [hn, Bool.false_or, this]
    clear hn
    go_enter Tryd.func46, Tryd.ntmps46
    go_wp2_with fail
    refine Calls.mono HNN.out ?_
    rintro e w1 ⟨rfl, hw⟩
    subst hw
    go_wp2_with fail
    refine (taken_any (nm, dt) W.heap.size _ A _ (HF.out _ hb1) hl (HB.out.cell 0) HB.out.lt).mono ?_
    rintro e w2 ⟨rfl, hb2'⟩
    have hb2 := hb1.trans (hb2'.mono hb1.size)
    have d1 := (HB.out.turn (Turn.ofBelow (S := fun _ => False) hb2') (fun h => h)).cell 1
    have c2 := (HE.out _ hb2 2 (by decide)).1
    have c3 := (HE.out _ hb2 3 (by decide)).1
    rw [show (A.any fun x => x.1 == (nm, dt).1) = tk from HTK.out]
    clear hb2' hb1
    cases tk with
    | true =>
      go_wp2_with fail
      go_ret
      exact ⟨by rw [HRR.out]; rfl, hb2⟩
    | false =>
      by_cases hbig : 16384 < dt.length
      · go_wp2_with fail
        go_ret
        exact ⟨by rw [HRR.out, if_neg Bool.false_ne_true, if_pos hbig]; rfl, hb2⟩
      · go_wp2_with fail
        go_ret
        exact ⟨by rw [HRR.out, if_neg Bool.false_ne_true, if_neg hbig]; rfl, hb2⟩

def rowR (r : Rw) : Option Nat := if noNm r.name then some 2 else if longT r.out || r.args.any longT then some 3 else if r.status < 0 ∨ 255 < r.status then some 4 else none
set_option maxHeartbeats 2000000 in
theorem mayRow_any (r : Rw) (v : Value) (ea : Nat → Addr) (W : World) (h : Tx W v r.args) (hl : r.args.length < 4294967296) (hE : Ers W ea) :
    Calls Tryd.prog 47 #[rwV r v] W fun e w' => e = .returned (errO ea (rowR r)) ∧ Below W.heap.size W w' := by
  obtain ⟨nm, ars, an, re, co, ou, st⟩ := r
  have HT : Hid (∀ W', Below W.heap.size W W' → Tx W' v ars) := fun W' hb => h.below hb (Nat.le_refl _)
  have HE : Hid (∀ W', Below W.heap.size W W' → Ers W' ea) := fun W' hb => hE.below hb (Nat.le_refl _)
  obtain ⟨ad, cap, hv⟩ := h.form
  obtain rfl : v = .slice ad ars.length cap := hv
  clear h hE
  have hb1 := below_new W (.cells #[str nm, .slice ad ars.length cap, .bool an, .bool re, .bool co, str ou, .int .i64 st] 77)
  have HB : Hid (Cel (W.alloc (.cells #[str nm, .slice ad ars.length cap, .bool an, .bool re, .bool co, str ou, .int .i64 st] 77)) W.heap.size 77 #[str nm, .slice ad ars.length cap, .bool an, .bool re, .bool co, str ou, .int .i64 st]) := Cel.new W 77 _
  have HNN : Hid _ := noName_any nm (W.alloc (.cells #[str nm, .slice ad ars.length cap, .bool an, .bool re, .bool co, str ou, .int .i64 st] 77))
  have HTL : Hid _ := tooLong_any ou (W.alloc (.cells #[str nm, .slice ad ars.length cap, .bool an, .bool re, .bool co, str ou, .int .i64 st] 77))
  have c2 := (HE.out _ hb1 2 (by decide)).1
  have c3 := (HE.out _ hb1 3 (by decide)).1
  have c4 := (HE.out _ hb1 4 (by decide)).1
  cases hn : noNm nm with
  | true =>
    have e1 : Hid (rowR ⟨nm, ars, an, re, co, ou, st⟩ = some 2) := by unfold Hid; simp [rowR, hn]
    rw [hn] at HNN
    clear hn
    go_enter Tryd.func47, Tryd.ntmps47
    go_wp2_with fail
    refine Calls.mono HNN.out ?_
    rintro e w1 ⟨rfl, hw⟩
    subst hw
    go_wp2_with fail
    go_ret
    exact ⟨by rw [e1.out]; rfl, hb1⟩
  | false =>
    rw [hn] at HNN
    cases ho : longT ou with
    | true =>
      have e1 : Hid (rowR ⟨nm, ars, an, re, co, ou, st⟩ = some 3) := by unfold Hid; simp [rowR, hn, ho]
      rw [ho] at HTL
      clear hn ho
      go_enter Tryd.func47, Tryd.ntmps47
      go_wp2_with fail
      refine Calls.mono HNN.out ?_
      rintro e w1 ⟨rfl, hw⟩
      subst hw
      go_wp2_with fail
      refine Calls.mono HTL.out ?_
      rintro e w1 ⟨rfl, hw⟩
      subst hw
      go_wp2_with fail
      go_ret
      exact ⟨by rw [e1.out]; rfl, hb1⟩
    | false =>
      rw [ho] at HTL
      obtain ⟨la, HLA⟩ : ∃ la, Hid (ars.any longT = la) := ⟨_, rfl⟩
      have e1 : Hid (rowR ⟨nm, ars, an, re, co, ou, st⟩ = if la then some 3 else if st < 0 ∨ 255 < st then some 4 else none) := by
        unfold Hid rowR
        have := HLA.out
        simp only [hn, ho, this, Bool.false_or, Bool.false_eq_true, if_false]
      clear hn ho
      go_enter Tryd.func47, Tryd.ntmps47
      go_wp2_with fail
      refine Calls.mono HNN.out ?_
      rintro e w1 ⟨rfl, hw⟩
      subst hw
      go_wp2_with fail
      refine Calls.mono HTL.out ?_
      rintro e w1 ⟨rfl, hw⟩
      subst hw
      go_wp2_with fail
      refine (longs_any _ ars _ (HT.out _ hb1) hl).mono ?_
      rintro e w2 ⟨rfl, hb2'⟩
      have hb2 := hb1.trans (hb2'.mono hb1.size)
      have d6 := (HB.out.turn (Turn.ofBelow (S := fun _ => False) hb2') (fun h => h)).cell 6
      have k3 := (HE.out _ hb2 3 (by decide)).1
      have k4 := (HE.out _ hb2 4 (by decide)).1
      rw [HLA.out]
      clear hb2' hb1 c2 c3 c4
      cases la with
      | true =>
        go_wp2_with fail
        go_ret
        exact ⟨by rw [e1.out]; rfl, hb2⟩
      | false =>
        by_cases h0 : st < 0
        · go_wp2_with fail
          go_ret
          exact ⟨by rw [e1.out, if_neg Bool.false_ne_true, if_pos (.inl h0)]; rfl, hb2⟩
        · have h0' : decide (st < 0) = false := decide_eq_false h0
          by_cases h1 : 255 < st
          · go_wp2_with fail
            go_ret
            exact ⟨by rw [e1.out, if_neg Bool.false_ne_true, if_pos (.inr h1)]; rfl, hb2⟩
          · go_wp2_with fail
            go_ret
            exact ⟨by rw [e1.out, if_neg Bool.false_ne_true, if_neg (by omega)]; rfl, hb2⟩
end Go.Proofs.YthhghkjgffcpeaaDoor
