/- A kernel is made. -/
import Derived.Test.YtfafhjglcaikoaaGreatDoorH5
/-! Which worlds may be: files and rows, one by one. -/
namespace Go.Proofs.YtfafhjglcaikoaaGreatDoor
open Go.RowKit Go.Shelf

def longT (s : Txt) : Bool := decide (2000 < s.length)
def noNm (s : Txt) : Bool := s.isEmpty || longT s
theorem str_size (l : Txt) : (⟨l.toArray⟩ : ByteArray).size = l.length := by show l.toArray.size = _; simp

set_option maxHeartbeats 1000000 in
theorem tooLong_any (s : Txt) (W : World) : Calls Tryz.prog 198 #[str s] W fun e w' => e = .returned (.bool (longT s)) ∧ w' = W := by
  go_enter Tryz.func198, Tryz.ntmps198
  go_wp2
  go_ret
  exact ⟨ret_bool (decide_eq_decide.2 (by omega)), rfl⟩
theorem tooLong_at (w : World) : PredAt Tryz.prog 198 #[] (fun l : Txt => Value.string ⟨l.toArray⟩) longT w := by
  intro W x _
  unfold FnGives
  have hsz := str_size x
  go_enter Tryz.func198, Tryz.ntmps198
  go_wp2
  go_ret
  exact ⟨ret_bool (decide_eq_decide.2 (by omega)), 0, rfl⟩
set_option maxHeartbeats 1000000 in
theorem noName_any (s : Txt) (W : World) : Calls Tryz.prog 196 #[str s] W fun e w' => e = .returned (.bool (noNm s)) ∧ w' = W := by
  cases s with
  | nil =>
    go_enter Tryz.func196, Tryz.ntmps196
    go_wp2
    go_ret
    exact ⟨rfl, rfl⟩
  | cons c r =>
    obtain ⟨s, hs⟩ : ∃ s, s = c :: r := ⟨_, rfl⟩
    rw [← hs]
    have h1 : (s == []) = false := by rw [hs]; rfl
    have h2 : s.isEmpty = false := by rw [hs]; rfl
    have h3 : noNm s = longT s := by unfold noNm; rw [h2]; rfl
    have h4 : s ≠ [] := by rw [hs]; simp
    have H3 : Hid _ := h3
    clear hs h2 h3
    go_enter Tryz.func196, Tryz.ntmps196
    go_wp2_with fail
    refine (tooLong_any s W).mono ?_
    rintro e w1 ⟨rfl, hw⟩
    subst hw
    go_wp2_with fail
    go_ret
    exact ⟨by rw [H3.out]; rfl, rfl⟩
theorem longs_any (v : Value) (ns : List Txt) (w : World) (h : Tx w v ns) (hl : ns.length < 4294967296) :
    Calls Tryz.prog 144 #[v, .func (.func 198) #[] #[]] w fun e w' => e = .returned (.bool (ns.any longT)) ∧ Below w.heap.size w w' := by
  by_cases hne : ns = []
  · subst hne
    obtain ⟨ad, cap, rfl⟩ := h.form
    exact (Tryz.slices_ContainsFunc_empty (α := Txt) ad cap _ w).mono fun e w' ⟨he, hw⟩ => ⟨he, by rw [hw]; exact Below.refl _ _⟩
  · obtain ⟨g, o, cap, rfl, h1, h2, h3⟩ := h.inRow hne
    refine (Tryz.slices_ContainsFunc (fun l : Txt => Value.string ⟨l.toArray⟩) longT 198 #[] (enters_of Tryz.func198 (by kernel_rfl) rfl) g o ns.length cap ns w (tooLong_at w) (Nat.le_refl _) (by omega) ?_).mono ?_
    · intro j hj
      rw [getElem!_pos ns j hj]
      exact h3 j _ (List.getElem?_eq_getElem hj)
    · rintro e w' ⟨rfl, q, rfl⟩
      refine ⟨?_, below_drewN w q⟩
      rw [List.take_length]

/-- A row as the library's contract wants it. -/
abbrev Rz := Rw × Option Addr × Nat
abbrev rzC (z : Rz) : List Value := rwC z.1 (.slice z.2.1 z.1.args.length z.2.2)
theorem inhRz : Nonempty (Inhabited Rz) := ⟨⟨(noRow, none, 0)⟩⟩
theorem rz_of : ∀ (Y : List (Rw × Value)), (∀ p ∈ Y, ∃ ad cap, p.2 = .slice ad p.1.args.length cap) → ∃ Z : List Rz, Y = Z.map fun z => (z.1, Value.slice z.2.1 z.1.args.length z.2.2)
  | [], _ => ⟨[], rfl⟩
  | p :: Y, h => by
    obtain ⟨Z, hZ⟩ := rz_of Y (fun q hq => h q (by simp [hq]))
    obtain ⟨ad, cap, hp⟩ := h p (by simp)
    refine ⟨(p.1, ad, cap) :: Z, ?_⟩
    rw [List.map_cons, ← hZ]
    obtain ⟨r, v⟩ := p
    simp only at hp
    rw [hp]
def manyB (r : Rw) : Bool := decide (100 < r.args.length)
set_option maxHeartbeats 1000000 in
theorem manyArgs_at (w : World) : PredBelow Tryz.prog 141 #[] (fun z : Rz => .agg (rzC z).toArray) (fun z => manyB z.1) w := by
  intro W z hb
  obtain ⟨⟨nm, ars, an, re, co, ou, st⟩, ad, cap⟩ := z
  show Calls Tryz.prog 141 #[.agg #[str nm, .slice ad ars.length cap, .bool an, .bool re, .bool co, str ou, .int .i64 st]] W _
  have hba := hb.alloc hb.size (.cells #[str nm, .slice ad ars.length cap, .bool an, .bool re, .bool co, str ou, .int .i64 st] 80)
  have HBA : Hid _ := hba
  clear hba hb
  go_enter Tryz.func141, Tryz.ntmps141
  go_wp2_with fail
  go_ret
  exact ⟨ret_bool (decide_eq_decide.2 (by dsimp only; omega)), HBA.out⟩
set_option maxHeartbeats 1000000 in
theorem empty44 (ad : Option Addr) (cap : Nat) (f : Value) (w : World) : Calls Tryz.prog 140 #[.slice ad 0 cap, f] w fun e w' => e = .returned (.bool false) ∧ w' = w := by
  have h65 : Calls Tryz.prog 194 #[.slice ad 0 cap, f] w fun e w' => e = .returned (.int .i64 (-1)) ∧ w' = w := by
    go_enter Tryz.func194, Tryz.ntmps194
    go_wp2_with fail
    go_loopw [8] (fun v8 wr => v8 = .int .i64 0 ∧ wr = w) (fun _ _ => 0)
    case atStart => exact ⟨rfl, rfl⟩
    case round =>
      obtain ⟨rfl, rfl⟩ := hrel
      go_wp2_with fail
      go_ret
      exact ⟨rfl, rfl⟩
  have H : Hid _ := h65
  clear h65
  go_enter Tryz.func140, Tryz.ntmps140
  go_wp2_with fail
  refine Calls.mono H.out ?_
  rintro e w1 ⟨rfl, hw⟩
  subst hw
  go_wp2_with fail
  go_ret
  exact ⟨rfl, rfl⟩
set_option maxHeartbeats 1000000 in
theorem empty68 (ad : Option Addr) (cap : Nat) (f : Value) (w : World) : Calls Tryz.prog 197 #[.slice ad 0 cap, f] w fun e w' => e = .returned (.bool false) ∧ w' = w := by
  have h65 : Calls Tryz.prog 233 #[.slice ad 0 cap, f] w fun e w' => e = .returned (.int .i64 (-1)) ∧ w' = w := by
    go_enter Tryz.func233, Tryz.ntmps233
    go_wp2_with fail
    go_loopw [8] (fun v8 wr => v8 = .int .i64 0 ∧ wr = w) (fun _ _ => 0)
    case atStart => exact ⟨rfl, rfl⟩
    case round =>
      obtain ⟨rfl, rfl⟩ := hrel
      go_wp2_with fail
      go_ret
      exact ⟨rfl, rfl⟩
  have H : Hid _ := h65
  clear h65
  go_enter Tryz.func197, Tryz.ntmps197
  go_wp2_with fail
  refine Calls.mono H.out ?_
  rintro e w1 ⟨rfl, hw⟩
  subst hw
  go_wp2_with fail
  go_ret
  exact ⟨rfl, rfl⟩
theorem many_any (v : Value) (Y : List (Rw × Value)) (w : World) (h : RwAt w v Y) (hl : Y.length < 4294967296) :
    Calls Tryz.prog 140 #[v, .func (.func 141) #[] #[]] w fun e w' => e = .returned (.bool ((Y.map Prod.fst).any manyB)) ∧ Below w.heap.size w w' := by
  obtain ⟨_⟩ := inhRz
  obtain ⟨Z, rfl⟩ := rz_of Y (fun p hp => (h.2 p hp).form)
  rcases h.1 with ⟨h0, ad, cap, rfl⟩ | ⟨g, o, cap, hv, h2, h3, h4⟩
  · have hZ : Z = [] := by simpa using h0
    subst hZ
    exact (empty44 ad cap _ w).mono fun e w' ⟨he, hw⟩ => ⟨he, by rw [hw]; exact Below.refl _ _⟩
  · obtain rfl : v = .slice (some ⟨g, o, none⟩) Z.length cap := by rw [hv]; simp
    refine (AnyQ.slices_ContainsFunc Tryz.cf140 7 Tryz.isAgg80 Tryz.sizeOf80 rzC (fun _ => rfl) (fun z => manyB z.1) 141 #[] (enters_of Tryz.func141 (by kernel_rfl) rfl) g o Z.length cap Z w (manyArgs_at w) (Nat.le_refl _) (by simp at hl; omega) h3 ?_).mono ?_
    · intro j hj i u hu
      refine h4 j (rzC Z[j]!) ?_ i u hu
      rw [getElem!_pos Z j hj, List.getElem?_map, List.getElem?_map, List.getElem?_eq_getElem hj]
      rfl
    · rintro e w' ⟨rfl, hb⟩
      refine ⟨ret_bool ?_, hb⟩
      rw [List.take_length, List.map_map, List.any_map]
      rfl
end Go.Proofs.YtfafhjglcaikoaaGreatDoor
/-! What is wrong with a file, with a row. -/
namespace Go.Proofs.YtfafhjglcaikoaaGreatDoor
open Go.RowKit Go.Shelf

/-- An error by its place. -/
def errO (ea : Nat → Addr) : Option Nat → Value
  | none => .nilIface
  | some i => errV (ea i)
def Ers (W : World) (ea : Nat → Addr) : Prop := ∀ i, i < 11 ∧ i ≠ 3 → Er W i (ea i)
theorem Ers.below {w w' : World} {ea : Nat → Addr} {B : Nat} (h : Ers w ea) (hb : Below B w w') (hB : w.heap.size ≤ B) : Ers w' ea := fun i hi => (h i hi).below hb (Nat.lt_of_lt_of_le (h i hi).2 hB)

set_option maxHeartbeats 1000000 in
theorem taken_at (f : Txt × Txt) (w : World) (fb : Nat) (hf : w.cell? ⟨fb, 0, none⟩ = some (str f.1)) (hlt : fb < w.heap.size) :
    PredBelow Tryz.prog 195 #[.pointer (some ⟨fb, 0, none⟩)] (fun x : Txt × Txt => .agg [str x.1, str x.2].toArray) (fun x => x.1 == f.1) w := by
  intro W x hb
  obtain ⟨a, b⟩ := x
  show Calls Tryz.prog 195 #[.agg #[str a, str b], .pointer (some ⟨fb, 0, none⟩)] W _
  have hba := hb.alloc hb.size (.cells #[str a, str b] 68)
  have c0 := (hba.cell (p := ⟨fb, 0, none⟩) hlt).trans hf
  have HBA : Hid _ := hba
  clear hba hb hf
  go_enter Tryz.func195, Tryz.ntmps195
  go_wp2_with fail
  go_ret
  exact ⟨rfl, HBA.out⟩
theorem taken_any (f : Txt × Txt) (fb : Nat) (v : Value) (A : Fls) (w : World) (h : FlAt w v A) (hl : A.length < 4294967296) (hf : w.cell? ⟨fb, 0, none⟩ = some (str f.1)) (hlt : fb < w.heap.size) :
    Calls Tryz.prog 197 #[v, .func (.func 195) #[] #[.pointer (some ⟨fb, 0, none⟩)]] w fun e w' => e = .returned (.bool (A.any fun x => x.1 == f.1)) ∧ Below w.heap.size w w' := by
  rcases h with ⟨h0, ad, cap, rfl⟩ | ⟨g, o, cap, hv, h2, h3, h4⟩
  · have hA : A = [] := by simpa using h0
    subst hA
    exact (empty68 ad cap _ w).mono fun e w' ⟨he, hw⟩ => ⟨he, by rw [hw]; exact Below.refl _ _⟩
  · obtain rfl : v = .slice (some ⟨g, o, none⟩) A.length cap := by rw [hv]; simp
    refine (AnyQ.slices_ContainsFunc Tryz.cf197 2 Tryz.isAgg68 Tryz.sizeOf68 (fun x : Txt × Txt => [str x.1, str x.2]) (fun _ => rfl) (fun x => x.1 == f.1) 195 _ (enters_of Tryz.func195 (by kernel_rfl) rfl) g o A.length cap A w (taken_at f w fb hf hlt) (Nat.le_refl _) (by omega) h3 ?_).mono ?_
    · intro j hj i u hu
      refine h4 j _ ?_ i u hu
      rw [getElem!_pos A j hj, List.getElem?_map, List.getElem?_eq_getElem hj]
      rfl
    · rintro e w' ⟨rfl, hb⟩
      refine ⟨ret_bool ?_, hb⟩
      rw [List.take_length]

def fileR (f : Txt × Txt) (A : Fls) : Option Nat := if noNm f.1 || A.any (fun x => x.1 == f.1) then some 9 else if 16384 < f.2.length then some 10 else none
set_option maxHeartbeats 2000000 in
theorem mayFile_any (f : Txt × Txt) (v : Value) (A : Fls) (ea : Nat → Addr) (W : World) (h : FlAt W v A) (hl : A.length < 4294967296) (hE : Ers W ea) :
    Calls Tryz.prog 142 #[.agg #[str f.1, str f.2], v] W fun e w' => e = .returned (errO ea (fileR f A)) ∧ Below W.heap.size W w' := by
  obtain ⟨nm, dt⟩ := f
  have HF : Hid (∀ W', Below W.heap.size W W' → FlAt W' v A) := fun W' hb => h.below hb (Nat.le_refl _)
  have HE : Hid (∀ W', Below W.heap.size W W' → Ers W' ea) := fun W' hb => hE.below hb (Nat.le_refl _)
  obtain ⟨ad, cap, rfl⟩ := h.form
  clear h hE
  have hb1 := below_new W (.cells #[str nm, str dt] 68)
  cases hn : noNm nm with
  | true =>
    have e1 : fileR (nm, dt) A = some 9 := by simp [fileR, hn]
    rw [e1]
    have c2 := (HE.out _ hb1 9 (by decide)).1
    have HNN : Hid _ := noName_any nm (W.alloc (.cells #[str nm, str dt] 68))
    rw [hn] at HNN
    clear e1 hn
    go_enter Tryz.func142, Tryz.ntmps142
    go_wp2_with fail
    refine Calls.mono HNN.out ?_
    rintro e w1 ⟨rfl, hw⟩
    subst hw
    go_wp2_with fail
    go_ret
    exact ⟨rfl, hb1⟩
  | false =>
    have HNN : Hid _ := noName_any nm (W.alloc (.cells #[str nm, str dt] 68))
    rw [hn] at HNN
    have HB : Hid (Cel (W.alloc (.cells #[str nm, str dt] 68)) W.heap.size 68 #[str nm, str dt]) := Cel.new W 68 _
    obtain ⟨tk, HTK⟩ : ∃ tk, Hid ((A.any fun x => x.1 == nm) = tk) := ⟨_, rfl⟩
    have HRR : Hid (fileR (nm, dt) A = if tk then some 9 else if 16384 < dt.length then some 10 else none) := by
      unfold Hid fileR
      have := HTK.out
      simp only [hn, Bool.false_or, this]
    clear hn
    go_enter Tryz.func142, Tryz.ntmps142
    go_wp2_with fail
    refine Calls.mono HNN.out ?_
    rintro e w1 ⟨rfl, hw⟩
    subst hw
    go_wp2_with fail
    refine (taken_any (nm, dt) W.heap.size _ A _ (HF.out _ hb1) hl (HB.out.cell 0) HB.out.lt).mono ?_
    rintro e w2 ⟨rfl, hb2'⟩
    have hb2 := hb1.trans (hb2'.mono hb1.size)
    have d1 := (HB.out.turn (Turn.ofBelow (S := fun _ => False) hb2') (fun h => h)).cell 1
    have c2 := (HE.out _ hb2 9 (by decide)).1
    have c3 := (HE.out _ hb2 10 (by decide)).1
    rw [show (A.any fun x => x.1 == (nm, dt).1) = tk from HTK.out]
    clear hb2' hb1
    cases tk with
    | true =>
      go_wp2_with fail
      go_ret
      exact ⟨by rw [HRR.out]; rfl, hb2⟩
    | false =>
      by_cases hbig : 16384 < dt.length
      · go_wp2_with fail
        go_ret
        exact ⟨by rw [HRR.out, if_neg Bool.false_ne_true, if_pos hbig]; rfl, hb2⟩
      · go_wp2_with fail
        go_ret
        exact ⟨by rw [HRR.out, if_neg Bool.false_ne_true, if_neg hbig]; rfl, hb2⟩

def rowR (r : Rw) : Option Nat := if noNm r.name then some 9 else if longT r.out || r.args.any longT then some 10 else if r.status < 0 ∨ 255 < r.status then some 8 else none
set_option maxHeartbeats 2000000 in
theorem mayRow_any (r : Rw) (v : Value) (ea : Nat → Addr) (W : World) (h : Tx W v r.args) (hl : r.args.length < 4294967296) (hE : Ers W ea) :
    Calls Tryz.prog 143 #[rwV r v] W fun e w' => e = .returned (errO ea (rowR r)) ∧ Below W.heap.size W w' := by
  obtain ⟨nm, ars, an, re, co, ou, st⟩ := r
  have HT : Hid (∀ W', Below W.heap.size W W' → Tx W' v ars) := fun W' hb => h.below hb (Nat.le_refl _)
  have HE : Hid (∀ W', Below W.heap.size W W' → Ers W' ea) := fun W' hb => hE.below hb (Nat.le_refl _)
  obtain ⟨ad, cap, hv⟩ := h.form
  obtain rfl : v = .slice ad ars.length cap := hv
  clear h hE
  have hb1 := below_new W (.cells #[str nm, .slice ad ars.length cap, .bool an, .bool re, .bool co, str ou, .int .i64 st] 80)
  have HB : Hid (Cel (W.alloc (.cells #[str nm, .slice ad ars.length cap, .bool an, .bool re, .bool co, str ou, .int .i64 st] 80)) W.heap.size 80 #[str nm, .slice ad ars.length cap, .bool an, .bool re, .bool co, str ou, .int .i64 st]) := Cel.new W 80 _
  have HNN : Hid _ := noName_any nm (W.alloc (.cells #[str nm, .slice ad ars.length cap, .bool an, .bool re, .bool co, str ou, .int .i64 st] 80))
  have HTL : Hid _ := tooLong_any ou (W.alloc (.cells #[str nm, .slice ad ars.length cap, .bool an, .bool re, .bool co, str ou, .int .i64 st] 80))
  have c2 := (HE.out _ hb1 9 (by decide)).1
  have c3 := (HE.out _ hb1 10 (by decide)).1
  have c4 := (HE.out _ hb1 8 (by decide)).1
  cases hn : noNm nm with
  | true =>
    have e1 : Hid (rowR ⟨nm, ars, an, re, co, ou, st⟩ = some 9) := by unfold Hid; simp [rowR, hn]
    rw [hn] at HNN
    clear hn
    go_enter Tryz.func143, Tryz.ntmps143
    go_wp2_with fail
    refine Calls.mono HNN.out ?_
    rintro e w1 ⟨rfl, hw⟩
    subst hw
    go_wp2_with fail
    go_ret
    exact ⟨by rw [e1.out]; rfl, hb1⟩
  | false =>
    rw [hn] at HNN
    cases ho : longT ou with
    | true =>
      have e1 : Hid (rowR ⟨nm, ars, an, re, co, ou, st⟩ = some 10) := by unfold Hid; simp [rowR, hn, ho]
      rw [ho] at HTL
      clear hn ho
      go_enter Tryz.func143, Tryz.ntmps143
      go_wp2_with fail
      refine Calls.mono HNN.out ?_
      rintro e w1 ⟨rfl, hw⟩
      subst hw
      go_wp2_with fail
      refine Calls.mono HTL.out ?_
      rintro e w1 ⟨rfl, hw⟩
      subst hw
      go_wp2_with fail
      go_ret
      exact ⟨by rw [e1.out]; rfl, hb1⟩
    | false =>
      rw [ho] at HTL
      obtain ⟨la, HLA⟩ : ∃ la, Hid (ars.any longT = la) := ⟨_, rfl⟩
      have e1 : Hid (rowR ⟨nm, ars, an, re, co, ou, st⟩ = if la then some 10 else if st < 0 ∨ 255 < st then some 8 else none) := by
        unfold Hid rowR
        have := HLA.out
        simp only [hn, ho, this, Bool.false_or, Bool.false_eq_true, if_false]
      clear hn ho
      go_enter Tryz.func143, Tryz.ntmps143
      go_wp2_with fail
      refine Calls.mono HNN.out ?_
      rintro e w1 ⟨rfl, hw⟩
      subst hw
      go_wp2_with fail
      refine Calls.mono HTL.out ?_
      rintro e w1 ⟨rfl, hw⟩
      subst hw
      go_wp2_with fail
      refine (longs_any _ ars _ (HT.out _ hb1) hl).mono ?_
      rintro e w2 ⟨rfl, hb2'⟩
      have hb2 := hb1.trans (hb2'.mono hb1.size)
      have d6 := (HB.out.turn (Turn.ofBelow (S := fun _ => False) hb2') (fun h => h)).cell 6
      have k3 := (HE.out _ hb2 10 (by decide)).1
      have k4 := (HE.out _ hb2 8 (by decide)).1
      rw [HLA.out]
      clear hb2' hb1 c2 c3 c4
      cases la with
      | true =>
        go_wp2_with fail
        go_ret
        exact ⟨by rw [e1.out]; rfl, hb2⟩
      | false =>
        by_cases h0 : st < 0
        · go_wp2_with fail
          go_ret
          exact ⟨by rw [e1.out, if_neg Bool.false_ne_true, if_pos (.inl h0)]; rfl, hb2⟩
        · have h0' : decide (st < 0) = false := decide_eq_false h0
          by_cases h1 : 255 < st
          · go_wp2_with fail
            go_ret
            exact ⟨by rw [e1.out, if_neg Bool.false_ne_true, if_pos (.inr h1)]; rfl, hb2⟩
          · go_wp2_with fail
            go_ret
            exact ⟨by rw [e1.out, if_neg Bool.false_ne_true, if_neg (by omega)]; rfl, hb2⟩
end Go.Proofs.YtfafhjglcaikoaaGreatDoor
/-! Which worlds may be. -/
namespace Go.Proofs.YtfafhjglcaikoaaGreatDoor
open Go.RowKit Go.Shelf

/-- The first that there is, from i on, so many. -/
def firstOf (f : Nat → Option Nat) : Nat → Nat → Option Nat
  | _, 0 => none
  | i, n + 1 => match f i with
    | some e => some e
    | none => firstOf f (i + 1) n
theorem firstOf_skip (f : Nat → Option Nat) : ∀ (n i k : Nat), (∀ j, i ≤ j → j < k → f j = none) → i ≤ k → k ≤ i + n → firstOf f i n = firstOf f k (i + n - k)
  | 0, i, k, _, h1, h2 => by
    obtain rfl : k = i := by omega
    rw [show k + 0 - k = 0 by omega]
  | n + 1, i, k, h, h1, h2 => by
    by_cases hk : k = i
    · subst hk
      rw [show k + (n + 1) - k = n + 1 by omega]
    · have e : firstOf f i (n + 1) = firstOf f (i + 1) n := by
        unfold firstOf
        rw [h i (Nat.le_refl _) (by omega)]
        cases n <;> rfl
      rw [e, firstOf_skip f n (i + 1) k (fun j hj hjk => h j (by omega) hjk) (by omega) (by omega)]
      congr 1
      omega
theorem firstOf_hit (f : Nat → Option Nat) (n k e : Nat) (h : ∀ j, j < k → f j = none) (hk : k < n) (he : f k = some e) : firstOf f 0 n = some e := by
  rw [firstOf_skip f n 0 k (fun j _ hj => h j hj) (by omega) (by omega)]
  obtain ⟨m, hm⟩ : ∃ m, 0 + n - k = m + 1 := ⟨n - k - 1, by omega⟩
  rw [hm]
  unfold firstOf
  rw [he]
theorem firstOf_none (f : Nat → Option Nat) (n : Nat) (h : ∀ j, j < n → f j = none) : firstOf f 0 n = none := by
  rw [firstOf_skip f n 0 n (fun j _ hj => h j hj) (by omega) (by omega)]
  rw [show 0 + n - n = 0 by omega]
  rfl
def fileAt (Fl : Fls) (i : Nat) : Option Nat := match Fl[i]? with | some f => fileR f (Fl.take i) | none => none
def rowAt (R : List Rw) (i : Nat) : Option Nat := match R[i]? with | some r => rowR r | none => none
def manyW (Fl : Fls) (R : List Rw) : Bool := decide (50 < Fl.length) || decide (50 < R.length) || R.any manyB
/-- What is wrong with a world. -/
def mayR (Fl : Fls) (R : List Rw) : Option Nat := if manyW Fl R then some 4 else match firstOf (fileAt Fl) 0 Fl.length with
  | some e => some e
  | none => firstOf (rowAt R) 0 R.length
theorem FlAt.cut {W : World} {g o cap : Nat} {F : Fls} (h : FlAt W (.slice (some ⟨g, o, none⟩) F.length cap) F) (hF : F ≠ []) (k : Nat) : FlAt W (.slice (some ⟨g, o, none⟩) (F.take k).length cap) (F.take k) := by
  rcases h with ⟨h0, _⟩ | ⟨g', o', cap', hv, h2, h3, h4⟩
  · exact absurd (by simpa using h0) hF
  · simp only [Value.slice.injEq, Option.some.injEq, Addr.mk.injEq] at hv
    obtain ⟨⟨rfl, rfl, _⟩, _, rfl⟩ := hv
    refine .inr ⟨g, o, cap, by simp, ?_, h3, fun j cs hj => h4 j cs ?_⟩
    · simp only [List.length_map, List.length_take] at h2 ⊢
      omega
    · rw [List.getElem?_map] at hj ⊢
      rw [List.getElem?_take] at hj
      by_cases hjk : j < k
      · rw [if_pos hjk] at hj; exact hj
      · rw [if_neg hjk] at hj; simp at hj

/-- A world's value. -/
abbrev wV (fv rv : Value) : Value := .agg #[fv, rv]
set_option maxRecDepth 100000 in
set_option maxHeartbeats 4000000 in
theorem may_any (fv rv : Value) (Fl : Fls) (Y : List (Rw × Value)) (ea : Nat → Addr) (W : World) (hf : FlAt W fv Fl) (hr : RwAt W rv Y) (hFl : Fl.length < 4294967296) (hY : Y.length < 4294967296) (hl : ∀ p ∈ Y, p.1.args.length < 4294967296) (hE : Ers W ea) :
    Calls Tryz.prog 98 #[wV fv rv] W fun e w' => e = .returned (errO ea (mayR Fl (Y.map Prod.fst))) ∧ Below W.heap.size W w' := by
  have HF : Hid (∀ W', Below W.heap.size W W' → FlAt W' fv Fl) := fun W' hb => hf.below hb (Nat.le_refl _)
  have HR : Hid (∀ W', Below W.heap.size W W' → RwAt W' rv Y) := fun W' hb => hr.below hb (Nat.le_refl _)
  have HE : Hid (∀ W', Below W.heap.size W W' → Ers W' ea) := fun W' hb => hE.below hb (Nat.le_refl _)
  have HL : Hid (∀ p ∈ Y, p.1.args.length < 4294967296) := hl
  obtain ⟨adf, capf, rfl⟩ := hf.form
  obtain ⟨adr, capr, rfl⟩ := hr.form
  clear hf hr hE hl
  have hb1 := below_new W (.cells #[.slice adf Fl.length capf, .slice adr Y.length capr] 27)
  have c1 := (HE.out _ hb1 4 (by decide)).1
  by_cases h50 : 50 < Fl.length
  · have e1 : Hid (mayR Fl (Y.map Prod.fst) = some 4) := by unfold Hid; simp [mayR, manyW, h50]
    go_enter Tryz.func98, Tryz.ntmps98
    go_wp2_with fail
    go_ret
    exact ⟨by rw [e1.out]; rfl, hb1⟩
  · have h50' : decide ((50 : Int) < (Fl.length : Int)) = false := decide_eq_false (by omega)
    have h50n : decide (50 < Fl.length) = false := decide_eq_false h50
    by_cases r50 : 50 < Y.length
    · have e1 : Hid (mayR Fl (Y.map Prod.fst) = some 4) := by unfold Hid; simp [mayR, manyW, r50]
      go_enter Tryz.func98, Tryz.ntmps98
      go_wp2_with fail
      go_ret
      exact ⟨by rw [e1.out]; rfl, hb1⟩
    · have r50' : decide ((50 : Int) < (Y.length : Int)) = false := decide_eq_false (by omega)
      have r50n : decide (50 < Y.length) = false := decide_eq_false r50
      obtain ⟨mn, HMN⟩ : ∃ mn, Hid ((Y.map Prod.fst).any manyB = mn) := ⟨_, rfl⟩
      have HW : Hid (manyW Fl (Y.map Prod.fst) = mn) := by
        unfold Hid manyW
        rw [List.length_map, h50n, r50n, HMN.out]
        rfl
      have HCB : Hid (Cel (W.alloc (.cells #[.slice adf Fl.length capf, .slice adr Y.length capr] 27)) W.heap.size 27 #[.slice adf Fl.length capf, .slice adr Y.length capr]) := Cel.new W 27 _
      go_enter Tryz.func98, Tryz.ntmps98
      go_wp2_with fail
      refine (many_any _ Y _ (HR.out _ hb1) hY).mono ?_
      rintro e w1 ⟨rfl, hb2'⟩
      have hb2 := hb1.trans (hb2'.mono hb1.size)
      have HC1 : Hid (Cel w1 W.heap.size 27 #[.slice adf Fl.length capf, .slice adr Y.length capr]) := HCB.out.turn (Turn.ofBelow (S := fun _ => False) hb2') (fun h => h)
      have k1 := (HE.out _ hb2 4 (by decide)).1
      have d0 := HC1.out.cell 0
      have d1 := HC1.out.cell 1
      rw [HMN.out]
      clear hb2' hb1 c1 HCB
      cases mn with
      | true =>
        go_wp2_with fail
        go_ret
        exact ⟨by unfold mayR; rw [HW.out, if_pos rfl]; rfl, hb2⟩
      | false =>
        go_wp2_with fail
        clear d0 d1 k1
        go_loopw [28] (fun v28 wr => ∃ k : Nat, v28 = .int .i64 k ∧ k ≤ Fl.length ∧ Hid (∀ j, j < k → fileAt Fl j = none) ∧ Below W.heap.size W wr ∧ Hid (Cel wr W.heap.size 27 #[.slice adf Fl.length capf, .slice adr Y.length capr])) (fun v28 _ => Fl.length - (intOf v28).toNat)
        case atStart => exact ⟨0, rfl, by omega, fun j hj => absurd hj (by omega), hb2, HC1.out⟩
        case round =>
          obtain ⟨k, rfl, hk, HN, hbr, HC⟩ := hrel
          by_cases hkl : k < Fl.length
          · obtain ⟨p, hp⟩ : ∃ p, Fl[k]? = some p := ⟨_, List.getElem?_eq_getElem hkl⟩
            have hne : Fl ≠ [] := fun e => by rw [e] at hkl; simp at hkl
            obtain ⟨g, o, cap', hv, hcap, hg, x0, x1⟩ := (HF.out _ hbr).at hp
            cases hv
            have HP : Hid (fileAt Fl k = fileR p (Fl.take k)) := by unfold Hid fileAt; rw [hp]
            obtain ⟨pn, pd⟩ := p
            have hTL : (Fl.take k).length = k := by rw [List.length_take]; omega
            have hkc : (k : Int) ≤ (capf : Int) := by omega
            have hba : Below W.heap.size W (World.drew (wr.alloc (.cells #[str pn, str pd] 68))) := (hbr.alloc hbr.size _).drew
            have HCa : Hid (Cel (World.drew (wr.alloc (.cells #[str pn, str pd] 68))) W.heap.size 27 #[.slice (some ⟨g, o, none⟩) Fl.length capf, .slice adr Y.length capr]) := HC.out.turn (Turn.ofBelow (S := fun _ => False) (below_new _ _).drew) (fun h => h)
            have HFc : Hid (FlAt (World.drew (wr.alloc (.cells #[str pn, str pd] 68))) (.slice (some ⟨g, o, none⟩) k capf) (Fl.take k)) := by
              have := (HF.out _ hba).cut hne k
              rw [hTL] at this
              exact this
            have b0 := HCa.out.cell 0
            obtain ⟨fe, HFE⟩ : ∃ fe, Hid (fileR (pn, pd) (Fl.take k) = fe) := ⟨_, rfl⟩
            have HLk : Hid ((Fl.take k).length < 4294967296) := by unfold Hid; omega
            clear hp hg hTL
            go_wp2_with fail
            refine wp_region_any (by kernel_rfl) ?_
            try (change wpAny _ _ _ _ _ _ _ (World.drew _))
            refine wpAny_take (i := 1) (v := .pointer (some ⟨W.heap.size, 0, none⟩)) rfl (by kernel_rfl) (by kernel_rfl) (by kernel_rfl) (fun _ _ _ h => h) (Or.inl ⟨by rfl, by intro wz; go_simp⟩) ?_
            try simp only [Act.put, List.getElem_toArray, List.getElem_cons_succ, List.getElem_cons_zero, List.setIfInBounds_toArray, List.set_cons_zero, List.set_cons_succ]
            refine wpAny_take (i := 3) (v := .int .i64 (k : Int)) rfl (by kernel_rfl) (by kernel_rfl) (by kernel_rfl) (fun _ _ _ h => h) (Or.inl ⟨by rfl, by intro wz; go_simp⟩) ?_
            try simp only [Act.put, List.getElem_toArray, List.getElem_cons_succ, List.getElem_cons_zero, List.setIfInBounds_toArray, List.set_cons_zero, List.set_cons_succ]
            refine wpAny_ready (rs := [0, 2]) (by kernel_rfl) (by simp) ?_
            refine AllReady.cons rfl (fun K hK => ?_) ?_
            · go_simp
              refine hK _ _ ?_
              clear hK K
              try simp only [Act.put, List.getElem_toArray, List.getElem_cons_succ, List.getElem_cons_zero, List.setIfInBounds_toArray, List.set_cons_zero, List.set_cons_succ]
              refine wpAny_ready (rs := [2]) (by kernel_rfl) (by simp) ?_
              refine AllReady.cons rfl (fun K hK => ?_) ?_
              · go_simp
                refine hK _ _ ?_
                clear hK K
                try simp only [Act.put, List.getElem_toArray, List.getElem_cons_succ, List.getElem_cons_zero, List.setIfInBounds_toArray, List.set_cons_zero, List.set_cons_succ]
                refine wpAny_take (i := 4) (v := .slice (some ⟨g, o, none⟩) k capf) rfl (by kernel_rfl) (by kernel_rfl) (by kernel_rfl) (fun _ _ _ h => h) (Or.inl ⟨by rfl, by intro wz; go_simp⟩) ?_
                try simp only [Act.put, List.getElem_toArray, List.getElem_cons_succ, List.getElem_cons_zero, List.setIfInBounds_toArray, List.set_cons_zero, List.set_cons_succ]
                refine wpAny_ready (rs := [5]) (by kernel_rfl) (by simp) ?_
                refine AllReady.cons rfl (fun K hK => ?_) ?_
                · go_simp
                  refine (mayFile_any (pn, pd) _ (Fl.take k) ea _ HFc.out HLk.out (HE.out _ hba)).mono ?_
                  rintro e w3 ⟨rfl, hb3'⟩
                  have hb3 := hba.trans (hb3'.mono hba.size)
                  rw [HFE.out]
                  have HC3 : Hid (Cel w3 W.heap.size 27 #[.slice (some ⟨g, o, none⟩) Fl.length capf, .slice adr Y.length capr]) := HCa.out.turn (Turn.ofBelow (S := fun _ => False) hb3') (fun h => h)
                  refine hK _ _ ?_
                  clear hK K
                  try simp only [Act.put, List.getElem_toArray, List.getElem_cons_succ, List.getElem_cons_zero, List.setIfInBounds_toArray, List.set_cons_zero, List.set_cons_succ]
                  refine wpAny_ready (rs := [6]) (by kernel_rfl) (by simp) ?_
                  refine AllReady.cons rfl (fun K hK => ?_) ?_
                  · go_simp
                    refine hK _ _ ?_
                    clear hK K
                    try simp only [Act.put, List.getElem_toArray, List.getElem_cons_succ, List.getElem_cons_zero, List.setIfInBounds_toArray, List.set_cons_zero, List.set_cons_succ]
                    refine wpAny_done (by kernel_rfl) ?_ _
                    cases fe
                    · simp only [errO]
                      go_wp2_with fail
                      refine ⟨⟨k + 1, by simp, by omega, ?_, hb3, HC3.out⟩, by simp [intOf]; omega⟩
                      intro j hj
                      by_cases hjk : j < k
                      · exact HN.out j hjk
                      · rw [show j = k by omega, HP.out, HFE.out]
                    · simp only [errO]
                      go_wp2_with fail
                      go_ret
                      refine ⟨?_, hb3⟩
                      have hfo := firstOf_hit (fileAt Fl) Fl.length k _ HN.out hkl (HP.out.trans HFE.out)
                      unfold mayR
                      rw [HW.out, if_neg Bool.false_ne_true, hfo]
                      rfl
                  exact AllReady.nil
                exact AllReady.nil
              exact AllReady.nil
            refine AllReady.cons rfl (fun K hK => ?_) ?_
            · go_simp
              refine hK _ _ ?_
              clear hK K
              try simp only [Act.put, List.getElem_toArray, List.getElem_cons_succ, List.getElem_cons_zero, List.setIfInBounds_toArray, List.set_cons_zero, List.set_cons_succ]
              refine wpAny_take (i := 4) (v := .slice (some ⟨g, o, none⟩) k capf) rfl (by kernel_rfl) (by kernel_rfl) (by kernel_rfl) (fun _ _ _ h => h) (Or.inl ⟨by rfl, by intro wz; go_simp⟩) ?_
              try simp only [Act.put, List.getElem_toArray, List.getElem_cons_succ, List.getElem_cons_zero, List.setIfInBounds_toArray, List.set_cons_zero, List.set_cons_succ]
              refine wpAny_ready (rs := [0]) (by kernel_rfl) (by simp) ?_
              refine AllReady.cons rfl (fun K hK => ?_) ?_
              · go_simp
                refine hK _ _ ?_
                clear hK K
                try simp only [Act.put, List.getElem_toArray, List.getElem_cons_succ, List.getElem_cons_zero, List.setIfInBounds_toArray, List.set_cons_zero, List.set_cons_succ]
                refine wpAny_ready (rs := [5]) (by kernel_rfl) (by simp) ?_
                refine AllReady.cons rfl (fun K hK => ?_) ?_
                · go_simp
                  refine (mayFile_any (pn, pd) _ (Fl.take k) ea _ HFc.out HLk.out (HE.out _ hba)).mono ?_
                  rintro e w3 ⟨rfl, hb3'⟩
                  have hb3 := hba.trans (hb3'.mono hba.size)
                  rw [HFE.out]
                  have HC3 : Hid (Cel w3 W.heap.size 27 #[.slice (some ⟨g, o, none⟩) Fl.length capf, .slice adr Y.length capr]) := HCa.out.turn (Turn.ofBelow (S := fun _ => False) hb3') (fun h => h)
                  refine hK _ _ ?_
                  clear hK K
                  try simp only [Act.put, List.getElem_toArray, List.getElem_cons_succ, List.getElem_cons_zero, List.setIfInBounds_toArray, List.set_cons_zero, List.set_cons_succ]
                  refine wpAny_ready (rs := [6]) (by kernel_rfl) (by simp) ?_
                  refine AllReady.cons rfl (fun K hK => ?_) ?_
                  · go_simp
                    refine hK _ _ ?_
                    clear hK K
                    try simp only [Act.put, List.getElem_toArray, List.getElem_cons_succ, List.getElem_cons_zero, List.setIfInBounds_toArray, List.set_cons_zero, List.set_cons_succ]
                    refine wpAny_done (by kernel_rfl) ?_ _
                    cases fe
                    · simp only [errO]
                      go_wp2_with fail
                      refine ⟨⟨k + 1, by simp, by omega, ?_, hb3, HC3.out⟩, by simp [intOf]; omega⟩
                      intro j hj
                      by_cases hjk : j < k
                      · exact HN.out j hjk
                      · rw [show j = k by omega, HP.out, HFE.out]
                    · simp only [errO]
                      go_wp2_with fail
                      go_ret
                      refine ⟨?_, hb3⟩
                      have hfo := firstOf_hit (fileAt Fl) Fl.length k _ HN.out hkl (HP.out.trans HFE.out)
                      unfold mayR
                      rw [HW.out, if_neg Bool.false_ne_true, hfo]
                      rfl
                  exact AllReady.nil
                exact AllReady.nil
              exact AllReady.nil
            exact AllReady.nil
          · have hkz : k = Fl.length := by omega
            subst hkz
            have d1 := HC.out.cell 1
            have HFN : Hid (firstOf (fileAt Fl) 0 Fl.length = none) := firstOf_none _ _ HN.out
            clear HN
            go_wp2_with fail
            clear d1
            go_loopw [46] (fun v46 wr => ∃ k : Nat, v46 = .int .i64 k ∧ k ≤ Y.length ∧ Hid (∀ j, j < k → rowAt (Y.map Prod.fst) j = none) ∧ Below W.heap.size W wr) (fun v46 _ => Y.length - (intOf v46).toNat)
            case atStart => exact ⟨0, rfl, by omega, fun j hj => absurd hj (by omega), hbr⟩
            case round =>
              obtain ⟨k, rfl, hk, HN, hbs⟩ := hrel
              by_cases hkl : k < Y.length
              · obtain ⟨q, hq⟩ : ∃ q, Y[k]? = some q := ⟨_, List.getElem?_eq_getElem hkl⟩
                obtain ⟨g, o, cap', hv, hg, c0, c1, c2, c3, c4, c5, c6⟩ := (HR.out _ hbs).at hq
                cases hv
                have hqm := List.mem_of_getElem? hq
                have HT : Hid (∀ W', Below W.heap.size W W' → Tx W' q.2 q.1.args) := fun W' hb => (HR.out W' hb).2 q hqm
                have hql := HL.out q hqm
                have HP : Hid (rowAt (Y.map Prod.fst) k = rowR q.1) := by unfold Hid rowAt; rw [List.getElem?_map, hq]; rfl
                obtain ⟨⟨nm, ars, an, re, co, ou, st⟩, lv⟩ := q
                obtain ⟨adl, capl, hlv⟩ := (HT.out _ hbs).form
                obtain rfl : lv = .slice adl ars.length capl := hlv
                have hba : Below W.heap.size W (wr.alloc (.cells #[str nm, .slice adl ars.length capl, .bool an, .bool re, .bool co, str ou, .int .i64 st] 80)) := hbs.alloc hbs.size _
                obtain ⟨fe, HFE⟩ : ∃ fe, Hid (rowR ⟨nm, ars, an, re, co, ou, st⟩ = fe) := ⟨_, rfl⟩
                clear hq hqm
                go_wp2_with fail
                refine (mayRow_any ⟨nm, ars, an, re, co, ou, st⟩ _ ea _ (HT.out _ hba) hql (HE.out _ hba)).mono ?_
                rintro e w3 ⟨rfl, hb3'⟩
                have hb3 := hba.trans (hb3'.mono hba.size)
                rw [HFE.out]
                clear hb3' c0 c1 c2 c3 c4 c5 c6
                cases fe with
                | none =>
                  simp only [errO]
                  go_wp2_with fail
                  refine ⟨⟨k + 1, by simp, by omega, ?_, hb3⟩, by simp [intOf]; omega⟩
                  intro j hj
                  by_cases hjk : j < k
                  · exact HN.out j hjk
                  · rw [show j = k by omega, HP.out, HFE.out]
                | some i =>
                  simp only [errO]
                  go_wp2_with fail
                  go_ret
                  refine ⟨?_, hb3⟩
                  have hfo := firstOf_hit (rowAt (Y.map Prod.fst)) (Y.map Prod.fst).length k _ HN.out (by rw [List.length_map]; exact hkl) (HP.out.trans HFE.out)
                  unfold mayR
                  rw [HW.out, if_neg Bool.false_ne_true, HFN.out, hfo]
                  rfl
              · have hkz : k = Y.length := by omega
                subst hkz
                go_wp2_with fail
                go_ret
                refine ⟨?_, hbs⟩
                have hfo := firstOf_none (rowAt (Y.map Prod.fst)) (Y.map Prod.fst).length (fun j hj => HN.out j (by rw [List.length_map] at hj; exact hj))
                unfold mayR
                rw [HW.out, if_neg Bool.false_ne_true, HFN.out, hfo]
                rfl
end Go.Proofs.YtfafhjglcaikoaaGreatDoor
namespace Go.Proofs.YtfafhjglcaikoaaGreatDoor
open Go.RowKit Go.Shelf

variable {W W' : World} {K : Nat → Prop} {kb mb : Nat} {ev rv : Value} {F : Fls} {Y : List (Rw × Value)} {X : List (Ev × Value)}

/-- A row is added behind. -/
theorem Kern.rowed (h : Kern W K kb mb ev rv F Y X) {W1 : World} {r : Rw} {lv rv' : Value} {Kl : Nat → Prop} (hl : Ot W Kl lv r.args)
    (ho : W1.ownsRow 0 80 7 rv' (Y.length + 1) (rwCs Y ++ rwC r lv)) (hg : W.grownBy W1 rv.ownBlock) (hat : rv'.ownBlock = rv.ownBlock ∨ ∃ b, rv'.ownBlock = some b ∧ W.heap.size ≤ b) :
    W1.cell? ⟨kb, 2, none⟩ = some rv ∧ W1.frozen? ⟨kb, 2, none⟩ = false ∧
    ∃ K', Kern (W1.setCell ⟨kb, 2, none⟩ rv') K' kb mb ev rv' F (Y ++ [(r, lv)]) X ∧ Turn K W (W1.setCell ⟨kb, 2, none⟩ rv') ∧ ∀ i, K' i → K i ∨ (∃ b, lv.ownBlock = some b ∧ i = b) ∨ W.heap.size ≤ i := by
  have hT := Turn.ofGrown hg
  have hkc1 : Cel W1 kb 159 #[ev, .map (some mb), rv] := h.kc.turn hT (fun e => owns_apart h.kc h.rr (by decide) e)
  refine ⟨hkc1.cell 2, hkc1.frozen 2, ?_⟩
  have hsz : W.heap.size ≤ W1.heap.size := hT.size
  have hT2 : Turn (fun i => i = kb) W1 (W1.setCell ⟨kb, 2, none⟩ rv') := (Turn.refl (fun i => i = kb) W1).setCell (p := ⟨kb, 2, none⟩) (fun _ => rfl) rv'
  have hs2 : (W1.setCell ⟨kb, 2, none⟩ rv').heap.size = W1.heap.size := by simp [World.setCell]
  have rowk : ∀ {e k n : Nat} {v : Value} {xs : List Value}, W1.ownsRow 0 e k v n xs → 159 ≠ e → ∀ b, v.ownBlock = some b → ¬ b = kb := fun ho hne b hb e' => owns_apart hkc1 ho hne (by rw [hb, e'])
  have row2 : ∀ {e k n : Nat} {v : Value} {xs : List Value}, W.ownsRow 0 e k v n xs → 159 ≠ e → 80 ≠ e → (W1.setCell ⟨kb, 2, none⟩ rv').ownsRow 0 e k v n xs := fun ho h1 h2 => by
    have o1 := owns_turn ho hT (fun b hb e' => owns_apart2 h.rr ho h2 b e' hb)
    exact owns_turn o1 hT2 (rowk o1 h1)
  refine ⟨fun i => K i ∨ (lv.ownBlock = some i) ∨ (rv'.ownBlock = some i), ⟨?_, ?_, row2 h.er (by decide) (by decide), ?_, ?_, ?_, .inl h.Kk, .inl h.Km, fun b hb => .inl (h.Ke b hb), fun b hb => .inr (.inr hb), ?_⟩, ?_, ?_⟩
  · exact hkc1.set rv'
  · refine map_turn (map_turn h.fm hT (fun e' => map_apart h.fm h.rr e')) hT2 (fun e' => ?_)
    exact map_apart_cel h.fm h.kc e'.symm
  · refine owns_turn ?_ hT2 (rowk ho (by decide))
    rw [rwCs_snoc, List.length_append]
    exact ho
  · exact fun p hp => ⟨row2 (h.xt p hp).1 (by decide) (by decide), fun b hb => .inl ((h.xt p hp).2 b hb)⟩
  · intro p hp
    rcases List.mem_append.1 hp with hp | hp
    · exact ⟨row2 (h.yt p hp).1 (by decide) (by decide), fun b hb => .inl ((h.yt p hp).2 b hb)⟩
    · simp only [List.mem_singleton] at hp
      subst hp
      exact ⟨row2 hl.1 (by decide) (by decide), fun b hb => .inr (.inl hb)⟩
  · intro i hi
    rw [hs2]
    rcases hi with hi | hi | hi
    · exact Nat.lt_of_lt_of_le (h.lt i hi) hsz
    · exact Nat.lt_of_lt_of_le (hl.1.lt i hi).2 hsz
    · exact (ho.lt i hi).2
  · refine (hT.mono (fun i e' => h.Kr i e')).trans hT2 (fun i e' _ => by subst e'; exact h.Kk)
  · intro i hi
    rcases hi with hi | hi | hi
    · exact .inl hi
    · exact .inr (.inl ⟨i, hi, rfl⟩)
    · rcases hat with e' | ⟨b, e', hb⟩
      · exact .inl (h.Kr i (by rw [← e']; exact hi))
      · rw [hi] at e'
        cases e'
        exact .inr (.inr hb)

/-- A new kernel of nothing. -/
theorem Kern.made (w : World) : Kern ((w.alloc (.map #[] 0)).alloc (.cells #[.slice none 0 0, .map (some w.heap.size), .slice none 0 0] 159)) (fun i => i = w.heap.size ∨ i = w.heap.size + 1) (w.heap.size + 1) w.heap.size (.slice none 0 0) (.slice none 0 0) [] [] [] := {
  kc := by
    have := Cel.new (w.alloc (.map #[] 0)) 159 #[.slice none 0 0, .map (some w.heap.size), .slice none 0 0]
    rw [show (w.alloc (.map #[] 0)).heap.size = w.heap.size + 1 by simp] at this
    exact this
  fm := (World.ownsMap_made w Tryz.prog 9 flE).alloc _
  er := World.ownsRow_nil _ _ _ _
  rr := World.ownsRow_nil _ _ _ _
  xt := fun p hp => by simp at hp
  yt := fun p hp => by simp at hp
  Kk := .inr rfl
  Km := .inl rfl
  Ke := fun b hb => by simp [Value.ownBlock] at hb
  Kr := fun b hb => by simp [Value.ownBlock] at hb
  lt := fun i hi => by simp; omega }

def putAll (Fl : Fls) : Fls := Fl.foldl (fun F p => putF F p.1 p.2) []
theorem putAll_snoc (Fl : Fls) (p : Txt × Txt) : putAll (Fl ++ [p]) = putF (putAll Fl) p.1 p.2 := by simp [putAll]
theorem insF_length (x : Txt × Txt) : ∀ F : Fls, (insF x F).length = F.length + 1
  | [] => rfl
  | y :: r => by
    unfold insF
    split
    · rfl
    · simp [insF_length x r]
theorem putF_length (F : Fls) (k d : Txt) : (putF F k d).length ≤ F.length + 1 := by
  unfold putF
  rw [insF_length]
  have := List.length_filter_le (fun p : Txt × Txt => !(p.1 == k)) F
  omega
theorem putAll_length (Fl : Fls) : ∀ k, (putAll (Fl.take k)).length ≤ k
  | 0 => by simp [putAll]
  | k + 1 => by
    have ih := putAll_length Fl k
    rw [List.take_add_one]
    cases h : Fl[k]? with
    | none => simp; omega
    | some p =>
      rw [show (some p).toList = [p] from rfl, putAll_snoc]
      have := putF_length (putAll (Fl.take k)) p.1 p.2
      omega
theorem info77 : (Tryz.prog.info? 80).map (fun i => (i.zero, i.size, i.bytes)) = some (some (.agg #[.string ⟨#[]⟩, .slice none 0 0, .bool false, .bool false, .bool false, .string ⟨#[]⟩, .int .i64 0]), 7, 72) := by kernel_rfl
theorem rwC_one (r : Rw) (ad : Option Addr) (n : Nat) {cap : Nat} : ∀ u ∈ rwC r (.slice ad n cap), u.oneCell' = true := by
  intro u hu
  simp at hu
  rcases hu with rfl | rfl | rfl | rfl | rfl | rfl | rfl <;> rfl
theorem mayR_small {Fl : Fls} {R : List Rw} (h : mayR Fl R = none) : Fl.length ≤ 50 ∧ R.length ≤ 50 := by
  unfold mayR at h
  cases hm : manyW Fl R with
  | true => rw [hm] at h; cases h
  | false =>
    unfold manyW at hm
    simp at hm
    exact hm.1

set_option maxRecDepth 100000 in
set_option maxHeartbeats 8000000 in
theorem new_any (fv rv : Value) (Fl : Fls) (Y : List (Rw × Value)) (ea : Nat → Addr) (W : World) (hf : FlAt W fv Fl) (hr : RwAt W rv Y) (hFl : Fl.length < 4294967296) (hY : Y.length < 4294967296) (hl : ∀ p ∈ Y, p.1.args.length < 4294967296) (hN : ∀ p ∈ Fl, p.1.length < 4294967296) (hE : Ers W ea) (hm : mayR Fl (Y.map Prod.fst) = none) :
    Calls Tryz.prog 60 #[wV fv rv] W fun e w' => ∃ kb mb rv' Y' K, e = .returned (.tuple #[kP kb, .nilIface]) ∧ Kern w' K kb mb (.slice none 0 0) rv' (putAll Fl) Y' [] ∧ Y'.map Prod.fst = Y.map Prod.fst ∧ (∀ i, K i → W.heap.size ≤ i) ∧ Below W.heap.size W w' := by
  obtain ⟨i0, hi, hz0, hz1, hz2⟩ := info_parts info77
  have hsm := mayR_small hm
  rw [List.length_map] at hsm
  have hb1 := below_new W (.cells #[fv, rv] 27)
  have HM : Hid _ := may_any fv rv Fl Y ea _ (hf.below hb1 (Nat.le_refl _)) (hr.below hb1 (Nat.le_refl _)) hFl hY hl (hE.below hb1 (Nat.le_refl _))
  rw [hm] at HM
  have HF : Hid (∀ W', Below W.heap.size W W' → FlAt W' fv Fl) := fun W' hb => hf.below hb (Nat.le_refl _)
  have HR : Hid (∀ W', Below W.heap.size W W' → RwAt W' rv Y) := fun W' hb => hr.below hb (Nat.le_refl _)
  have HL : Hid (∀ p ∈ Y, p.1.args.length < 4294967296) := hl
  have HN : Hid (∀ p ∈ Fl, p.1.length < 4294967296) := hN
  obtain ⟨adf, capf, rfl⟩ := hf.form
  obtain ⟨adr, capr, rfl⟩ := hr.form
  have HCB : Hid (Cel (W.alloc (.cells #[.slice adf Fl.length capf, .slice adr Y.length capr] 27)) W.heap.size 27 #[.slice adf Fl.length capf, .slice adr Y.length capr]) := Cel.new W 27 _
  clear hf hr hE hl hN hm
  go_enter Tryz.func60, Tryz.ntmps60
  go_wp2_with fail
  refine Calls.mono HM.out ?_
  rintro e w1 ⟨rfl, hb2'⟩
  have hb2 := hb1.trans (hb2'.mono hb1.size)
  have HC1 : Hid (Cel w1 W.heap.size 27 #[.slice adf Fl.length capf, .slice adr Y.length capr]) := HCB.out.turn (Turn.ofBelow (S := fun _ => False) hb2') (fun h => h)
  have HS1 : Hid (W.heap.size < w1.heap.size) := HC1.out.lt
  clear HM hb2' hb1 HCB
  simp only [errO]
  have HKM : Hid _ := Kern.made w1
  have hb3 : Below W.heap.size W ((w1.alloc (.map #[] 0)).alloc (.cells #[.slice none 0 0, .map (some w1.heap.size), .slice none 0 0] 159)) := (hb2.alloc hb2.size _).alloc (Nat.le_trans hb2.size (below_new w1 _).size) _
  have HC2 : Hid (Cel ((w1.alloc (.map #[] 0)).alloc (.cells #[.slice none 0 0, .map (some w1.heap.size), .slice none 0 0] 159)) W.heap.size 27 #[.slice adf Fl.length capf, .slice adr Y.length capr]) := (HC1.out.turn (Turn.ofBelow (S := fun _ => False) (below_new _ _)) (fun h => h)).turn (Turn.ofBelow (S := fun _ => False) (below_new _ _)) (fun h => h)
  have d0 := HC2.out.cell 0
  have HK0 : Hid (∀ i, (i = w1.heap.size ∨ i = w1.heap.size + 1) → W.heap.size < i) := fun i hi => by have := HS1.out; omega
  have hmm := @run_makeMap Tryz.prog
  clear hb2
  go_wp2_with fail
  clear d0 hmm
  go_loopw [21] (fun v21 wr => ∃ k : Nat, v21 = .int .i64 k ∧ k ≤ Fl.length ∧ Hid (Kern wr (fun i => i = w1.heap.size ∨ i = w1.heap.size + 1) (w1.heap.size + 1) w1.heap.size (.slice none 0 0) (.slice none 0 0) (putAll (Fl.take k)) [] []) ∧ Below W.heap.size W wr ∧ Hid (Cel wr W.heap.size 27 #[.slice adf Fl.length capf, .slice adr Y.length capr])) (fun v21 _ => Fl.length - (intOf v21).toNat)
  case atStart => exact ⟨0, rfl, by omega, HKM.out, hb3, HC2.out⟩
  case round =>
    obtain ⟨k, rfl, hk, HK, hbr, HC⟩ := hrel
    by_cases hkl : k < Fl.length
    · obtain ⟨p, hp⟩ : ∃ p, Fl[k]? = some p := ⟨_, List.getElem?_eq_getElem hkl⟩
      obtain ⟨g, o, cap', hv, hcap, hg, x0, x1⟩ := (HF.out _ hbr).at hp
      cases hv
      have HTK : Hid (putAll (Fl.take (k + 1)) = putF (putAll (Fl.take k)) p.1 p.2) := by unfold Hid; rw [List.take_add_one, hp, show (some p).toList = [p] from rfl, putAll_snoc]
      have hpn := HN.out p (List.mem_of_getElem? hp)
      have HLF : Hid ((putAll (Fl.take k)).length < 4294967296) := by
        unfold Hid
        have := putAll_length Fl k
        omega
      obtain ⟨pn, pd⟩ := p
      clear hp hg
      have hba : Below W.heap.size W (wr.alloc (.cells #[str pn, str pd] 68)) := hbr.alloc hbr.size _
      go_wp2_with fail
      refine (keep_any pn pd hpn (HK.out.below (below_new _ _)) HLF.out).mono ?_
      rintro e w3 ⟨rfl, k1, k2⟩
      have hfin := k2.below (B := W.heap.size) (fun i hi => Nat.le_of_lt (HK0.out i hi)) hba.size
      have HC3 := k2.cel (HC.out.turn (Turn.ofBelow (S := fun _ => False) (below_new wr (.cells #[str pn, str pd] 68))) (fun h => h)) (fun hk => Nat.lt_irrefl _ (HK0.out _ hk))
      go_wp2_with fail
      refine ⟨⟨k + 1, by simp, by omega, ?_, hba.trans hfin.1, HC3⟩, by simp [intOf]; omega⟩
      have e1 := HTK.out
      unfold Hid
      rw [e1]
      exact k1
    · have hkz : k = Fl.length := by omega
      subst hkz
      rw [List.take_length] at HK
      have d1 := HC.out.cell 1
      go_wp2_with fail
      clear d1
      go_loopw [35] (fun v35 ws => ∃ (k : Nat) (Y' : List (Rw × Value)) (rv' : Value) (K : Nat → Prop), v35 = .int .i64 k ∧ k ≤ Y.length ∧ Hid (Kern ws K (w1.heap.size + 1) w1.heap.size (.slice none 0 0) rv' (putAll Fl) Y' [] ∧ Y'.map Prod.fst = (Y.map Prod.fst).take k ∧ ∀ i, K i → W.heap.size ≤ i) ∧ Below W.heap.size W ws) (fun v35 _ => Y.length - (intOf v35).toNat)
      case atStart => exact ⟨0, [], _, _, rfl, by omega, ⟨HK.out, rfl, fun i hi => Nat.le_of_lt (HK0.out i hi)⟩, hbr⟩
      case round =>
        obtain ⟨k, Y', rv', K, rfl, hk, HY, hbs⟩ := hrel
        obtain ⟨ws, hws⟩ : ∃ ws, ws = wr := ⟨_, rfl⟩
        subst hws
        obtain ⟨adp, capp, rfl⟩ := owns_slice HY.out.1.rr
        have HYL : Hid (Y'.length = k) := by
          unfold Hid
          have := congrArg List.length HY.out.2.1
          rw [List.length_map, List.length_take, List.length_map] at this
          omega
        by_cases hkl : k < Y.length
        · obtain ⟨q, hq⟩ : ∃ q, Y[k]? = some q := ⟨_, List.getElem?_eq_getElem hkl⟩
          obtain ⟨g, o, cap', hv, hg, c0, c1, c2, c3, c4, c5, c6⟩ := (HR.out _ hbs).at hq
          cases hv
          have hqm := List.mem_of_getElem? hq
          have HT : Hid (∀ W', Below W.heap.size W W' → Tx W' q.2 q.1.args) := fun W' hb => (HR.out W' hb).2 q hqm
          have hql := HL.out q hqm
          have HQ : Hid ((Y.map Prod.fst).take (k + 1) = (Y.map Prod.fst).take k ++ [q.1]) := by unfold Hid; rw [List.take_add_one, List.getElem?_map, hq]; rfl
          obtain ⟨⟨nm, ars, an, re, co, ou, st⟩, lv⟩ := q
          obtain ⟨adl, capl, hlv⟩ := (HT.out _ hbs).form
          obtain rfl : lv = .slice adl ars.length capl := hlv
          have hba : Below W.heap.size W (ws.alloc (.cells #[str nm, .slice adl ars.length capl, .bool an, .bool re, .bool co, str ou, .int .i64 st] 80)) := hbs.alloc hbs.size _
          have HBX : Hid (Cel (ws.alloc (.cells #[str nm, .slice adl ars.length capl, .bool an, .bool re, .bool co, str ou, .int .i64 st] 80)) ws.heap.size 80 #[str nm, .slice adl ars.length capl, .bool an, .bool re, .bool co, str ou, .int .i64 st]) := Cel.new ws 80 _
          clear hq hqm hg
          go_wp2_with fail
          refine (clone_any _ ars _ (HT.out _ hba) hql).mono ?_
          rintro e w4 ⟨v4, rfl, ho4, hb4'⟩
          obtain ⟨ad4, cap4, rfl⟩ := owns_slice ho4
          have HB4 := HBX.out.turn (Turn.ofBelow (S := fun _ => False) hb4') (fun h => h)
          have y0 := HB4.cell 0
          have y1 := HB4.cell 1
          have y2 := HB4.cell 2
          have y3 := HB4.cell 3
          have y4 := HB4.cell 4
          have y5 := HB4.cell 5
          have y6 := HB4.cell 6
          have f1 := HB4.frozen 1
          have hb4 : Below ws.heap.size ws (w4.setCell ⟨ws.heap.size, 1, none⟩ (.slice ad4 ars.length cap4)) := ((below_new ws _).trans (hb4'.mono (below_new ws _).size)).setCell (p := ⟨ws.heap.size, 1, none⟩) (Nat.le_refl _) _
          have HO4 : Hid ((w4.setCell ⟨ws.heap.size, 1, none⟩ (.slice ad4 ars.length cap4)).ownsRow ws.heap.size 9 1 (.slice ad4 ars.length cap4) ars.length (txV ars)) := by
            have hT : Turn (fun i => i = ws.heap.size) w4 (w4.setCell ⟨ws.heap.size, 1, none⟩ (.slice ad4 ars.length cap4)) := (Turn.refl (fun i => i = ws.heap.size) w4).setCell (p := ⟨ws.heap.size, 1, none⟩) (fun _ => rfl) _
            refine owns_turn (owns_lower ho4 (by simp)) hT (fun b hb e' => ?_)
            have h7 := (ho4.lt b hb).1
            simp at h7
            omega
          have HB5 : Hid (Cel (w4.setCell ⟨ws.heap.size, 1, none⟩ (.slice ad4 ars.length cap4)) ws.heap.size 80 #[str nm, .slice ad4 ars.length cap4, .bool an, .bool re, .bool co, str ou, .int .i64 st]) := HB4.set (j := 1) _
          clear ho4 hb4' HBX HB4 c0 c1 c2 c3 c4 c5 c6 hba
          go_wp2_with fail
          clear y0 y1 y2 y3 y4 y5 y6 f1
          obtain ⟨w5, hw5⟩ : ∃ w5, w5 = w4.setCell ⟨ws.heap.size, 1, none⟩ (.slice ad4 ars.length cap4) := ⟨_, rfl⟩
          rw [← hw5] at hb4 HO4 HB5 ⊢
          clear hw5
          have hb5 : Below ws.heap.size ws (World.drew w5) := hb4.drew
          have z0 : (World.drew w5).cell? ⟨ws.heap.size, 0, none⟩ = some (str nm) := HB5.out.cell 0
          have z1 : (World.drew w5).cell? ⟨ws.heap.size, 1, none⟩ = some (.slice ad4 ars.length cap4) := HB5.out.cell 1
          have z2 : (World.drew w5).cell? ⟨ws.heap.size, 2, none⟩ = some (.bool an) := HB5.out.cell 2
          have z3 : (World.drew w5).cell? ⟨ws.heap.size, 3, none⟩ = some (.bool re) := HB5.out.cell 3
          have z4 : (World.drew w5).cell? ⟨ws.heap.size, 4, none⟩ = some (.bool co) := HB5.out.cell 4
          have z5 : (World.drew w5).cell? ⟨ws.heap.size, 5, none⟩ = some (str ou) := HB5.out.cell 5
          have z6 : (World.drew w5).cell? ⟨ws.heap.size, 6, none⟩ = some (.int .i64 st) := HB5.out.cell 6
          have HKS : Hid (∀ W', Below ws.heap.size ws W' → Kern W' K (w1.heap.size + 1) w1.heap.size (.slice none 0 0) (.slice adp Y'.length capp) (putAll Fl) Y' []) := fun W' hb => HY.out.1.below hb
          have HC : Hid (∀ W', Below ws.heap.size ws W' → W'.cell? ⟨w1.heap.size + 1, 2, none⟩ = some (.slice adp Y'.length capp)) := fun W' hb => (HKS.out W' hb).kc.cell 2
          have hyl : Y'.length < 4294967296 := by have := HYL.out; omega
          refine wp_region_any (by kernel_rfl) ?_
          try (change wpAny _ _ _ _ _ _ _ (World.drew _))
          refine wpAny_take (i := 0) (v := .pointer (some ⟨w1.heap.size + 1, 0, none⟩)) rfl (by kernel_rfl) (by kernel_rfl) (by kernel_rfl) (fun _ _ _ h => h) (Or.inl ⟨by rfl, by intro wz; go_simp⟩) ?_
          try simp only [Act.put, List.getElem_toArray, List.getElem_cons_zero, List.setIfInBounds_toArray, List.set_cons_zero, List.set_cons_succ]
          refine wpAny_take (i := 1) (v := .pointer (some ⟨w1.heap.size + 1, 0, none⟩)) rfl (by kernel_rfl) (by kernel_rfl) (by kernel_rfl) (fun _ _ _ h => h) (Or.inl ⟨by rfl, by intro wz; go_simp⟩) ?_
          try simp only [Act.put, List.getElem_toArray, List.getElem_cons_succ, List.getElem_cons_zero, List.setIfInBounds_toArray, List.set_cons_zero, List.set_cons_succ]
          refine wpAny_take (i := 2) (v := .pointer (some ⟨w1.heap.size + 1, 0, none⟩)) rfl (by kernel_rfl) (by kernel_rfl) (by kernel_rfl) (fun _ _ _ h => h) (Or.inl ⟨by rfl, by intro wz; go_simp⟩) ?_
          try simp only [Act.put, List.getElem_toArray, List.getElem_cons_succ, List.getElem_cons_zero, List.setIfInBounds_toArray, List.set_cons_zero, List.set_cons_succ]
          refine wpAny_take (i := 3) (v := .pointer (some ⟨w1.heap.size + 1, 2, none⟩)) rfl (by kernel_rfl) (by kernel_rfl) (by kernel_rfl) (fun _ _ _ h => h) (Or.inl ⟨by rfl, by intro wz; go_simp⟩) ?_
          try simp only [Act.put, List.getElem_toArray, List.getElem_cons_succ, List.getElem_cons_zero, List.setIfInBounds_toArray, List.set_cons_zero, List.set_cons_succ]
          refine wpAny_ready (rs := [4, 5]) (by kernel_rfl) (by simp) ?_
          refine AllReady.cons rfl (fun K hK => ?_) ?_
          · have c0 := HC.out _ hb5
            go_simp
            refine hK _ _ ?_
            clear hK K
            try simp only [Act.put, List.getElem_toArray, List.getElem_cons_succ, List.getElem_cons_zero, List.setIfInBounds_toArray, List.set_cons_zero, List.set_cons_succ]
            refine wpAny_ready (rs := [5]) (by kernel_rfl) (by simp) ?_
            refine AllReady.cons rfl (fun K hK => ?_) ?_
            · go_simp
              refine hK _ _ ?_
              clear hK K
              try simp only [Act.put, List.getElem_toArray, List.getElem_cons_succ, List.getElem_cons_zero, List.setIfInBounds_toArray, List.set_cons_zero, List.set_cons_succ]
              refine wpAny_ready (rs := [6]) (by kernel_rfl) (by simp) ?_
              refine AllReady.cons rfl (fun K hK => ?_) ?_
              · go_simp
                refine hK _ _ ?_
                clear hK K
                try simp only [Act.put, List.getElem_toArray, List.getElem_cons_succ, List.getElem_cons_zero, List.setIfInBounds_toArray, List.set_cons_zero, List.set_cons_succ]
                have hb6 : Below ws.heap.size ws ((World.drew w5).alloc (.cells #[str nm, .slice ad4 ars.length cap4, .bool an, .bool re, .bool co, str ou, .int .i64 st] 80)) := hb5.alloc hb5.size _
                refine wpAny_ready (rs := [7]) (by kernel_rfl) (by simp) ?_
                refine AllReady.cons rfl (fun K hK => ?_) ?_
                · refine step_append _ _ 25 rfl 0 80 i0 _ 7 72 Tryz.underlying25 hi hz0 hz1 hz2 rfl (by decide) (.slice adp Y'.length capp) Y'.length (rwCs Y') rfl (HKS.out _ hb6).rr ⟨w5.heap.size, 0, none⟩ 1 1 (rwC ⟨nm, ars, an, re, co, ou, st⟩ (.slice ad4 ars.length cap4)) rfl rfl (cells_new (World.drew w5) _ 80) (rwC_one _ _ _) (by have := maxLen_big; omega) (by omega) (Nat.zero_le _) ?_
                  intro v7 w7 hown7 hgrow7 _ hat7
                  refine hK _ _ ?_
                  clear hK K
                  try simp only [Act.put, List.getElem_toArray, List.getElem_cons_succ, List.getElem_cons_zero, List.setIfInBounds_toArray, List.set_cons_zero, List.set_cons_succ]
                  obtain ⟨ad7, cap7, rfl⟩ := owns_slice hown7
                  have NT : Hid _ := Kern.rowed (HKS.out _ hb6) (Kl := fun i => ws.heap.size ≤ i) (r := ⟨nm, ars, an, re, co, ou, st⟩) ⟨owns_turn (W := World.drew w5) (owns_lower HO4.out (Nat.zero_le _)) (Turn.ofBelow (S := fun _ => False) (below_new (World.drew w5) (.cells #[str nm, .slice ad4 ars.length cap4, .bool an, .bool re, .bool co, str ou, .int .i64 st] 80))) (fun _ _ h => h), fun b hb => (HO4.out.lt b hb).1⟩ hown7 hgrow7 (hat7.imp id (fun h => ⟨_, h, Nat.le_refl _⟩))
                  have c7 := NT.out.1
                  have f7 := NT.out.2.1
                  refine wpAny_take (i := 8) (v := .pointer (some ⟨w1.heap.size + 1, 0, none⟩)) rfl (by kernel_rfl) (by kernel_rfl) (by kernel_rfl) (fun _ _ _ h => h) (Or.inl ⟨by rfl, by intro wz; go_simp⟩) ?_
                  try simp only [Act.put, List.getElem_toArray, List.getElem_cons_succ, List.getElem_cons_zero, List.setIfInBounds_toArray, List.set_cons_zero, List.set_cons_succ]
                  refine wpAny_take (i := 9) (v := .pointer (some ⟨w1.heap.size + 1, 2, none⟩)) rfl (by kernel_rfl) (by kernel_rfl) (by kernel_rfl) (fun _ _ _ h => h) (Or.inl ⟨by rfl, by intro wz; go_simp⟩) ?_
                  try simp only [Act.put, List.getElem_toArray, List.getElem_cons_succ, List.getElem_cons_zero, List.setIfInBounds_toArray, List.set_cons_zero, List.set_cons_succ]
                  refine wpAny_ready (rs := [10]) (by kernel_rfl) (by simp) ?_
                  refine AllReady.cons rfl (fun K hK => ?_) ?_
                  · go_simp
                    refine hK _ _ ?_
                    clear hK K
                    try simp only [Act.put, List.getElem_toArray, List.getElem_cons_succ, List.getElem_cons_zero, List.setIfInBounds_toArray, List.set_cons_zero, List.set_cons_succ]
                    refine wpAny_done (by kernel_rfl) ?_ _
                    go_wp2_with fail
                    obtain ⟨K', n1, n2, n3⟩ := NT.out.2.2
                    have hKK : ∀ i, K' i → W.heap.size ≤ i := fun i hi => by
                      rcases n3 i hi with h | ⟨b, hb, rfl⟩ | h
                      · exact HY.out.2.2 i h
                      · exact Nat.le_trans hbs.size (HO4.out.lt i hb).1
                      · exact Nat.le_trans hbs.size (Nat.le_trans hb6.size h)
                    refine ⟨⟨k + 1, Y' ++ [(⟨nm, ars, an, re, co, ou, st⟩, .slice ad4 ars.length cap4)], _, K', by simp, by omega, ⟨n1, ?_, hKK⟩, (hbs.trans (hb6.mono hbs.size)).trans (n2.below HY.out.2.2 (Nat.le_trans hbs.size hb6.size))⟩, by simp [intOf]; omega⟩
                    rw [HQ.out, List.map_append, HY.out.2.1]
                    rfl
                  exact AllReady.nil
                exact AllReady.nil
              exact AllReady.nil
            exact AllReady.nil
          refine AllReady.cons rfl (fun K hK => ?_) ?_
          · go_simp
            refine hK _ _ ?_
            clear hK K
            try simp only [Act.put, List.getElem_toArray, List.getElem_cons_succ, List.getElem_cons_zero, List.setIfInBounds_toArray, List.set_cons_zero, List.set_cons_succ]
            refine wpAny_ready (rs := [4, 6]) (by kernel_rfl) (by simp) ?_
            refine AllReady.cons rfl (fun K hK => ?_) ?_
            · have c0 := HC.out _ hb5
              go_simp
              refine hK _ _ ?_
              clear hK K
              try simp only [Act.put, List.getElem_toArray, List.getElem_cons_succ, List.getElem_cons_zero, List.setIfInBounds_toArray, List.set_cons_zero, List.set_cons_succ]
              refine wpAny_ready (rs := [6]) (by kernel_rfl) (by simp) ?_
              refine AllReady.cons rfl (fun K hK => ?_) ?_
              · go_simp
                refine hK _ _ ?_
                clear hK K
                try simp only [Act.put, List.getElem_toArray, List.getElem_cons_succ, List.getElem_cons_zero, List.setIfInBounds_toArray, List.set_cons_zero, List.set_cons_succ]
                have hb6 : Below ws.heap.size ws ((World.drew w5).alloc (.cells #[str nm, .slice ad4 ars.length cap4, .bool an, .bool re, .bool co, str ou, .int .i64 st] 80)) := hb5.alloc hb5.size _
                refine wpAny_ready (rs := [7]) (by kernel_rfl) (by simp) ?_
                refine AllReady.cons rfl (fun K hK => ?_) ?_
                · refine step_append _ _ 25 rfl 0 80 i0 _ 7 72 Tryz.underlying25 hi hz0 hz1 hz2 rfl (by decide) (.slice adp Y'.length capp) Y'.length (rwCs Y') rfl (HKS.out _ hb6).rr ⟨w5.heap.size, 0, none⟩ 1 1 (rwC ⟨nm, ars, an, re, co, ou, st⟩ (.slice ad4 ars.length cap4)) rfl rfl (cells_new (World.drew w5) _ 80) (rwC_one _ _ _) (by have := maxLen_big; omega) (by omega) (Nat.zero_le _) ?_
                  intro v7 w7 hown7 hgrow7 _ hat7
                  refine hK _ _ ?_
                  clear hK K
                  try simp only [Act.put, List.getElem_toArray, List.getElem_cons_succ, List.getElem_cons_zero, List.setIfInBounds_toArray, List.set_cons_zero, List.set_cons_succ]
                  obtain ⟨ad7, cap7, rfl⟩ := owns_slice hown7
                  have NT : Hid _ := Kern.rowed (HKS.out _ hb6) (Kl := fun i => ws.heap.size ≤ i) (r := ⟨nm, ars, an, re, co, ou, st⟩) ⟨owns_turn (W := World.drew w5) (owns_lower HO4.out (Nat.zero_le _)) (Turn.ofBelow (S := fun _ => False) (below_new (World.drew w5) (.cells #[str nm, .slice ad4 ars.length cap4, .bool an, .bool re, .bool co, str ou, .int .i64 st] 80))) (fun _ _ h => h), fun b hb => (HO4.out.lt b hb).1⟩ hown7 hgrow7 (hat7.imp id (fun h => ⟨_, h, Nat.le_refl _⟩))
                  have c7 := NT.out.1
                  have f7 := NT.out.2.1
                  refine wpAny_take (i := 8) (v := .pointer (some ⟨w1.heap.size + 1, 0, none⟩)) rfl (by kernel_rfl) (by kernel_rfl) (by kernel_rfl) (fun _ _ _ h => h) (Or.inl ⟨by rfl, by intro wz; go_simp⟩) ?_
                  try simp only [Act.put, List.getElem_toArray, List.getElem_cons_succ, List.getElem_cons_zero, List.setIfInBounds_toArray, List.set_cons_zero, List.set_cons_succ]
                  refine wpAny_take (i := 9) (v := .pointer (some ⟨w1.heap.size + 1, 2, none⟩)) rfl (by kernel_rfl) (by kernel_rfl) (by kernel_rfl) (fun _ _ _ h => h) (Or.inl ⟨by rfl, by intro wz; go_simp⟩) ?_
                  try simp only [Act.put, List.getElem_toArray, List.getElem_cons_succ, List.getElem_cons_zero, List.setIfInBounds_toArray, List.set_cons_zero, List.set_cons_succ]
                  refine wpAny_ready (rs := [10]) (by kernel_rfl) (by simp) ?_
                  refine AllReady.cons rfl (fun K hK => ?_) ?_
                  · go_simp
                    refine hK _ _ ?_
                    clear hK K
                    try simp only [Act.put, List.getElem_toArray, List.getElem_cons_succ, List.getElem_cons_zero, List.setIfInBounds_toArray, List.set_cons_zero, List.set_cons_succ]
                    refine wpAny_done (by kernel_rfl) ?_ _
                    go_wp2_with fail
                    obtain ⟨K', n1, n2, n3⟩ := NT.out.2.2
                    have hKK : ∀ i, K' i → W.heap.size ≤ i := fun i hi => by
                      rcases n3 i hi with h | ⟨b, hb, rfl⟩ | h
                      · exact HY.out.2.2 i h
                      · exact Nat.le_trans hbs.size (HO4.out.lt i hb).1
                      · exact Nat.le_trans hbs.size (Nat.le_trans hb6.size h)
                    refine ⟨⟨k + 1, Y' ++ [(⟨nm, ars, an, re, co, ou, st⟩, .slice ad4 ars.length cap4)], _, K', by simp, by omega, ⟨n1, ?_, hKK⟩, (hbs.trans (hb6.mono hbs.size)).trans (n2.below HY.out.2.2 (Nat.le_trans hbs.size hb6.size))⟩, by simp [intOf]; omega⟩
                    rw [HQ.out, List.map_append, HY.out.2.1]
                    rfl
                  exact AllReady.nil
                exact AllReady.nil
              exact AllReady.nil
            refine AllReady.cons rfl (fun K hK => ?_) ?_
            · go_simp
              refine hK _ _ ?_
              clear hK K
              try simp only [Act.put, List.getElem_toArray, List.getElem_cons_succ, List.getElem_cons_zero, List.setIfInBounds_toArray, List.set_cons_zero, List.set_cons_succ]
              refine wpAny_ready (rs := [4]) (by kernel_rfl) (by simp) ?_
              refine AllReady.cons rfl (fun K hK => ?_) ?_
              · have c0 := HC.out _ (hb5.alloc hb5.size (.cells #[str nm, .slice ad4 ars.length cap4, .bool an, .bool re, .bool co, str ou, .int .i64 st] 80))
                have c0d : (World.drew (w5.alloc (.cells #[str nm, .slice ad4 ars.length cap4, .bool an, .bool re, .bool co, str ou, .int .i64 st] 80))).cell? ⟨w1.heap.size + 1, 2, none⟩ = some (.slice adp Y'.length capp) := c0
                go_simp
                refine hK _ _ ?_
                clear hK K
                try simp only [Act.put, List.getElem_toArray, List.getElem_cons_succ, List.getElem_cons_zero, List.setIfInBounds_toArray, List.set_cons_zero, List.set_cons_succ]
                have hb6 : Below ws.heap.size ws ((World.drew w5).alloc (.cells #[str nm, .slice ad4 ars.length cap4, .bool an, .bool re, .bool co, str ou, .int .i64 st] 80)) := hb5.alloc hb5.size _
                refine wpAny_ready (rs := [7]) (by kernel_rfl) (by simp) ?_
                refine AllReady.cons rfl (fun K hK => ?_) ?_
                · refine step_append _ _ 25 rfl 0 80 i0 _ 7 72 Tryz.underlying25 hi hz0 hz1 hz2 rfl (by decide) (.slice adp Y'.length capp) Y'.length (rwCs Y') rfl (HKS.out _ hb6).rr ⟨w5.heap.size, 0, none⟩ 1 1 (rwC ⟨nm, ars, an, re, co, ou, st⟩ (.slice ad4 ars.length cap4)) rfl rfl (cells_new (World.drew w5) _ 80) (rwC_one _ _ _) (by have := maxLen_big; omega) (by omega) (Nat.zero_le _) ?_
                  intro v7 w7 hown7 hgrow7 _ hat7
                  refine hK _ _ ?_
                  clear hK K
                  try simp only [Act.put, List.getElem_toArray, List.getElem_cons_succ, List.getElem_cons_zero, List.setIfInBounds_toArray, List.set_cons_zero, List.set_cons_succ]
                  obtain ⟨ad7, cap7, rfl⟩ := owns_slice hown7
                  have NT : Hid _ := Kern.rowed (HKS.out _ hb6) (Kl := fun i => ws.heap.size ≤ i) (r := ⟨nm, ars, an, re, co, ou, st⟩) ⟨owns_turn (W := World.drew w5) (owns_lower HO4.out (Nat.zero_le _)) (Turn.ofBelow (S := fun _ => False) (below_new (World.drew w5) (.cells #[str nm, .slice ad4 ars.length cap4, .bool an, .bool re, .bool co, str ou, .int .i64 st] 80))) (fun _ _ h => h), fun b hb => (HO4.out.lt b hb).1⟩ hown7 hgrow7 (hat7.imp id (fun h => ⟨_, h, Nat.le_refl _⟩))
                  have c7 := NT.out.1
                  have f7 := NT.out.2.1
                  refine wpAny_take (i := 8) (v := .pointer (some ⟨w1.heap.size + 1, 0, none⟩)) rfl (by kernel_rfl) (by kernel_rfl) (by kernel_rfl) (fun _ _ _ h => h) (Or.inl ⟨by rfl, by intro wz; go_simp⟩) ?_
                  try simp only [Act.put, List.getElem_toArray, List.getElem_cons_succ, List.getElem_cons_zero, List.setIfInBounds_toArray, List.set_cons_zero, List.set_cons_succ]
                  refine wpAny_take (i := 9) (v := .pointer (some ⟨w1.heap.size + 1, 2, none⟩)) rfl (by kernel_rfl) (by kernel_rfl) (by kernel_rfl) (fun _ _ _ h => h) (Or.inl ⟨by rfl, by intro wz; go_simp⟩) ?_
                  try simp only [Act.put, List.getElem_toArray, List.getElem_cons_succ, List.getElem_cons_zero, List.setIfInBounds_toArray, List.set_cons_zero, List.set_cons_succ]
                  refine wpAny_ready (rs := [10]) (by kernel_rfl) (by simp) ?_
                  refine AllReady.cons rfl (fun K hK => ?_) ?_
                  · go_simp
                    refine hK _ _ ?_
                    clear hK K
                    try simp only [Act.put, List.getElem_toArray, List.getElem_cons_succ, List.getElem_cons_zero, List.setIfInBounds_toArray, List.set_cons_zero, List.set_cons_succ]
                    refine wpAny_done (by kernel_rfl) ?_ _
                    go_wp2_with fail
                    obtain ⟨K', n1, n2, n3⟩ := NT.out.2.2
                    have hKK : ∀ i, K' i → W.heap.size ≤ i := fun i hi => by
                      rcases n3 i hi with h | ⟨b, hb, rfl⟩ | h
                      · exact HY.out.2.2 i h
                      · exact Nat.le_trans hbs.size (HO4.out.lt i hb).1
                      · exact Nat.le_trans hbs.size (Nat.le_trans hb6.size h)
                    refine ⟨⟨k + 1, Y' ++ [(⟨nm, ars, an, re, co, ou, st⟩, .slice ad4 ars.length cap4)], _, K', by simp, by omega, ⟨n1, ?_, hKK⟩, (hbs.trans (hb6.mono hbs.size)).trans (n2.below HY.out.2.2 (Nat.le_trans hbs.size hb6.size))⟩, by simp [intOf]; omega⟩
                    rw [HQ.out, List.map_append, HY.out.2.1]
                    rfl
                  exact AllReady.nil
                exact AllReady.nil
              exact AllReady.nil
            exact AllReady.nil
          exact AllReady.nil
        · have hkz : k = Y.length := by omega
          subst hkz
          go_wp2_with fail
          go_ret2
          refine ⟨w1.heap.size + 1, w1.heap.size, _, Y', K, rfl, HY.out.1, ?_, HY.out.2.2, hbs⟩
          rw [HY.out.2.1, List.take_of_length_le (by rw [List.length_map]; exact Nat.le_refl _)]
end Go.Proofs.YtfafhjglcaikoaaGreatDoor
