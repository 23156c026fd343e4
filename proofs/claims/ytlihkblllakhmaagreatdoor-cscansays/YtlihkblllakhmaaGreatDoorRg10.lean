/- The document's scanner: a bare word. -/
import Derived.Test.YtlihkblllakhmaaGreatDoorRg9
import Derived.Test.YtlihkblllakhmaaGreatDoorPureF
namespace Go.Proofs.YtlihkblllakhmaaGreatDoor
open Go.RowKit
attribute [local go_sem] Oper.semAt_some

theorem Lx.pos {W : World} {b : Nat} {s : ByteArray} {i : Nat} {c : Int} {av : Value} (h : Lx W b s i c av) : posOf W b = i := by
  unfold posOf
  rw [show W.cell? ⟨b, 1, none⟩ = some (.int .i64 (i : Nat)) from Cel.cell h 1]
  simp [intOf]
/-- The scanner's fault. -/
def codOf (W : World) (b : Nat) : Int := match W.cell? ⟨b, 2, none⟩ with
  | some v => intOf v
  | none => 0
theorem Lx.cod {W : World} {b : Nat} {s : ByteArray} {i : Nat} {c : Int} {av : Value} (h : Lx W b s i c av) : codOf W b = c := by
  have h2 : W.cell? ⟨b, 2, none⟩ = some (.int .i64 c) := Cel.cell h 2
  unfold codOf
  rw [h2]
  simp [intOf]
def mW (s : ByteArray) (b : Nat) (W : World) : Nat := if codOf W b = 0 then s.size + 2 - posOf W b else 0
theorem cel_ne {W : World} {g g' : Nat} {t t' : TypeId} {cs cs' : Array Value} (h : Cel W g t cs) (h' : Cel W g' t' cs') (hne : t ≠ t') : g ≠ g' := fun e => by
  subst e
  have := (show W.heap[g]? = _ from h).symm.trans h'
  simp only [Option.some.injEq, Obj.cells.injEq] at this
  exact hne this.2.1
/-- Within a word: parts so far, or a fault. -/
def WdR (W : World) (b : Nat) (s : ByteArray) (i : Nat) (av : Value) (e : List UInt8) (R : Except Er (List Pt × List UInt8)) (wr : World) : Prop :=
  Turn (fun g => g = b) W wr ∧ W.heap.size + 2 ≤ wr.heap.size ∧ Cel wr W.heap.size 48 zW ∧ ∃ (ad : Option Addr) (l cap : Nat), Cel wr (W.heap.size + 1) 48 #[.int .i64 (i : Nat), .bool false, .slice ad l cap] ∧
  ((∃ (q : Nat) (X : List Pt), l = X.length ∧ q ≤ s.size ∧ X.length ≤ q ∧ (∀ x ∈ X, x.s.length ≤ q) ∧ Lx wr b s q 0 av ∧ QtOwn wr (W.heap.size + 2) (.slice ad X.length cap) X ∧ R = docL s.size e (s.data.toList.drop q).length X (s.data.toList.drop q)) ∨
  (∃ (q : Nat) (x : Er) (fb : Nat), R = .error x ∧ Lx wr b s q (codE x.code) (.slice (some ⟨fb, 0, none⟩) 1 1) ∧ Cel wr fb 3 #[.int .i64 (x.pos : Nat)]))
theorem docL_step {N : Nat} {e : List UInt8} {X : List Pt} {s : ByteArray} {q : Nat} (hq : q < s.size) (he : e.contains s[q] = false) : docL N e (s.data.toList.drop q).length X (s.data.toList.drop q) = (match stepD N (s.data.toList.drop q) with
    | .error x => .error x
    | .ok (p, u) => docL N e u.length (joinP X p) u) := by
  have hd := drop_cons s q hq
  rw [hd, List.length_cons, docL, if_neg (by rw [he]; simp)]
  cases hst : stepD N (s[q] :: s.data.toList.drop (q + 1)) with
  | error x => rfl
  | ok r =>
    obtain ⟨p, u⟩ := r
    have := stepD_lt hst
    rw [List.length_cons] at this
    exact docL_fuel N e _ _ _ _ (by omega) (Nat.le_refl _)
theorem docL_end {N : Nat} {e : List UInt8} {X : List Pt} {l : List UInt8} (h : l = [] ∨ ∃ c t, l = c :: t ∧ e.contains c = true) : docL N e l.length X l = .ok (X, l) := by
  rcases h with rfl | ⟨c, t, rfl, h⟩
  · rfl
  · rw [List.length_cons, docL, if_pos h]
/-- A word made of its parts. -/
def asW (i : Nat) (R : Except Er (List Pt × List UInt8)) : Except Er (Wd × List UInt8) := match R with
  | .error x => .error x
  | .ok q => .ok (⟨i, false, q.1⟩, q.2)
theorem wordL_bare {N : Nat} {c : UInt8} {t : List UInt8} (h1 : c ≠ 123) (h2 : c ≠ 34) : wordL N (c :: t) = asW (N - (t.length + 1)) (docL N endS (c :: t).length [] (c :: t)) := by
  rw [wordL, if_neg (by simpa using h1), if_neg (by simpa using h2), doc_parts N endS _ (c :: t) _ (c :: t).length [] (Nat.le_refl _) (Nat.le_refl _) (Nat.le_refl _) (.inl rfl)]
  generalize partsL N endS (c :: t).length (c :: t) = r
  rcases r with x | ⟨ps, u⟩
  · rfl
  · rfl
set_option maxRecDepth 100000 in
set_option maxHeartbeats 8000000 in
theorem dw_bare {W : World} {b : Nat} {s : ByteArray} {i : Nat} {av : Value} (h : Lx W b s i 0 av) (hs : s.size ≤ 8192) (hi : i < s.size) (hc : s[i] ≠ 123) (hc2 : s[i] ≠ 34) :
    Calls Tryz.prog 24 #[.pointer (some ⟨b, 0, none⟩)] W fun e w' => ∃ v', e = .returned v' ∧ DWordV W b s av (wordL s.size (s.data.toList.drop i)) v' w' := by
  have l0 : W.cell? ⟨b, 0, none⟩ = some (.string s) := h.cell 0
  have l1 : W.cell? ⟨b, 1, none⟩ = some (.int .i64 (i : Nat)) := h.cell 1
  have hlb := h.lt
  have HL : Hid (Lx W b s i 0 av) := h
  obtain ⟨R, HR⟩ : ∃ R, Hid (R = docL s.size endS (s.data.toList.drop i).length [] (s.data.toList.drop i)) := ⟨_, rfl⟩
  have HRW : Hid (wordL s.size (s.data.toList.drop i) = asW i R) := by
    unfold Hid
    have hl := len_drop s (i + 1)
    rw [HR.out, drop_cons s i hi, wordL_bare hc hc2, show s.size - ((s.data.toList.drop (i + 1)).length + 1) = i by omega]
  rw [HRW.out]
  have q123 : (((s[i]).toNat : Int) == 123) = false := byte_ne s[i] 123 hc
  have q34 : (((s[i]).toNat : Int) == 34) = false := byte_ne s[i] 34 hc2
  have hi' : (i : Int) < (s.size : Int) := by omega
  clear h hc hc2 HRW
  go_enter Tryz.func24, Tryz.ntmps24
  go_wp2_with fail
  obtain ⟨W1, hW1⟩ : ∃ W1, W1 = ((W.alloc (.cells #[.int .i64 0, .bool false, .slice none 0 0] 48)).alloc (.cells #[.int .i64 (i : Nat), .bool false, .slice none 0 0] 48)) := ⟨_, rfl⟩
  have HW0 : Hid (WdR W b s i av endS R W1) := by
    rw [hW1]
    refine ⟨((Turn.refl _ W).alloc _).alloc _, by simp, (Cel.new W _ _).alloc _, none, 0, 0, Cel.new2 W _ _ _, .inl ⟨i, [], rfl, by omega, Nat.zero_le _, (fun x hx => by cases hx), (HL.out.alloc _).alloc _, QtOwn.nil _ _, HR.out⟩⟩
  rw [← hW1]
  clear hW1 HR HL l0 l1
  go_loopw [7] (fun _ wr => WdR W b s i av endS R wr) (fun _ wr => mW s b wr)
  case atStart => exact HW0.out
  case round =>
    clear HW0
    obtain ⟨hT, hzr, hQ, ad, l, cap, hP, hcase⟩ := hrel
    have HT : Hid (Turn (fun g => g = b) W wr) := hT
    have HQ : Hid (Cel wr W.heap.size 48 zW) := hQ
    have HP : Hid (Cel wr (W.heap.size + 1) 48 #[.int .i64 (i : Nat), .bool false, .slice ad l cap]) := hP
    have p0 : wr.cell? ⟨W.heap.size + 1, 0, none⟩ = some (.int .i64 (i : Nat)) := hP.cell 0
    have p1 : wr.cell? ⟨W.heap.size + 1, 1, none⟩ = some (.bool false) := hP.cell 1
    have p2 : wr.cell? ⟨W.heap.size + 1, 2, none⟩ = some (.slice ad l cap) := hP.cell 2
    have z0 : wr.cell? ⟨W.heap.size, 0, none⟩ = some (.int .i64 0) := HQ.out.cell 0
    have z1 : wr.cell? ⟨W.heap.size, 1, none⟩ = some (.bool false) := HQ.out.cell 1
    have z2 : wr.cell? ⟨W.heap.size, 2, none⟩ = some (.slice none 0 0) := HQ.out.cell 2
    have zf0 := HQ.out.frozen 0
    have zf1 := HQ.out.frozen 1
    have zf2 := HQ.out.frozen 2
    clear hT hQ hP
    rcases hcase with ⟨q, X, rfl, hq, hXl, hXs, hlx, hqo, hrr⟩ | ⟨q, x, fb, hrx, hlx, hcf⟩
    · have HLq : Hid (Lx wr b s q 0 av) := hlx
      have HOq : Hid (QtOwn wr (W.heap.size + 2) (.slice ad X.length cap) X) := hqo
      have HRq : Hid (R = docL s.size endS (s.data.toList.drop q).length X (s.data.toList.drop q)) := hrr
      have HXS : Hid (∀ x ∈ X, x.s.length ≤ q) := hXs
      have m0 : wr.cell? ⟨b, 0, none⟩ = some (.string s) := Cel.cell hlx 0
      have m1 : wr.cell? ⟨b, 1, none⟩ = some (.int .i64 (q : Nat)) := Cel.cell hlx 1
      have m2 : wr.cell? ⟨b, 2, none⟩ = some (.int .i64 0) := Cel.cell hlx 2
      have HMW : Hid (mW s b wr = s.size + 2 - q) := by unfold Hid mW; rw [HLq.out.cod, HLq.out.pos, if_pos rfl]
      clear hlx hqo hrr hXs
      by_cases hlq : q < s.size
      · have hlt' : (q : Int) < (s.size : Int) := by omega
        have hge : ¬ (s.size : Int) ≤ (q : Int) := by omega
        cases hwe : endS.contains s[q] with
        | true =>
          have HEN : Hid (∀ w, Calls Tryz.prog 41 #[.int .u8 ((s[q]).toNat : Nat)] w fun e w' => e = .returned (.bool true) ∧ w' = w) := fun w => by
            have := dends_any s[q] w
            rwa [hwe] at this
          have HRE : Hid (R = .ok (X, s.data.toList.drop q)) := by
            unfold Hid
            rw [HRq.out]
            exact docL_end (.inr ⟨_, _, drop_cons s q hlq, hwe⟩)
          clear hwe
          go_wp2_with fail
          go_region_held3 (fun w' => w'.cell? ⟨b, 0, none⟩ = some (.string s) ∧ w'.cell? ⟨b, 1, none⟩ = some (.int .i64 (q : Nat))) (go_keep) (fail)
          go_wp2_with fail
          go_region_held3 (fun w' => w'.cell? ⟨b, 0, none⟩ = some (.string s) ∧ w'.cell? ⟨b, 1, none⟩ = some (.int .i64 (q : Nat))) (go_keep) (fail)
          go_wp2_with fail
          refine Calls.mono (HEN.out _) ?_
          rintro e w1 ⟨rfl, hw⟩
          obtain rfl := hw.symm
          clear hw
          go_wp2_with fail
          refine bodyPost_ret (results_dword (p := 2) rfl _ _ W.heap.size _ rfl (HQ.out.drew.drew.put3 _ _ _) rfl) rfl ?_
          rw [HRE.out]
          exact ⟨_, rfl, turn_put3 HT.out.drew.drew (Nat.le_refl _) _ _ _, ⟨_, rfl, QtOwn.put_new (QtOwn.lower (show QtOwn wr.drew.drew _ _ _ from HOq.out) (by omega)) HQ.out.drew.drew _ _ _⟩, q, HLq.out.drew.drew.away3 (by omega) _ _ _, hq, rfl⟩
        | false =>
          have HEN : Hid (∀ w, Calls Tryz.prog 41 #[.int .u8 ((s[q]).toNat : Nat)] w fun e w' => e = .returned (.bool false) ∧ w' = w) := fun w => by
            have := dends_any s[q] w
            rwa [hwe] at this
          have HPA : Hid _ := dpart_any (W := wr.drew.drew) (B := W.heap.size + 2) HLq.out.drew.drew (show QtOwn wr.drew.drew _ _ _ from HOq.out) (by omega) hzr hs (by omega) (fun x hx => by have := HXS.out x hx; omega) hlq
          have hRS := docL_step (N := s.size) (e := endS) (X := X) hlq hwe
          rw [← HRq.out] at hRS
          cases hst : stepD s.size (s.data.toList.drop q) with
          | error xe =>
            rw [hst] at hRS HPA
            have HRE : Hid (R = .error xe) := hRS
            clear hst hRS hwe HRq
            go_wp2_with fail
            go_region_held3 (fun w' => w'.cell? ⟨b, 0, none⟩ = some (.string s) ∧ w'.cell? ⟨b, 1, none⟩ = some (.int .i64 (q : Nat))) (go_keep) (fail)
            go_wp2_with fail
            go_region_held3 (fun w' => w'.cell? ⟨b, 0, none⟩ = some (.string s) ∧ w'.cell? ⟨b, 1, none⟩ = some (.int .i64 (q : Nat))) (go_keep) (fail)
            go_wp2_with fail
            refine Calls.mono (HEN.out _) ?_
            rintro e w1 ⟨rfl, hw⟩
            obtain rfl := hw.symm
            clear hw
            go_wp2_with fail
            refine Calls.mono HPA.out ?_
            rintro e w5 ⟨v5, rfl, hT5, ⟨ad5, n5, cap5, rfl⟩, j5, fb5, f1, f2⟩
            have HT5 : Hid (Turn (fun g => g = b ∨ W.heap.size + 2 ≤ g) wr w5) := ⟨hT5.os, hT5.tape, hT5.output, hT5.size, hT5.block⟩
            have HP5 : Hid (Cel w5 (W.heap.size + 1) 48 #[.int .i64 (i : Nat), .bool false, .slice ad X.length cap]) := HP.out.turn HT5.out (by omega)
            have HQ5 : Hid (Cel w5 W.heap.size 48 zW) := HQ.out.turn HT5.out (by omega)
            have HF1 : Hid (Lx w5 b s j5 (codE xe.code) (.slice (some ⟨fb5, 0, none⟩) 1 1)) := f1
            have HF2 : Hid (Cel w5 fb5 3 #[.int .i64 (xe.pos : Nat)]) := f2
            have u2 : w5.cell? ⟨W.heap.size + 1, 2, none⟩ = some (.slice ad X.length cap) := HP5.out.cell 2
            have uf := HP5.out.frozen 2
            clear hT5 f1 f2 HPA HEN HLq HOq HP HQ
            go_wp2_with fail
            refine ⟨⟨?_, ?_, HQ5.out.other (by omega) _, ad5, n5, cap5, HP5.out.set (j := 2) (.slice ad5 n5 cap5), .inr ⟨j5, xe, fb5, HRE.out, HF1.out.other (by omega) _, HF2.out.other (cel_ne HF2.out HP5.out (by decide)) _⟩⟩, ?_⟩
            · exact (HT.out.trans HT5.out (fun k e hk => by omega)).setCell (p := ⟨W.heap.size + 1, 2, none⟩) (fun e => absurd e (by show ¬ W.heap.size + 1 < _; omega)) _
            · have := HT5.out.size
              simp
              omega
            · have hcx : ¬ codE xe.code = 0 := by unfold codE; split <;> decide
              rw [HMW.out]
              unfold mW
              rw [Lx.cod (HF1.out.other (by omega : b ≠ W.heap.size + 1) _), if_neg hcx]
              omega
          | ok r =>
            obtain ⟨pt, u⟩ := r
            rw [hst] at hRS HPA
            have HRE : Hid (R = docL s.size endS u.length (joinP X pt) u) := hRS
            have hsz := stepD_sz hst
            have hltu := stepD_lt hst
            rw [len_drop] at hsz hltu
            have hjl := joinP_len X pt
            have HJS : Hid (∀ x ∈ joinP X pt, x.s.length ≤ q + pt.s.length) := joinP_sz HXS.out (Nat.le_refl _)
            clear hst hRS hwe HRq
            go_wp2_with fail
            go_region_held3 (fun w' => w'.cell? ⟨b, 0, none⟩ = some (.string s) ∧ w'.cell? ⟨b, 1, none⟩ = some (.int .i64 (q : Nat))) (go_keep) (fail)
            go_wp2_with fail
            go_region_held3 (fun w' => w'.cell? ⟨b, 0, none⟩ = some (.string s) ∧ w'.cell? ⟨b, 1, none⟩ = some (.int .i64 (q : Nat))) (go_keep) (fail)
            go_wp2_with fail
            refine Calls.mono (HEN.out _) ?_
            rintro e w1 ⟨rfl, hw⟩
            obtain rfl := hw.symm
            clear hw
            go_wp2_with fail
            refine Calls.mono HPA.out ?_
            rintro e w5 ⟨v5, rfl, hT5, hO5, j5, f1, hj5, hu5⟩
            have HT5 : Hid (Turn (fun g => g = b ∨ W.heap.size + 2 ≤ g) wr w5) := ⟨hT5.os, hT5.tape, hT5.output, hT5.size, hT5.block⟩
            have HP5 : Hid (Cel w5 (W.heap.size + 1) 48 #[.int .i64 (i : Nat), .bool false, .slice ad X.length cap]) := HP.out.turn HT5.out (by omega)
            have HQ5 : Hid (Cel w5 W.heap.size 48 zW) := HQ.out.turn HT5.out (by omega)
            have HF1 : Hid (Lx w5 b s j5 0 av) := f1
            have HO5 : Hid (QtOwn w5 (W.heap.size + 2) v5 (joinP X pt)) := hO5
            obtain ⟨ad5, cap5, rfl⟩ := HO5.out.form
            have hul : u.length = s.size - j5 := by rw [show u = s.data.toList.drop j5 from hu5, len_drop]
            have HU5 : Hid (u = s.data.toList.drop j5) := hu5
            have u2 : w5.cell? ⟨W.heap.size + 1, 2, none⟩ = some (.slice ad X.length cap) := HP5.out.cell 2
            have uf := HP5.out.frozen 2
            clear hT5 f1 hO5 hu5 HPA HEN HLq HOq HP HQ
            go_wp2_with fail
            refine ⟨⟨?_, ?_, HQ5.out.other (by omega) _, ad5, (joinP X pt).length, cap5, HP5.out.set (j := 2) (.slice ad5 (joinP X pt).length cap5), .inl ⟨j5, joinP X pt, rfl, hj5, by omega, fun x hx => by have := HJS.out x hx; omega, HF1.out.other (by omega) _, ?_, ?_⟩⟩, ?_⟩
            · exact (HT.out.trans HT5.out (fun k e hk => by omega)).setCell (p := ⟨W.heap.size + 1, 2, none⟩) (fun e => absurd e (by show ¬ W.heap.size + 1 < _; omega)) _
            · have := HT5.out.size
              simp
              omega
            · exact QtOwn.turn (S := fun g => g = W.heap.size + 1) HO5.out (Turn.setCell (S := fun g => g = W.heap.size + 1) (p := ⟨W.heap.size + 1, 2, none⟩) (Turn.refl _ _) (fun _ => rfl) _) (fun _ e => by omega)
            · rw [HRE.out, ← HU5.out]
            · have hF := HF1.out.other (by omega : b ≠ W.heap.size + 1) (j := 2) (.slice ad5 (joinP X pt).length cap5)
              rw [HMW.out]
              unfold mW
              rw [Lx.cod hF, Lx.pos hF, if_pos rfl]
              omega
      · have hge : (s.size : Int) ≤ (q : Int) := by omega
        have HRE : Hid (R = .ok (X, s.data.toList.drop q)) := by
          unfold Hid
          rw [HRq.out]
          exact docL_end (.inl (drop_none s q hlq))
        go_wp2_with fail
        go_region_held3 (fun w' => w'.cell? ⟨b, 0, none⟩ = some (.string s) ∧ w'.cell? ⟨b, 1, none⟩ = some (.int .i64 (q : Nat))) (go_keep) (fail)
        go_wp2_with fail
        refine bodyPost_ret (results_dword (p := 2) rfl _ _ W.heap.size _ rfl (HQ.out.drew.put3 _ _ _) rfl) rfl ?_
        rw [HRE.out]
        exact ⟨_, rfl, turn_put3 HT.out.drew (Nat.le_refl _) _ _ _, ⟨_, rfl, QtOwn.put_new (QtOwn.lower (show QtOwn wr.drew _ _ _ from HOq.out) (by omega)) HQ.out.drew _ _ _⟩, q, HLq.out.drew.away3 (by omega) _ _ _, hq, rfl⟩
    · have hcx : (codE x.code == 0) = false := by unfold codE; split <;> rfl
      have m2 : wr.cell? ⟨b, 2, none⟩ = some (.int .i64 (codE x.code)) := Cel.cell hlx 2
      have HLq : Hid (Lx wr b s q (codE x.code) (.slice (some ⟨fb, 0, none⟩) 1 1)) := hlx
      have HFq : Hid (Cel wr fb 3 #[.int .i64 (x.pos : Nat)]) := hcf
      have HRE : Hid (R = .error x) := hrx
      clear hlx hcf hrx
      go_wp2_with fail
      refine bodyPost_ret (results_dword (p := 2) rfl _ _ W.heap.size _ rfl (HQ.out.put3 _ _ _) rfl) rfl ?_
      rw [HRE.out]
      have hnf := cel_ne HFq.out HQ.out (by decide)
      exact ⟨_, rfl, turn_put3 HT.out (Nat.le_refl _) _ _ _, ⟨_, _, _, _, _, rfl⟩, q, fb, HLq.out.away3 (by omega) _ _ _, HFq.out.away3 hnf _ _ _⟩
end Go.Proofs.YtlihkblllakhmaaGreatDoor
