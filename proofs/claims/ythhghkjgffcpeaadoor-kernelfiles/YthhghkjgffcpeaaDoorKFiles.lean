/- A file has what was written to it since it was opened anew. -/
import Derived.Test.YthhghkjgffcpeaaDoorFirst
import Derived.Laws.BitsLemmas
namespace Go.Proofs.YthhghkjgffcpeaaDoor
open Go.RowKit Go.Shelf

theorem i64_and1 (n : Int) : bits .and .i64 n 1 = n % 2 := by
  have h1 : (BitVec.ofInt 64 1).toNat = 2 ^ 1 - 1 := by decide
  have key : (BitVec.ofInt 64 n &&& BitVec.ofInt 64 1).toNat = (n % ((2 ^ 64 : Nat) : Int)).toNat % 2 ^ 1 := by
    rw [BitVec.toNat_and, BitVec.toNat_ofInt, h1, Nat.and_two_pow_sub_one_eq_mod]
  show IntKind.i64.wrap ((BitVec.ofInt 64 n &&& BitVec.ofInt 64 1).toNat : Nat) = n % 2
  rw [key, IntKind.wrap_i64]
  omega
/-- Things that a kernel is told, as far as they are read: kind, number, text. -/
abbrev Dt := Int × Int × Txt
def DoAt (W : World) (v : Value) (D : List Dt) : Prop :=
  (D = [] ∧ ∃ ad cap, v = .slice ad 0 cap) ∨
  ∃ g o cap, v = .slice (some ⟨g, o, none⟩) D.length cap ∧ g < W.heap.size ∧ ∀ (j : Nat) (p : Dt), D[j]? = some p → W.cell? ⟨g, o + j * 6, none⟩ = some (.int .i64 p.1) ∧ W.cell? ⟨g, o + j * 6 + 1, none⟩ = some (.int .i64 p.2.1) ∧ W.cell? ⟨g, o + j * 6 + 4, none⟩ = some (str p.2.2)
theorem DoAt.form {W : World} {v : Value} {D : List Dt} (h : DoAt W v D) : ∃ ad cap, v = .slice ad D.length cap := by
  rcases h with ⟨rfl, ad, cap, rfl⟩ | ⟨g, o, cap, rfl, _⟩
  · exact ⟨ad, cap, rfl⟩
  · exact ⟨_, cap, rfl⟩
theorem DoAt.below {W W' : World} {v : Value} {D : List Dt} {B : Nat} (h : DoAt W v D) (hb : Below B W W') (hB : W.heap.size ≤ B) : DoAt W' v D := by
  rcases h with h | ⟨g, o, cap, h1, h3, h4⟩
  · exact .inl h
  · refine .inr ⟨g, o, cap, h1, Nat.lt_of_lt_of_le h3 hb.size, fun j p hj => ?_⟩
    obtain ⟨c0, c1, c4⟩ := h4 j p hj
    have hg : g < B := Nat.lt_of_lt_of_le h3 hB
    exact ⟨(hb.cell (p := ⟨g, o + j * 6, none⟩) hg).trans c0, (hb.cell (p := ⟨g, o + j * 6 + 1, none⟩) hg).trans c1, (hb.cell (p := ⟨g, o + j * 6 + 4, none⟩) hg).trans c4⟩
theorem DoAt.at {W : World} {v : Value} {D : List Dt} (h : DoAt W v D) {j : Nat} {p : Dt} (hj : D[j]? = some p) : ∃ g o cap, v = .slice (some ⟨g, o, none⟩) D.length cap ∧ g < W.heap.size ∧ W.cell? ⟨g, o + j * 6, none⟩ = some (.int .i64 p.1) ∧ W.cell? ⟨g, o + j * 6 + 1, none⟩ = some (.int .i64 p.2.1) ∧ W.cell? ⟨g, o + j * 6 + 4, none⟩ = some (str p.2.2) := by
  rcases h with ⟨rfl, _⟩ | ⟨g, o, cap, h1, h3, h4⟩
  · simp at hj
  · exact ⟨g, o, cap, h1, h3, h4 j p hj⟩

def ab (w d : Txt) : Fls := [([97], w), ([98], d)]
theorem ab_all (d : Txt) : putAll [([97], d), ([98], d)] = ab d d := rfl
theorem ab_may (d : Txt) (h : d.length ≤ 1000) : mayR [([97], d), ([98], d)] [] = none := by
  have e1 : firstOf (fileAt [([97], d), ([98], d)]) 0 2 = none := by
    apply firstOf_none
    intro j hj
    have h2 : ¬ 16384 < d.length := by omega
    match j, hj with
    | 0, _ => simp [fileAt, fileR, noNm, longT, h2]
    | 1, _ => simp [fileAt, fileR, noNm, longT, h2]
  unfold mayR
  rw [show manyW [([97], d), ([98], d)] [] = false from rfl]
  simp only [List.length_cons, List.length_nil, Nat.zero_add, Nat.reduceAdd, Bool.false_eq_true, if_false, e1]
  rfl
theorem ab_dat (w d : Txt) : datF (ab w d) [97] = w := rfl
theorem ab_put (w d x : Txt) : putF (ab w d) [97] x = ab x d := rfl
theorem ab_o2 (w d : Txt) : openF (ab w d) [97] 2 = ab [] d := rfl
theorem ab_o3 (w d : Txt) : openF (ab w d) [97] 3 = ab w d := rfl
theorem ab_o1 (w d f : Txt) : openF (ab w d) f 1 = ab w d := rfl
theorem ab_w0 (w d : Txt) : writeF (ab w d) [97] [] = ab w d := rfl
theorem ab_w1 (w d t : Txt) (ht : t ≠ []) (h : t.length + w.length ≤ 16384) : writeF (ab w d) [97] t = ab (w ++ t) d ∧ writeB (ab w d) [97] t = true := by
  have e : t.isEmpty = false := by cases t <;> simp_all
  have e2 : writeB (ab w d) [97] t = true := by simp [writeB, ab_dat, e, h]
  refine ⟨?_, e2⟩
  unfold writeF
  rw [e2, e, ab_dat, ab_put]
  rfl
theorem ab_w2 (w d t : Txt) (h : ¬ t.length + w.length ≤ 16384) (ht : t ≠ []) : writeF (ab w d) [97] t = ab w d ∧ writeB (ab w d) [97] t = false := by
  have e : t.isEmpty = false := by cases t <;> simp_all
  have e2 : writeB (ab w d) [97] t = false := by
    unfold writeB
    rw [e, ab_dat, decide_eq_false h]
    rfl
  refine ⟨?_, e2⟩
  unfold writeF
  rw [e2]
  simp
theorem ab_sml (w d : Txt) (E : List Ev) (hw : w.length < 4294967296) (hd : d.length < 4294967296) (hE : E.length < 4294967296) (hl : ∀ e ∈ E, e.l = []) : Sml (ab w d) [] E := {
  f := by show 2 < 4294967296; omega
  fn := fun p hp => by
    simp [ab] at hp
    rcases hp with rfl | rfl
    · exact ⟨by show 1 < 4294967296; omega, hw⟩
    · exact ⟨by show 1 < 4294967296; omega, hd⟩
  r := by decide
  ra := fun r hr => by simp at hr
  e := hE
  el := fun e he => by rw [hl e he]; exact Nat.zero_lt_succ _ }
/-- Events of files: few, and without lists. -/
def Few (E : List Ev) (k : Nat) : Prop := E.length ≤ k ∧ ∀ e ∈ E, e.l = []
theorem Few.app {E E' : List Ev} {k : Nat} (h : Few E k) (h' : Few E' 1) : Few (E ++ E') (k + 1) := by
  refine ⟨by rw [List.length_append]; have := h.1; have := h'.1; omega, fun e he => ?_⟩
  rcases List.mem_append.1 he with he | he
  · exact h.2 e he
  · exact h'.2 e he
theorem few_open (F : Fls) (f : Txt) (m : Int) : Few (openE F f m) 1 := by
  unfold openE
  split
  · exact ⟨by simp, fun e he => by simp at he; subst he; rfl⟩
  · split
    · exact ⟨by simp, fun e he => by simp at he; subst he; rfl⟩
    · exact ⟨by simp, fun e he => by simp at he⟩
theorem few_write (F : Fls) (f d : Txt) : Few (writeE F f d) 1 := by
  unfold writeE
  split
  · exact ⟨by simp, fun e he => by simp at he⟩
  · exact ⟨by simp, fun e he => by simp at he; subst he; rfl⟩

set_option maxRecDepth 100000 in
set_option maxHeartbeats 8000000 in
theorem files_main (vd : Value) (D : List Dt) (d : Txt) (ea : Nat → Addr) (W : World) (hd : DoAt W vd D) (ht : ∀ p ∈ D, p.2.2.length ≤ 9223372036854775807) (hE : Ers W ea) :
    Calls Tryd.prog 5 #[vd, str d] W fun e w' => e = .returned (.bool true) ∧ Below W.heap.size W w' := by
  have HD : Hid (∀ W', Below W.heap.size W W' → DoAt W' vd D) := fun W' h => hd.below h (Nat.le_refl _)
  have HE : Hid (∀ W', Below W.heap.size W W' → Ers W' ea) := fun W' h => hE.below h (Nat.le_refl _)
  have HTT : Hid (∀ p ∈ D, p.2.2.length ≤ 9223372036854775807) := ht
  obtain ⟨add, capd, rfl⟩ := hd.form
  clear hd hE ht
  go_enter Tryd.func5, Tryd.ntmps5
  go_wp2_with fail
  refine (first_any ea W (HE.out _ (Below.refl _ _))).mono ?_
  rintro e w1 ⟨rfl, hb1⟩
  by_cases h40 : 40 < D.length
  · go_wp2_with fail
    go_ret
    exact ⟨rfl, hb1⟩
  have h40' : decide ((40 : Int) < (D.length : Int)) = false := decide_eq_false (by omega)
  by_cases h1000 : 1000 < d.length
  · go_wp2_with fail
    go_ret
    exact ⟨rfl, hb1⟩
  have h1000' : decide ((1000 : Int) < (d.length : Int)) = false := decide_eq_false (by omega)
  go_wp2_with fail
  have b2 := below_new w1 (.cells #[.string ⟨#[97]⟩, str d, .string ⟨#[98]⟩, str d] 73)
  have hb2 := hb1.trans (b2.mono hb1.size)
  refine (KW.new _ _ [([97], d), ([98], d)] [] ea _ (FlAt.two w1 ([97], d) ([98], d)) ⟨.inl ⟨rfl, none, 0, rfl⟩, fun p hp => by simp at hp⟩ (by decide) (fun p hp => by simp at hp; rcases hp with rfl | rfl <;> exact (by show 1 < 4294967296; omega)) (HE.out _ hb2) (ab_may d (by omega))).mono ?_
  rintro e w3 ⟨kb, rfl, K3, b3⟩
  rw [ab_all] at K3
  have hb3 := hb2.trans (b3.mono hb2.size)
  obtain ⟨B, hB⟩ : ∃ B, B = (w1.alloc (.cells #[.string ⟨#[97]⟩, str d, .string ⟨#[98]⟩, str d] 73)).heap.size := ⟨_, rfl⟩
  rw [← hB] at K3
  have hWB : W.heap.size ≤ B := by rw [hB]; exact hb2.size
  have hB3 : B ≤ w3.heap.size := by rw [hB]; exact b3.size
  have HK3 : Hid (KW w3 B kb (ab d d) [] []) := K3
  clear K3 b3 b2 hb2 hb1 hB h40' h1000'
  go_wp2_with fail
  go_loopw [8, 9] (fun v8 v9 wr => ∃ (k : Nat) (wt : Txt) (E : List Ev), v8 = str wt ∧ v9 = .int .i64 k ∧ k ≤ D.length ∧ wt.length ≤ 16384 ∧ Hid (KW wr B kb (ab wt d) [] E ∧ Few E k) ∧ B ≤ wr.heap.size ∧ Below W.heap.size W wr) (fun _ v9 _ => D.length - (intOf v9).toNat)
  case atStart => exact ⟨0, d, [], rfl, rfl, by omega, by omega, ⟨HK3.out, by simp, fun e he => by simp at he⟩, hB3, hb3⟩
  case round =>
    obtain ⟨k, wt, E, rfl, rfl, hk, hwt, HR, hBr, hbr⟩ := hrel
    have HSM : Hid (Sml (ab wt d) [] E) := ab_sml wt d E (by omega) (by omega) (by have := HR.out.2.1; omega) HR.out.2.2
    by_cases hkl : k < D.length
    · obtain ⟨p, hp⟩ : ∃ p, D[k]? = some p := ⟨_, List.getElem?_eq_getElem hkl⟩
      obtain ⟨g, o, cap', hv, hg, c0, c1, c4⟩ := (HD.out _ hbr).at hp
      cases hv
      have hpt := HTT.out p (List.mem_of_getElem? hp)
      obtain ⟨kd, n, t⟩ := p
      have HDC : Hid (∀ W', Below W.heap.size W W' → W'.cell? ⟨g, o + k * 6 + 1, none⟩ = some (.int .i64 n) ∧ W'.cell? ⟨g, o + k * 6 + 4, none⟩ = some (str t)) := fun W' h => by
        obtain ⟨g', o', cap'', hv', _, _, d1, d4⟩ := (HD.out _ h).at hp
        cases hv'
        exact ⟨d1, d4⟩
      have hki : (k : Int) < (D.length : Int) := by omega
      clear hp hg
      by_cases h300 : 300 < t.length
      · go_wp2_with fail
        go_ret
        exact ⟨rfl, hbr⟩
      have h300' : decide ((300 : Int) < (t.length : Int)) = false := decide_eq_false (by omega)
      by_cases h2 : kd = 2
      · subst h2
        have han := i64_and1 n
        have hn01 : n % 2 = 0 ∨ n % 2 = 1 := by omega
        rcases hn01 with hn | hn
        · rw [hn] at han
          go_wp2_with fail
          refine (KW.open [97] 2 HR.out.1 HSM.out hBr (by show 1 < 4294967296; omega)).mono ?_
          rintro e w4 ⟨rfl, K4, b4⟩
          rw [ab_o2] at K4
          have hb4 := hbr.trans (b4.mono hWB)
          have d1 := (HDC.out _ hb4).1
          have HK4 : Hid (KW w4 B kb (ab [] d) [] (E ++ openE (ab wt d) [97] 2) ∧ Few (E ++ openE (ab wt d) [97] 2) (k + 1)) := ⟨K4, HR.out.2.app (few_open _ _ _)⟩
          have hB4 : B ≤ w4.heap.size := Nat.le_trans hBr b4.size
          rw [show openB (ab wt d) [97] 2 = true from rfl]
          clear K4 b4 c0 c1 c4
          go_wp2_with fail
          exact ⟨⟨k + 1, [], _, rfl, by simp, by omega, by simp, HK4.out, hB4, hb4⟩, by simp [intOf]; omega⟩
        · rw [hn] at han
          go_wp2_with fail
          refine (KW.open [97] 3 HR.out.1 HSM.out hBr (by show 1 < 4294967296; omega)).mono ?_
          rintro e w4 ⟨rfl, K4, b4⟩
          rw [ab_o3] at K4
          have hb4 := hbr.trans (b4.mono hWB)
          have d1 := (HDC.out _ hb4).1
          have HK4 : Hid (KW w4 B kb (ab wt d) [] (E ++ openE (ab wt d) [97] 3) ∧ Few (E ++ openE (ab wt d) [97] 3) (k + 1)) := ⟨K4, HR.out.2.app (few_open _ _ _)⟩
          have hB4 : B ≤ w4.heap.size := Nat.le_trans hBr b4.size
          rw [show openB (ab wt d) [97] 3 = true from rfl]
          clear K4 b4 c0 c1 c4
          go_wp2_with fail
          exact ⟨⟨k + 1, wt, _, rfl, by simp, by omega, hwt, HK4.out, hB4, hb4⟩, by simp [intOf]; omega⟩
      · have h2' : (kd == 2) = false := by simpa using h2
        obtain ⟨w', b', hw', HWB⟩ : ∃ (w' : Txt) (b' : Bool), w' = (if b' then wt ++ t else wt) ∧ Hid (writeF (ab wt d) [97] t = ab w' d ∧ writeB (ab wt d) [97] t = b' ∧ w'.length ≤ 16384) := by
          by_cases ht : t = []
          · subst ht
            exact ⟨wt, true, by simp, ab_w0 wt d, rfl, hwt⟩
          · by_cases hfit : t.length + wt.length ≤ 16384
            · exact ⟨wt ++ t, true, rfl, (ab_w1 wt d t ht hfit).1, (ab_w1 wt d t ht hfit).2, by rw [List.length_append]; omega⟩
            · exact ⟨wt, false, rfl, (ab_w2 wt d t hfit ht).1, (ab_w2 wt d t hfit ht).2, hwt⟩
        go_wp2_with fail
        refine (KW.write [97] t (ea 0) HR.out.1 HSM.out hBr (by show 1 < 4294967296; omega) (by omega) (HE.out _ hbr 0 (by decide))).mono ?_
        rintro e w4 ⟨rfl, K4, b4⟩
        rw [HWB.out.1] at K4
        rw [HWB.out.2.1]
        have hb4 := hbr.trans (b4.mono hWB)
        have d4 := (HDC.out _ hb4).2
        have HK4 : Hid (KW w4 B kb (ab w' d) [] (E ++ writeE (ab wt d) [97] t) ∧ Few (E ++ writeE (ab wt d) [97] t) (k + 1)) := ⟨K4, HR.out.2.app (few_write _ _ _)⟩
        have hB4 : B ≤ w4.heap.size := Nat.le_trans hBr b4.size
        have hw'l := HWB.out.2.2
        clear K4 b4 c0 c1 c4
        cases b' with
        | true =>
          rw [if_pos rfl] at hw'
          rw [show errR true (ea 0) = .nilIface from rfl]
          go_wp2_with fail
          refine ⟨⟨k + 1, w', _, ?_, by simp, by omega, hw'l, HK4.out, hB4, hb4⟩, by simp [intOf]; omega⟩
          rw [hw', bytes_app]
        | false =>
          rw [if_neg Bool.false_ne_true] at hw'
          rw [show errR false (ea 0) = errV (ea 0) from rfl]
          go_wp2_with fail
          exact ⟨⟨k + 1, w', _, by rw [hw'], by simp, by omega, hw'l, HK4.out, hB4, hb4⟩, by simp [intOf]; omega⟩
    · have hkz : k = D.length := by omega
      subst hkz
      go_wp2_with fail
      refine (KW.open [97] 1 HR.out.1 HSM.out hBr (by show 1 < 4294967296; omega)).mono ?_
      rintro e w4 ⟨rfl, K4, b4⟩
      rw [ab_o1] at K4
      rw [show openD (ab wt d) [97] 1 = wt from rfl, show openB (ab wt d) [97] 1 = true from rfl]
      have HK4 : Hid (KW w4 B kb (ab wt d) [] (E ++ openE (ab wt d) [97] 1) ∧ Few (E ++ openE (ab wt d) [97] 1) (D.length + 1)) := ⟨K4, HR.out.2.app (few_open _ _ _)⟩
      have HS4 : Hid (Sml (ab wt d) [] (E ++ openE (ab wt d) [97] 1)) := ab_sml wt d _ (by omega) (by omega) (by have := HK4.out.2.1; omega) HK4.out.2.2
      have hB4 : B ≤ w4.heap.size := Nat.le_trans hBr b4.size
      have hb4 := hbr.trans (b4.mono hWB)
      clear K4 b4
      go_wp2_with fail
      refine (KW.open [98] 1 HK4.out.1 HS4.out hB4 (by show 1 < 4294967296; omega)).mono ?_
      rintro e w5 ⟨rfl, K5, b5⟩
      rw [ab_o1] at K5
      rw [show openD (ab wt d) [98] 1 = d from rfl, show openB (ab wt d) [98] 1 = true from rfl]
      have HK5 : Hid (KW w5 B kb (ab wt d) [] ((E ++ openE (ab wt d) [97] 1) ++ openE (ab wt d) [98] 1) ∧ Few ((E ++ openE (ab wt d) [97] 1) ++ openE (ab wt d) [98] 1) (D.length + 1 + 1)) := ⟨K5, HK4.out.2.app (few_open _ _ _)⟩
      have HS5 : Hid (Sml (ab wt d) [] ((E ++ openE (ab wt d) [97] 1) ++ openE (ab wt d) [98] 1)) := ab_sml wt d _ (by omega) (by omega) (by have := HK5.out.2.1; omega) HK5.out.2.2
      have hb5 := hb4.trans (b5.mono hWB)
      have hw2 : (wt == wt) = true := by simp
      have hd2 : (d == d) = true := by simp
      clear K5 b5
      go_wp2_with fail
      refine (KW.names HK5.out.1 HS5.out).mono ?_
      rintro e w6 ⟨v6, rfl, o6, b6⟩
      obtain ⟨ad6, cap6, rfl⟩ := owns_slice o6
      have hb6 := hb5.trans (b6.mono hb5.size)
      rw [show ((ab wt d).map Prod.fst).length = 2 from rfl]
      clear o6 b6
      go_wp2_with fail
      go_ret
      exact ⟨rfl, hb6⟩
end Go.Proofs.YthhghkjgffcpeaaDoor
