/- CscanBraces: braces stand in braces, brackets in brackets. -/
import Derived.Test.YtlihkblllakhmaaGreatDoorFirst
import Derived.Test.YtlihkblllakhmaaGreatDoorPureB
namespace Go.Proofs.YtlihkblllakhmaaGreatDoor
open Go.RowKit
attribute [local go_sem] Oper.semAt_some

theorem i64_and255 (n : Int) : bits .and .i64 n 255 = n % 256 := by
  have h8 : (BitVec.ofInt 64 255).toNat = 2 ^ 8 - 1 := by decide
  have key : (BitVec.ofInt 64 n &&& BitVec.ofInt 64 255).toNat = (n % ((2 ^ 64 : Nat) : Int)).toNat % 2 ^ 8 := by
    rw [BitVec.toNat_and, BitVec.toNat_ofInt, h8, Nat.and_two_pow_sub_one_eq_mod]
  show IntKind.i64.wrap ((BitVec.ofInt 64 n &&& BitVec.ofInt 64 255).toNat : Nat) = n % 256
  rw [key, IntKind.wrap_i64]
  omega
theorem and255 (n : Int) : ∃ j : Nat, j ≤ 255 ∧ bits .and .i64 n 255 = (j : Int) := by
  refine ⟨(n % 256).toNat, by omega, ?_⟩
  rw [i64_and255]
  omega
theorem cat_bytes (a b : List UInt8) : (⟨a.toArray⟩ ++ ⟨b.toArray⟩ : ByteArray) = ⟨(a ++ b).toArray⟩ := by
  apply ByteArray.ext
  simp
/-- So many of a sign. -/
def rep (k : Nat) (c : UInt8) : ByteArray := ⟨(List.replicate k c).toArray⟩
theorem rep_succ (k : Nat) (c : UInt8) : rep k c ++ ⟨#[c]⟩ = rep (k + 1) c := by
  rw [rep, show (⟨#[c]⟩ : ByteArray) = ⟨([c] : List UInt8).toArray⟩ from rfl, cat_bytes, rep, List.replicate_succ']
theorem rep_size (k : Nat) (c : UInt8) : (rep k c).size = k := by simp [rep, ByteArray.size]
theorem take_all (l : List UInt8) (i : Nat) (h : i < l.length) (h1 : (l.take i).all tame = true) (h2 : tame l[i] = true) : (l.take (i + 1)).all tame = true := by
  rw [List.take_add_one, List.all_append, h1, List.getElem?_eq_getElem h]
  simp [h2]
theorem z_braces (k : Nat) (s : ByteArray) : rep k 123 ++ s ++ rep k 125 = ⟨(inB k s.data.toList).toArray⟩ := by
  apply ByteArray.ext
  simp [rep, inB]
theorem z_brackets (k : Nat) (s : ByteArray) : rep k 91 ++ s ++ rep k 93 = ⟨(inK k s.data.toList).toArray⟩ := by
  apply ByteArray.ext
  simp [rep, inK]
theorem z_one (k : Nat) (s : ByteArray) : ⟨#[123]⟩ ++ rep k 123 ++ s ++ rep k 125 ++ ⟨#[125]⟩ = (⟨(123 :: (inB k s.data.toList ++ [125])).toArray⟩ : ByteArray) := by
  apply ByteArray.ext
  apply Array.toList_inj.1
  simp [rep, inB]
theorem z_two (k : Nat) (s : ByteArray) : ⟨#[91]⟩ ++ rep k 91 ++ s ++ rep k 93 ++ ⟨#[93]⟩ = (⟨(91 :: (inK k s.data.toList ++ [93])).toArray⟩ : ByteArray) := by
  apply ByteArray.ext
  apply Array.toList_inj.1
  simp [rep, inK]
theorem z_three (k : Nat) (s : ByteArray) : ⟨#[123]⟩ ++ rep k 123 ++ s ++ rep k 125 = (⟨(123 :: inB k s.data.toList).toArray⟩ : ByteArray) := by
  apply ByteArray.ext
  apply Array.toList_inj.1
  simp [rep, inB]
theorem z_four (k : Nat) (s : ByteArray) : ⟨#[120, 32, 91]⟩ ++ rep k 91 ++ s ++ rep k 93 = (⟨(120 :: 32 :: 91 :: inK k s.data.toList).toArray⟩ : ByteArray) := by
  apply ByteArray.ext
  apply Array.toList_inj.1
  simp [rep, inK]
/-- The only word of the only command. -/
theorem seenW (W : World) (v : Value) (K : List Mc) (n : Nat) (w : Wd) (h : CmsAt W v K) (hK : K.map toCm = [⟨n, [w]⟩]) : ∃ g o c g1 o1 c1 pa pc, v = .slice (some ⟨g, o, none⟩) 1 c ∧ W.cell? ⟨g, o + 1, none⟩ = some (.slice (some ⟨g1, o1, none⟩) 1 c1) ∧ W.cell? ⟨g1, o1, none⟩ = some (.int .i64 (w.pos : Nat)) ∧ W.cell? ⟨g1, o1 + 1, none⟩ = some (.bool w.braced) ∧ W.cell? ⟨g1, o1 + 2, none⟩ = some (.slice pa w.parts.length pc) ∧ PtOwn W 0 (.slice pa w.parts.length pc) w.parts := by
  obtain ⟨q1, rfl⟩ : ∃ q1, K = [q1] := List.length_eq_one_iff.1 (by simpa using congrArg List.length hK)
  simp [toCm] at hK
  obtain ⟨g, o, c, hv, _, _, _, x1, hw1⟩ := h.get (i := 0) (q := q1) rfl
  obtain ⟨_, av, e1⟩ := hK
  rw [e1] at hw1
  obtain ⟨g1, o1, c1, hv1, _, _, y0, y1, y2, hp⟩ := hw1.get (i := 0) (q := (av, w)) rfl
  obtain ⟨pa, pc, hpf⟩ := hp.form
  rw [hpf] at y2 hp
  rw [hv1] at x1
  exact ⟨g, o, c, g1, o1, c1, pa, pc, hv, x1, by simpa using y0, by simpa using y1, by simpa using y2, hp⟩
set_option maxRecDepth 100000 in
set_option maxHeartbeats 8000000 in
theorem braces_any (n : Int) (s : ByteArray) (W : World) (ea : Nat → Addr) (hE : Env W ea) (hW : (ea 64).block ≤ W.heap.size) :
    Calls Tryz.prog 6 #[.int .i64 n, .string s] W fun e w' => e = .returned (.bool true) ∧ Below W.heap.size W w' := by
  have HF : Hid _ := first_any W ea hE hW
  have HW : Hid ((ea 64).block ≤ W.heap.size) := hW
  have HE : Hid (Env W ea) := hE
  clear hE hW
  by_cases hs : 100 < s.size
  · have hs' : (100 : Int) < (s.size : Nat) := by omega
    go_enter Tryz.func6, Tryz.ntmps6
    go_wp2_with fail
    refine Calls.mono HF.out ?_
    rintro e w1 ⟨rfl, hb⟩
    have HB : Hid (Below W.heap.size W w1) := hb
    clear hb HF
    go_wp2_with fail
    go_ret
    exact ⟨rfl, HB.out⟩
  obtain ⟨k, hk, hbits⟩ := and255 n
  have hs1 : s.size ≤ 100 := by omega
  have HSL : Hid (s.data.toList.length ≤ 100) := by unfold Hid; rw [Array.length_toList]; exact hs1
  have hs' : ¬ ((100 : Int) < (s.size : Nat)) := by omega
  go_enter Tryz.func6, Tryz.ntmps6
  go_wp2_with fail
  refine Calls.mono HF.out ?_
  rintro e w1 ⟨rfl, hb⟩
  have HB : Hid (Below W.heap.size W w1) := hb
  have HE1 : Hid (Env w1 ea) := HE.out.below hb
  have HW1 : Hid ((ea 64).block ≤ w1.heap.size) := Nat.le_trans HW.out hb.size
  clear hb HF HE HW
  go_wp2_with fail
  go_loopw [6] (fun v6 wr => ∃ i : Nat, i ≤ s.size ∧ v6 = .int .i64 i ∧ w1 = wr ∧ Hid ((s.data.toList.take i).all tame = true)) (fun v6 _ => s.size - (intOf v6).toNat)
  case atStart => exact ⟨0, by omega, rfl, rfl, rfl⟩
  case round =>
    obtain ⟨i, hi, rfl, hwr, HT⟩ := hrel
    subst hwr
    by_cases hi4 : i = s.size
    · have HA : Hid (s.data.toList.all tame = true) := by
        have h := HT.out
        rw [List.take_of_length_le (by rw [hi4]; exact Nat.le_of_eq Array.length_toList)] at h
        exact h
      have hi5 : ¬ ((i : Int) < (s.size : Nat)) := by omega
      clear HT
      go_wp2_with fail
      go_loopw [7, 8, 9, 10, 11] (fun v7 v8 v9 v10 v11 wr => ∃ i : Nat, i ≤ k ∧ v11 = .int .i64 i ∧ v7 = .string (rep i 123) ∧ v8 = .string (rep i 125) ∧ v9 = .string (rep i 91) ∧ v10 = .string (rep i 93) ∧ w1 = wr) (fun _ _ _ _ v11 _ => k - (intOf v11).toNat)
      case atStart => exact ⟨0, by omega, rfl, rfl, rfl, rfl, rfl, rfl⟩
      case round =>
        obtain ⟨j, hj, rfl, rfl, rfl, rfl, rfl, hwr⟩ := hrel
        subst hwr
        have y1 := rep_size j 123
        have y2 := rep_size j 125
        have y3 := rep_size j 91
        have y4 := rep_size j 93
        by_cases hj4 : j = k
        · have hj5 : ¬ ((j : Int) < (k : Nat)) := by omega
          subst hj4
          have h1 := z_one j s
          have h2 := z_two j s
          have h3 := z_three j s
          have h4 := z_four j s
          have h5 := z_braces j s
          have h6 := z_brackets j s
          generalize rep j 123 = O at y1 h1 h3 h5 ⊢
          generalize rep j 125 = S at y2 h1 h3 h5 ⊢
          generalize rep j 91 = I at y3 h2 h4 h6 ⊢
          generalize rep j 93 = U at y4 h2 h4 h6 ⊢
          have H1 : Hid _ := h1
          have H2 : Hid _ := h2
          have H3 : Hid _ := h3
          have H4 : Hid _ := h4
          have H5 : Hid _ := h5
          have H6 : Hid _ := h6
          clear h1 h2 h3 h4 h5 h6
          have HL : Hid (∀ (l : List UInt8) (w : World), l.length ≤ 8192 → Below w1.heap.size w1 w → Calls Tryz.prog 8 #[.string ⟨l.toArray⟩] w fun e w' => ∃ v ev, e = .returned (.tuple #[v, ev]) ∧ ScanV w ea (scanL l) v ev w' ∧ Below w.heap.size w w') := fun l w hl hb => scan_any ⟨l.toArray⟩ w ea (HE1.out.below hb) (Nat.le_trans HW1.out hb.size) hl
          have hsl := HSL.out
          have LA := HL.out (123 :: (inB j s.data.toList ++ [125])) w1 (by simp only [inB, List.length_cons, List.length_append, List.length_replicate, List.length_nil]; omega) (Below.refl _ _)
          rw [scan_braces j _ HA.out] at LA
          have HLA : Hid _ := LA
          clear LA hsl
          go_wp2_with fail
          rw [H1.out]
          refine Calls.mono HLA.out ?_
          rintro e w2 ⟨v1, ev1, rfl, ⟨rfl, K1, hK1, hO1⟩, hb1⟩
          obtain ⟨g, o, c, g1, o1, c1, pa, pc, rfl, x1, x2, x3, x4, xp⟩ := seenW w2 v1 K1 0 _ (CmsAt.own hO1) hK1
          have HX : Hid (∀ w, Below w2.heap.size w2 w → w.cell? ⟨g, o + 1, none⟩ = some (.slice (some ⟨g1, o1, none⟩) 1 c1) ∧ w.cell? ⟨g1, o1, none⟩ = some (.int .i64 0) ∧ w.cell? ⟨g1, o1 + 1, none⟩ = some (.bool true) ∧ w.cell? ⟨g1, o1 + 2, none⟩ = some (.slice pa 1 pc) ∧ PtOwn w 0 (.slice pa 1 pc) [⟨1, 1, 0, inB j s.data.toList⟩]) := fun w hb => ⟨(hb.cell (World.block_lt_of_cell? w2 _ x1)).trans x1, (hb.cell (World.block_lt_of_cell? w2 _ x2)).trans x2, (hb.cell (World.block_lt_of_cell? w2 _ x3)).trans x3, (hb.cell (World.block_lt_of_cell? w2 _ x4)).trans x4, xp.below hb⟩
          have HB1 : Hid (Below w1.heap.size w1 w2) := hb1
          clear hO1 hb1 HLA x1 x2 x3 x4 xp hK1
          have hsl := HSL.out
          have LB := HL.out (91 :: (inK j s.data.toList ++ [93])) w2 (by simp only [inK, List.length_cons, List.length_append, List.length_replicate, List.length_nil]; omega) HB1.out
          rw [scan_brackets j _ HA.out] at LB
          have HLB : Hid _ := LB
          clear LB hsl
          go_wp2_with fail
          rw [H2.out]
          refine Calls.mono HLB.out ?_
          rintro e w3 ⟨v2, ev2, rfl, ⟨rfl, K2, hK2, hO2⟩, hb2⟩
          obtain ⟨g2, o2, c2, g3, o3, c3, pb, pd, rfl, y1, _, _, y4, yp⟩ := seenW w3 v2 K2 0 _ (CmsAt.own hO2) hK2
          obtain ⟨g4, o4, c4, hv4, _, _, z0, _, _, z3⟩ := (PtsAt.own yp).get (i := 0) (p := ⟨3, 0, 0, inK j s.data.toList⟩) rfl
          rw [hv4] at y4
          have HY : Hid (∀ w, Below w3.heap.size w3 w → w.cell? ⟨g2, o2 + 1, none⟩ = some (.slice (some ⟨g3, o3, none⟩) 1 c3) ∧ w.cell? ⟨g3, o3 + 2, none⟩ = some (.slice (some ⟨g4, o4, none⟩) 1 c4) ∧ w.cell? ⟨g4, o4, none⟩ = some (.int .i64 3) ∧ w.cell? ⟨g4, o4 + 3, none⟩ = some (str (inK j s.data.toList))) := fun w hb => ⟨(hb.cell (World.block_lt_of_cell? w3 _ y1)).trans y1, (hb.cell (World.block_lt_of_cell? w3 _ y4)).trans y4, (hb.cell (World.block_lt_of_cell? w3 _ z0)).trans (by simpa using z0), (hb.cell (World.block_lt_of_cell? w3 _ z3)).trans (by simpa using z3)⟩
          have HB12 : Hid (Below w2.heap.size w2 w3) := hb2
          have HB2 : Hid (Below w1.heap.size w1 w3) := HB1.out.trans (Below.mono hb2 HB1.out.size)
          clear hO2 hb2 HLB y1 y4 yp hv4 z0 z3 hK2
          have hsl := HSL.out
          have LC := HL.out (123 :: inB j s.data.toList) w3 (by simp only [inB, List.length_cons, List.length_append, List.length_replicate]; omega) HB2.out
          rw [scan_open j _ HA.out] at LC
          have HLC : Hid _ := LC
          clear LC hsl
          go_wp2_with fail
          rw [H3.out]
          refine Calls.mono HLC.out ?_
          rintro e w4 ⟨v3, ev3, rfl, ⟨rfl, q3, rfl, hx3⟩, hb3⟩
          have HX3 : Hid (Cel w4 q3 121 #[.int .i64 0, errV (ea (gOf 4))]) := hx3
          have HB23 : Hid (Below w3.heap.size w3 w4) := hb3
          have HB3 : Hid (Below w1.heap.size w1 w4) := HB2.out.trans (Below.mono hb3 HB2.out.size)
          clear hx3 hb3 HLC
          have hsl := HSL.out
          have LD := HL.out (120 :: 32 :: 91 :: inK j s.data.toList) w4 (by simp only [inK, List.length_cons, List.length_append, List.length_replicate]; omega) HB3.out
          rw [scan_into j _ HA.out] at LD
          have HLD : Hid _ := LD
          clear LD hsl
          go_wp2_with fail
          rw [H4.out]
          refine Calls.mono HLD.out ?_
          rintro e w5 ⟨v4, ev4, rfl, ⟨rfl, q4, rfl, hx4⟩, hb4⟩
          have HX4 : Hid (Cel w5 q4 121 #[.int .i64 2, errV (ea (gOf 1))]) := hx4
          have HB34 : Hid (Below w4.heap.size w4 w5) := hb4
          have HB4 : Hid (Below w1.heap.size w1 w5) := HB3.out.trans (Below.mono hb4 HB3.out.size)
          clear hx4 hb4 HLD
          have HB35 : Hid (Below w3.heap.size w3 w5) := HB23.out.trans (Below.mono HB34.out HB23.out.size)
          obtain ⟨a1, a2, a3, a4, ap⟩ := HX.out w5 (HB12.out.trans (Below.mono HB35.out HB12.out.size))
          have HT' : Hid _ := text_any (n := 0) (b := true) (pa := pa) (pc := pc) ap
          rw [show textL ⟨0, true, [⟨1, 1, 0, inB j s.data.toList⟩]⟩ = some (inB j s.data.toList) from rfl] at HT'
          unfold txtV at HT'
          clear ap
          go_wp2_with fail
          refine Calls.mono HT'.out ?_
          rintro e w6 ⟨rfl, hb5⟩
          have HB45 : Hid (Below w5.heap.size w5 w6) := hb5
          have HB5 : Hid (Below w1.heap.size w1 w6) := HB4.out.trans (Below.mono hb5 HB4.out.size)
          clear hb5 HT' a1 a2 a3 a4
          obtain ⟨b1, b2, b3, b4⟩ := HY.out w6 (HB35.out.trans (Below.mono HB45.out HB35.out.size))
          have h5 := H5.out
          have h6 := H6.out
          go_wp2_with fail
          refine (placed_any 105 0 (by decide) _).mono ?_
          rintro e w7 ⟨f7, rfl, hf7, _, hb7⟩
          have HB67 : Hid (Below w6.heap.size w6 w7) := hb7
          have HB7 : Hid (Below w1.heap.size w1 w7) := HB5.out.trans (Below.mono hb7 HB5.out.size)
          have hx7 : Cel w7 q3 121 #[.int .i64 0, errV (ea (gOf 4))] := by
            have h1 := (Cel.below HX3.out HB34.out (Cel.lt HX3.out))
            have h2 := h1.below HB45.out h1.lt
            exact h2.below hb7 h2.lt
          have HSA : Hid _ := same_any w7 ea (HE1.out.below HB7.out) 4 (by omega) (ea (gOf 4)) rfl q3 0 hx7 f7 hf7 105 rfl
          clear hf7 hb7 hx7 b1 b2 b3 b4 h5 h6
          go_wp2_with fail
          refine Calls.mono HSA.out ?_
          rintro e w8 ⟨rfl, hb8⟩
          have HB78 : Hid (Below w7.heap.size w7 w8) := hb8
          have HB8 : Hid (Below w1.heap.size w1 w8) := HB7.out.trans (Below.mono hb8 HB7.out.size)
          clear hb8 HSA
          go_wp2_with fail
          refine (placed_any 104 2 (by decide) _).mono ?_
          rintro e w9 ⟨f9, rfl, hf9, _, hb9⟩
          have HB9 : Hid (Below w1.heap.size w1 w9) := HB8.out.trans (Below.mono hb9 HB8.out.size)
          have hx9 : Cel w9 q4 121 #[.int .i64 2, errV (ea (gOf 1))] := by
            have h1 := (Cel.below HX4.out HB45.out (Cel.lt HX4.out))
            have h2 := h1.below HB67.out h1.lt
            have h3 := h2.below HB78.out h2.lt
            exact h3.below hb9 h3.lt
          have HSB : Hid _ := same_any w9 ea (HE1.out.below HB9.out) 3 (by omega) (ea (gOf 1)) rfl q4 2 hx9 f9 hf9 104 rfl
          clear hf9 hb9 hx9
          go_wp2_with fail
          refine Calls.mono HSB.out ?_
          rintro e w10 ⟨rfl, hb10⟩
          have HB10 : Hid (Below w1.heap.size w1 w10) := HB9.out.trans (Below.mono hb10 HB9.out.size)
          clear hb10 HSB
          go_wp2_with fail
          go_ret
          exact ⟨rfl, HB.out.trans (Below.mono HB10.out HB.out.size)⟩
        · have hj5 : (j : Int) < (k : Nat) := by omega
          go_wp2_with fail
          exact ⟨⟨j + 1, by omega, rfl, congrArg Value.string (rep_succ j 123), congrArg Value.string (rep_succ j 125), congrArg Value.string (rep_succ j 91), congrArg Value.string (rep_succ j 93), trivial⟩, by simp only [intOf]; omega⟩
    · have hi6 : i < s.size := by omega
      have hi5 : (i : Int) < (s.size : Nat) := by omega
      have hlen : i < s.data.toList.length := by rw [Array.length_toList]; show i < s.size; omega
      obtain ⟨x, hx⟩ : ∃ x, x = s.data.toList[i] := ⟨_, rfl⟩
      have hb8 : s[i]'hi6 = x := by rw [hx]; rfl
      have HN := take_all s.data.toList i hlen HT.out
      rw [← hx] at HN
      have HN' : Hid (tame x = true → (s.data.toList.take (i + 1)).all tame = true) := HN
      clear HN hx HT
      by_cases e1 : x = 123
      · subst e1
        go_wp2_with fail
        go_ret
        exact ⟨rfl, HB.out⟩
      by_cases e2 : x = 125
      · subst e2
        go_wp2_with fail
        go_ret
        exact ⟨rfl, HB.out⟩
      by_cases e3 : x = 91
      · subst e3
        go_wp2_with fail
        go_ret
        exact ⟨rfl, HB.out⟩
      by_cases e4 : x = 93
      · subst e4
        go_wp2_with fail
        go_ret
        exact ⟨rfl, HB.out⟩
      by_cases e5 : x = 92
      · subst e5
        go_wp2_with fail
        go_ret
        exact ⟨rfl, HB.out⟩
      have HM : Hid ((s.data.toList.take (i + 1)).all tame = true) := HN'.out ((tame_iff x).2 ⟨e1, e2, e3, e4, e5⟩)
      have f1 : ¬ ((x.toNat : Int) = 123) := fun e => e1 (UInt8.toNat_inj.1 (by show x.toNat = 123; omega))
      have f2 : ¬ ((x.toNat : Int) = 125) := fun e => e2 (UInt8.toNat_inj.1 (by show x.toNat = 125; omega))
      have f3 : ¬ ((x.toNat : Int) = 91) := fun e => e3 (UInt8.toNat_inj.1 (by show x.toNat = 91; omega))
      have f4 : ¬ ((x.toNat : Int) = 93) := fun e => e4 (UInt8.toNat_inj.1 (by show x.toNat = 93; omega))
      have f5 : ¬ ((x.toNat : Int) = 92) := fun e => e5 (UInt8.toNat_inj.1 (by show x.toNat = 92; omega))
      have g1 : ((x.toNat : Int) == 123) = false := by simp [f1]
      have g2 : ((x.toNat : Int) == 125) = false := by simp [f2]
      have g3 : ((x.toNat : Int) == 91) = false := by simp [f3]
      have g4 : ((x.toNat : Int) == 93) = false := by simp [f4]
      have g5 : ((x.toNat : Int) == 92) = false := by simp [f5]
      clear HN' e1 e2 e3 e4 e5
      go_wp2_with fail
      exact ⟨⟨i + 1, by omega, rfl, trivial, HM⟩, by simp only [intOf]; omega⟩
end Go.Proofs.YtlihkblllakhmaaGreatDoor
