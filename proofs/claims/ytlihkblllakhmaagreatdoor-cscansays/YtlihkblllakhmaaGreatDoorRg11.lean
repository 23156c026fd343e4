/- The document's scanner: a word between double quotes. -/
import Derived.Test.YtlihkblllakhmaaGreatDoorRg10
namespace Go.Proofs.YtlihkblllakhmaaGreatDoor
open Go.RowKit
attribute [local go_sem] Oper.semAt_some

/-- A quoted word made of its parts. -/
def asQ (N i : Nat) (R : Except Er (List Pt × List UInt8)) : Except Er (Wd × List UInt8) := match R with
  | .error x => .error x
  | .ok (_, []) => .error ⟨2, i⟩
  | .ok (ps, _ :: u) => closedL N ⟨i, false, if ps.isEmpty then [⟨1, i, 0, []⟩] else ps⟩ u
theorem wordL_quo {N : Nat} {t : List UInt8} : wordL N (34 :: t) = asQ N (N - (t.length + 1)) (docL N [34] t.length [] t) := by
  rw [wordL, if_neg (by simp), if_pos (show (34 :: t).head? = some 34 from rfl), doc_parts N [34] _ t t.length (34 :: t).length [] (Nat.le_refl _) (Nat.le_refl _) (by simp) (.inl rfl)]
  simp only [List.tail_cons]
  generalize partsL N [34] (34 :: t).length t = r
  rcases r with x | ⟨ps, _ | ⟨c, u⟩⟩
  · rfl
  · rfl
  · rfl
set_option maxRecDepth 100000 in
set_option maxHeartbeats 16000000 in
theorem dw_quoted {W : World} {b : Nat} {s : ByteArray} {i : Nat} {av : Value} (h : Lx W b s i 0 av) (hs : s.size ≤ 8192) (hi : i < s.size) (hc : s[i] = 34) :
    Calls Tryz.prog 24 #[.pointer (some ⟨b, 0, none⟩)] W fun e w' => ∃ v', e = .returned v' ∧ DWordV W b s av (wordL s.size (s.data.toList.drop i)) v' w' := by
  have l0 : W.cell? ⟨b, 0, none⟩ = some (.string s) := h.cell 0
  have l1 : W.cell? ⟨b, 1, none⟩ = some (.int .i64 (i : Nat)) := h.cell 1
  have lf := h.frozen 1
  have hlb := h.lt
  have HL : Hid (Lx W b s i 0 av) := h
  obtain ⟨R, HR⟩ : ∃ R, Hid (R = docL s.size [34] (s.data.toList.drop (i + 1)).length [] (s.data.toList.drop (i + 1))) := ⟨_, rfl⟩
  have HRW : Hid (wordL s.size (s.data.toList.drop i) = asQ s.size i R) := by
    unfold Hid
    have hl := len_drop s (i + 1)
    rw [HR.out, drop_cons s i hi, hc, wordL_quo, show s.size - ((s.data.toList.drop (i + 1)).length + 1) = i by omega]
  rw [HRW.out]
  have q123 : (((s[i]).toNat : Int) == 123) = false := by rw [hc]; rfl
  have q34 : (((s[i]).toNat : Int) == 34) = true := by rw [hc]; rfl
  have hi' : (i : Int) < (s.size : Int) := by omega
  have hnb : ¬ b = W.heap.size := by omega
  have hnb2 : ¬ b = W.heap.size + 1 := by omega
  clear h hc HRW
  go_enter Tryz.func24, Tryz.ntmps24
  go_wp2_with fail
  obtain ⟨W1, hW1⟩ : ∃ W1, W1 = (((W.setCell ⟨b, 1, none⟩ (.int .i64 ((i : Int) + 1))).alloc (.cells #[.int .i64 0, .bool false, .slice none 0 0] 48)).alloc (.cells #[.int .i64 (i : Nat), .bool false, .slice none 0 0] 48)) := ⟨_, rfl⟩
  have HW0 : Hid (WdR W b s i av [34] R W1) := by
    rw [hW1]
    have HX : Hid (∃ X, X = W.setCell ⟨b, 1, none⟩ (.int .i64 ((i : Int) + 1)) ∧ X.heap.size = W.heap.size ∧ Lx X b s (i + 1) 0 av ∧ Turn (fun g => g = b) W X) := ⟨_, rfl, by simp, Lx.move HL.out (by simp), Turn.move W _⟩
    obtain ⟨X, hX, hz, hL, hT⟩ := HX.out
    rw [← hX]
    have hc1 := (Cel.new X 48 #[.int .i64 0, .bool false, .slice none 0 0]).alloc (.cells #[.int .i64 (i : Nat), .bool false, .slice none 0 0] 48)
    have hc2 := Cel.new2 X (.cells #[.int .i64 0, .bool false, .slice none 0 0] 48) 48 #[.int .i64 (i : Nat), .bool false, .slice none 0 0]
    rw [hz] at hc1 hc2
    exact ⟨(hT.alloc _).alloc _, by simp; omega, hc1, none, 0, 0, hc2, .inl ⟨i + 1, [], rfl, by omega, Nat.zero_le _, (fun x hx => by cases hx), (hL.alloc _).alloc _, QtOwn.nil _ _, HR.out⟩⟩
  rw [← hW1]
  clear hW1 HR HL l0 l1 lf
  go_loopw [7] (fun _ wr => WdR W b s i av [34] R wr) (fun _ wr => mW s b wr)
  case atStart => exact HW0.out
  case round =>
    clear HW0
    obtain ⟨hT, hzr, hQ, ad, l, cap, hP, hcase⟩ := hrel
    have HTw : Hid (Turn (fun g => g = b) W wr) := hT
    have HQw : Hid (Cel wr W.heap.size 48 zW) := hQ
    have HPw : Hid (Cel wr (W.heap.size + 1) 48 #[.int .i64 (i : Nat), .bool false, .slice ad l cap]) := hP
    clear hT hQ hP
    rcases hcase with ⟨q, X, rfl, hq, hXl, hXs, hlx, hqo, hrr⟩ | ⟨q, x, fb, hrx, hlx, hcf⟩
    · have HLq : Hid (Lx wr b s q 0 av) := hlx
      have HOq : Hid (QtOwn wr (W.heap.size + 2) (.slice ad X.length cap) X) := hqo
      have HRq : Hid (R = docL s.size [34] (s.data.toList.drop q).length X (s.data.toList.drop q)) := hrr
      have HXS : Hid (∀ x ∈ X, x.s.length ≤ q) := hXs
      have m0 : wr.cell? ⟨b, 0, none⟩ = some (.string s) := Cel.cell hlx 0
      have m1 : wr.cell? ⟨b, 1, none⟩ = some (.int .i64 (q : Nat)) := Cel.cell hlx 1
      have m2 : wr.cell? ⟨b, 2, none⟩ = some (.int .i64 0) := Cel.cell hlx 2
      have HMW : Hid (mW s b wr = s.size + 2 - q) := by unfold Hid mW; rw [HLq.out.cod, HLq.out.pos, if_pos rfl]
      clear hlx hqo hrr hXs
      by_cases hlq : q < s.size
      · have hlt' : (q : Int) < (s.size : Int) := by omega
        have hge : ¬ (s.size : Int) ≤ (q : Int) := by omega
        by_cases hwe : s[q] = 34
        · have hdq := drop_cons s q hlq
          rw [hwe] at hdq
          have HRQ : Hid (R = .ok (X, 34 :: s.data.toList.drop (q + 1))) := by
            unfold Hid
            rw [HRq.out, docL_end (.inr ⟨_, _, hdq, rfl⟩), hdq]
          have q34q : (((s[q]).toNat : Int) == 34) = true := by rw [hwe]; rfl
          have mf := HLq.out.frozen 1
          clear hwe hdq
          have hnr1 : ¬ W.heap.size = b := by omega
          have hnr2 : ¬ W.heap.size + 1 = b := by omega
          go_wp2_with fail
          go_region_held3 (fun w' => w'.cell? ⟨b, 0, none⟩ = some (.string s) ∧ w'.cell? ⟨b, 1, none⟩ = some (.int .i64 (q : Nat))) (go_keep) (fail)
          go_wp2_with fail
          go_region_held3 (fun w' => w'.cell? ⟨b, 0, none⟩ = some (.string s) ∧ w'.cell? ⟨b, 1, none⟩ = some (.int .i64 (q : Nat))) (go_keep) (fail)
          go_wp2_with fail
          obtain ⟨wx, hwx⟩ : ∃ wx, wx = (wr.setCell ⟨b, 1, none⟩ (.int .i64 ((q : Int) + 1))).drew.drew := ⟨_, rfl⟩
          have HQx : Hid (Cel wx W.heap.size 48 zW) := by rw [hwx]; exact (HQw.out.other hnr1 _).drew.drew
          have HPx : Hid (Cel wx (W.heap.size + 1) 48 #[.int .i64 (i : Nat), .bool false, .slice ad X.length cap]) := by rw [hwx]; exact (HPw.out.other hnr2 _).drew.drew
          have HLx : Hid (Lx wx b s (q + 1) 0 av) := by rw [hwx]; exact (Lx.move (j := q) HLq.out (by simp)).drew.drew
          have HTx : Hid (Turn (fun g => g = b) W wx) := by rw [hwx]; exact (Turn.setCell (p := ⟨b, 1, none⟩) HTw.out (fun _ => rfl) _).drew.drew
          have HOx : Hid (QtOwn wx (W.heap.size + 2) (.slice ad X.length cap) X) := by rw [hwx]; exact QtOwn.turn (S := fun g => g = b) HOq.out ((Turn.move (b := b) _ _).drew.drew) (fun _ e => by omega)
          have hzx : W.heap.size + 2 ≤ wx.heap.size := by rw [hwx]; simp; omega
          rw [← hwx]
          clear hwx HQw HPw HTw HLq HOq m0 m1 m2
          by_cases hn : q + 1 < s.size
          · cases hqe : endS.contains s[q + 1] with
            | true =>
              have HRE : Hid (asQ s.size i R = .ok (⟨i, false, if X.isEmpty then [⟨1, i, 0, []⟩] else X⟩, s.data.toList.drop (q + 1))) := by
                unfold Hid
                rw [HRQ.out]
                unfold asQ
                simp only
                rw [drop_cons s (q + 1) hn, closedL, if_pos hqe]
              refine Calls.mono (behind_yes HLx.out hs hn hqe) ?_
              rintro e w5 ⟨rfl, m, hw5⟩
              have HQw : Hid (Cel w5 W.heap.size 48 zW) := by rw [hw5]; exact HQx.out
              have HPw : Hid (Cel w5 (W.heap.size + 1) 48 #[.int .i64 (i : Nat), .bool false, .slice ad X.length cap]) := by rw [hw5]; exact HPx.out
              have HLw : Hid (Lx w5 b s (q + 1) 0 av) := by rw [hw5]; exact HLx.out
              have HTw : Hid (Turn (fun g => g = b) W w5) := by rw [hw5]; exact ⟨HTx.out.os, HTx.out.tape, HTx.out.output, HTx.out.size, HTx.out.block⟩
              have HOw : Hid (QtOwn w5 (W.heap.size + 2) (.slice ad X.length cap) X) := by rw [hw5]; exact HOx.out
              have hzw : W.heap.size + 2 ≤ w5.heap.size := by rw [hw5]; exact hzx
              clear hw5 HQx HPx HLx HTx HOx hzx
              have p0 : w5.cell? ⟨W.heap.size + 1, 0, none⟩ = some (.int .i64 (i : Nat)) := HPw.out.cell 0
              have p1 : w5.cell? ⟨W.heap.size + 1, 1, none⟩ = some (.bool false) := HPw.out.cell 1
              have p2 : w5.cell? ⟨W.heap.size + 1, 2, none⟩ = some (.slice ad X.length cap) := HPw.out.cell 2
              have pf2 := HPw.out.frozen 2
              have z0 : w5.cell? ⟨W.heap.size, 0, none⟩ = some (.int .i64 0) := HQw.out.cell 0
              have z1 : w5.cell? ⟨W.heap.size, 1, none⟩ = some (.bool false) := HQw.out.cell 1
              have z2 : w5.cell? ⟨W.heap.size, 2, none⟩ = some (.slice none 0 0) := HQw.out.cell 2
              have zf0 := HQw.out.frozen 0
              have zf1 := HQw.out.frozen 1
              have zf2 := HQw.out.frozen 2
              by_cases hl0 : X.length = 0
              · have hl1 : ((X.length : Int) == 0) = true := by rw [hl0]; rfl
                have hl2 : (X.length : Int) = 0 := by omega
                have ht1 : ¬ W.heap.size + 1 = w5.heap.size := by omega
                have ht2 : ¬ w5.heap.size = W.heap.size + 1 := by omega
                have ht3 : W.heap.size + 1 < w5.heap.size := by omega
                go_upto_region 28 with fail
                obtain ⟨Wt, hWt⟩ : ∃ Wt, Wt = (w5.setCell ⟨W.heap.size + 1, 2, none⟩ (.slice (some ⟨w5.heap.size, 0, none⟩) 1 1)).alloc (.cells #[.int .i64 1, .int .i64 (i : Nat), .int .i64 0, .string ⟨#[]⟩] 81) := ⟨_, rfl⟩
                have HQt : Hid (Cel Wt W.heap.size 48 zW) := by rw [hWt]; exact (HQw.out.other (by omega) _).alloc _
                have HPt : Hid (Cel Wt (W.heap.size + 1) 48 #[.int .i64 (i : Nat), .bool false, .slice (some ⟨w5.heap.size, 0, none⟩) 1 1]) := by rw [hWt]; exact (HPw.out.set (j := 2) (.slice (some ⟨w5.heap.size, 0, none⟩) 1 1)).alloc _
                have HTt : Hid (Turn (fun g => g = b) W Wt) := by rw [hWt]; exact (HTw.out.setCell (p := ⟨W.heap.size + 1, 2, none⟩) (fun e => absurd e (by show ¬ W.heap.size + 1 < _; omega)) _).alloc _
                have HLt := (HLw.out.other (by omega : b ≠ W.heap.size + 1) (j := 2) (.slice (some ⟨w5.heap.size, 0, none⟩) 1 1)).alloc (.cells #[.int .i64 1, .int .i64 (i : Nat), .int .i64 0, .string ⟨#[]⟩] 81)
                rw [← hWt] at HLt
                have HLt : Hid _ := HLt
                have HOt : Hid (QtOwn Wt W.heap.size (.slice (some ⟨w5.heap.size, 0, none⟩) 1 1) [⟨1, i, 0, []⟩]) := by
                  rw [hWt]
                  have e := QtOwn.one (w5.setCell ⟨W.heap.size + 1, 2, none⟩ (.slice (some ⟨w5.heap.size, 0, none⟩) 1 1)) W.heap.size ⟨1, i, 0, []⟩ (by simp; omega)
                  rw [show (w5.setCell ⟨W.heap.size + 1, 2, none⟩ (.slice (some ⟨w5.heap.size, 0, none⟩) 1 1)).heap.size = w5.heap.size by simp] at e
                  exact e
                rw [← hWt]
                clear hWt p0 p1 p2 pf2 z0 z1 z2 zf0 zf1 zf2
                have p0 : Wt.cell? ⟨W.heap.size + 1, 0, none⟩ = some (.int .i64 (i : Nat)) := HPt.out.cell 0
                have p1 : Wt.cell? ⟨W.heap.size + 1, 1, none⟩ = some (.bool false) := HPt.out.cell 1
                have p2 : Wt.cell? ⟨W.heap.size + 1, 2, none⟩ = some (.slice (some ⟨w5.heap.size, 0, none⟩) 1 1) := HPt.out.cell 2
                have pf2 := HPt.out.frozen 2
                have z0 : Wt.cell? ⟨W.heap.size, 0, none⟩ = some (.int .i64 0) := HQt.out.cell 0
                have z1 : Wt.cell? ⟨W.heap.size, 1, none⟩ = some (.bool false) := HQt.out.cell 1
                have z2 : Wt.cell? ⟨W.heap.size, 2, none⟩ = some (.slice none 0 0) := HQt.out.cell 2
                have zf0 := HQt.out.frozen 0
                have zf1 := HQt.out.frozen 1
                have zf2 := HQt.out.frozen 2
                go_wp2_with fail
                refine bodyPost_ret (results_dword (p := 2) rfl _ _ W.heap.size _ rfl (HQt.out.put3 _ _ _) rfl) rfl ?_
                rw [HRE.out]
                rw [List.eq_nil_of_length_eq_zero hl0]
                exact ⟨_, rfl, turn_put3 HTt.out (Nat.le_refl _) _ _ _, ⟨_, rfl, QtOwn.put_new HOt.out HQt.out _ _ _⟩, _, Cel.away3 HLt.out (by omega) _ _ _, by omega, rfl⟩
              · have hl1 : ((X.length : Int) == 0) = false := beq_eq_false_iff_ne.2 (by omega)
                go_wp2_with fail
                refine bodyPost_ret (results_dword (p := 2) rfl _ _ W.heap.size _ rfl (HQw.out.put3 _ _ _) rfl) rfl ?_
                rw [HRE.out]
                have hem : X.isEmpty = false := by cases X with
                  | nil => exact absurd rfl hl0
                  | cons _ _ => rfl
                rw [hem]
                exact ⟨_, rfl, turn_put3 HTw.out (Nat.le_refl _) _ _ _, ⟨_, rfl, QtOwn.put_new (HOw.out.lower (by omega)) HQw.out _ _ _⟩, _, HLw.out.away3 (by omega) _ _ _, by omega, rfl⟩
            | false =>
              have HRE : Hid (asQ s.size i R = .error ⟨3, q + 1⟩) := by
                unfold Hid
                have hl := len_drop s (q + 1 + 1)
                rw [HRQ.out]
                unfold asQ
                simp only
                rw [drop_cons s (q + 1) hn, closedL, if_neg (by rw [hqe]; simp), hl, show s.size - (s.size - (q + 1 + 1) + 1) = q + 1 by omega]
              refine Calls.mono (behind_no HLx.out hs hn hqe) ?_
              rintro e w5 ⟨rfl, j5, fb5, f1, f2, f3, f4⟩
              have HT5 : Hid (Turn (fun g => g = b) wx w5) := f4
              have HLw : Hid (Lx w5 b s j5 (codE (⟨3, q + 1⟩ : Er).code) (.slice (some ⟨fb5, 0, none⟩) 1 1)) := f1
              have HFw : Hid (Cel w5 fb5 3 #[.int .i64 ((⟨3, q + 1⟩ : Er).pos : Nat)]) := f2
              have HQw : Hid (Cel w5 W.heap.size 48 zW) := HQx.out.turn HT5.out (by omega)
              have HPw : Hid (Cel w5 (W.heap.size + 1) 48 #[.int .i64 (i : Nat), .bool false, .slice ad X.length cap]) := HPx.out.turn HT5.out (by omega)
              have HTw : Hid (Turn (fun g => g = b) W w5) := HTx.out.trans HT5.out (fun _ e _ => e)
              have hzw : W.heap.size + 2 ≤ w5.heap.size := Nat.le_trans hzx HT5.out.size
              clear f1 f2 f3 f4 HQx HPx HTx
              have p0 : w5.cell? ⟨W.heap.size + 1, 0, none⟩ = some (.int .i64 (i : Nat)) := HPw.out.cell 0
              have p1 : w5.cell? ⟨W.heap.size + 1, 1, none⟩ = some (.bool false) := HPw.out.cell 1
              have p2 : w5.cell? ⟨W.heap.size + 1, 2, none⟩ = some (.slice ad X.length cap) := HPw.out.cell 2
              have pf2 := HPw.out.frozen 2
              have z0 : w5.cell? ⟨W.heap.size, 0, none⟩ = some (.int .i64 0) := HQw.out.cell 0
              have z1 : w5.cell? ⟨W.heap.size, 1, none⟩ = some (.bool false) := HQw.out.cell 1
              have z2 : w5.cell? ⟨W.heap.size, 2, none⟩ = some (.slice none 0 0) := HQw.out.cell 2
              have zf0 := HQw.out.frozen 0
              have zf1 := HQw.out.frozen 1
              have zf2 := HQw.out.frozen 2
              by_cases hl0 : X.length = 0
              · have hl1 : ((X.length : Int) == 0) = true := by rw [hl0]; rfl
                have hl2 : (X.length : Int) = 0 := by omega
                have ht1 : ¬ W.heap.size + 1 = w5.heap.size := by omega
                have ht2 : ¬ w5.heap.size = W.heap.size + 1 := by omega
                have ht3 : W.heap.size + 1 < w5.heap.size := by omega
                go_upto_region 28 with fail
                obtain ⟨Wt, hWt⟩ : ∃ Wt, Wt = (w5.setCell ⟨W.heap.size + 1, 2, none⟩ (.slice (some ⟨w5.heap.size, 0, none⟩) 1 1)).alloc (.cells #[.int .i64 1, .int .i64 (i : Nat), .int .i64 0, .string ⟨#[]⟩] 81) := ⟨_, rfl⟩
                have HQt : Hid (Cel Wt W.heap.size 48 zW) := by rw [hWt]; exact (HQw.out.other (by omega) _).alloc _
                have HPt : Hid (Cel Wt (W.heap.size + 1) 48 #[.int .i64 (i : Nat), .bool false, .slice (some ⟨w5.heap.size, 0, none⟩) 1 1]) := by rw [hWt]; exact (HPw.out.set (j := 2) (.slice (some ⟨w5.heap.size, 0, none⟩) 1 1)).alloc _
                have HTt : Hid (Turn (fun g => g = b) W Wt) := by rw [hWt]; exact (HTw.out.setCell (p := ⟨W.heap.size + 1, 2, none⟩) (fun e => absurd e (by show ¬ W.heap.size + 1 < _; omega)) _).alloc _
                have HLt := (HLw.out.other (by omega : b ≠ W.heap.size + 1) (j := 2) (.slice (some ⟨w5.heap.size, 0, none⟩) 1 1)).alloc (.cells #[.int .i64 1, .int .i64 (i : Nat), .int .i64 0, .string ⟨#[]⟩] 81)
                rw [← hWt] at HLt
                have HLt : Hid _ := HLt
                have HFt := (HFw.out.other (cel_ne HFw.out HPw.out (by decide)) (j := 2) (.slice (some ⟨w5.heap.size, 0, none⟩) 1 1)).alloc (.cells #[.int .i64 1, .int .i64 (i : Nat), .int .i64 0, .string ⟨#[]⟩] 81)
                rw [← hWt] at HFt
                have HFt : Hid _ := HFt
                rw [← hWt]
                clear hWt p0 p1 p2 pf2 z0 z1 z2 zf0 zf1 zf2
                have p0 : Wt.cell? ⟨W.heap.size + 1, 0, none⟩ = some (.int .i64 (i : Nat)) := HPt.out.cell 0
                have p1 : Wt.cell? ⟨W.heap.size + 1, 1, none⟩ = some (.bool false) := HPt.out.cell 1
                have p2 : Wt.cell? ⟨W.heap.size + 1, 2, none⟩ = some (.slice (some ⟨w5.heap.size, 0, none⟩) 1 1) := HPt.out.cell 2
                have pf2 := HPt.out.frozen 2
                have z0 : Wt.cell? ⟨W.heap.size, 0, none⟩ = some (.int .i64 0) := HQt.out.cell 0
                have z1 : Wt.cell? ⟨W.heap.size, 1, none⟩ = some (.bool false) := HQt.out.cell 1
                have z2 : Wt.cell? ⟨W.heap.size, 2, none⟩ = some (.slice none 0 0) := HQt.out.cell 2
                have zf0 := HQt.out.frozen 0
                have zf1 := HQt.out.frozen 1
                have zf2 := HQt.out.frozen 2
                go_wp2_with fail
                refine bodyPost_ret (results_dword (p := 2) rfl _ _ W.heap.size _ rfl (HQt.out.put3 _ _ _) rfl) rfl ?_
                rw [HRE.out]
                exact ⟨_, rfl, turn_put3 HTt.out (Nat.le_refl _) _ _ _, ⟨_, _, _, _, _, rfl⟩, _, _, Cel.away3 HLt.out (by omega) _ _ _, Cel.away3 HFt.out (cel_ne HFt.out HQt.out (by decide)) _ _ _⟩
              · have hl1 : ((X.length : Int) == 0) = false := beq_eq_false_iff_ne.2 (by omega)
                go_wp2_with fail
                refine bodyPost_ret (results_dword (p := 2) rfl _ _ W.heap.size _ rfl (HQw.out.put3 _ _ _) rfl) rfl ?_
                rw [HRE.out]
                exact ⟨_, rfl, turn_put3 HTw.out (Nat.le_refl _) _ _ _, ⟨_, _, _, _, _, rfl⟩, _, _, HLw.out.away3 (by omega) _ _ _, HFw.out.away3 (cel_ne HFw.out HQw.out (by decide)) _ _ _⟩
          · have HRE : Hid (asQ s.size i R = .ok (⟨i, false, if X.isEmpty then [⟨1, i, 0, []⟩] else X⟩, s.data.toList.drop (q + 1))) := by
              unfold Hid
              rw [HRQ.out]
              unfold asQ
              simp only
              rw [drop_none s (q + 1) hn, closedL]
            refine Calls.mono (behind_end HLx.out hs (by omega)) ?_
            rintro e w5 ⟨rfl, m, hw5⟩
            have HQw : Hid (Cel w5 W.heap.size 48 zW) := by rw [hw5]; exact HQx.out
            have HPw : Hid (Cel w5 (W.heap.size + 1) 48 #[.int .i64 (i : Nat), .bool false, .slice ad X.length cap]) := by rw [hw5]; exact HPx.out
            have HLw : Hid (Lx w5 b s (q + 1) 0 av) := by rw [hw5]; exact HLx.out
            have HTw : Hid (Turn (fun g => g = b) W w5) := by rw [hw5]; exact ⟨HTx.out.os, HTx.out.tape, HTx.out.output, HTx.out.size, HTx.out.block⟩
            have HOw : Hid (QtOwn w5 (W.heap.size + 2) (.slice ad X.length cap) X) := by rw [hw5]; exact HOx.out
            have hzw : W.heap.size + 2 ≤ w5.heap.size := by rw [hw5]; exact hzx
            clear hw5 HQx HPx HLx HTx HOx hzx
            have p0 : w5.cell? ⟨W.heap.size + 1, 0, none⟩ = some (.int .i64 (i : Nat)) := HPw.out.cell 0
            have p1 : w5.cell? ⟨W.heap.size + 1, 1, none⟩ = some (.bool false) := HPw.out.cell 1
            have p2 : w5.cell? ⟨W.heap.size + 1, 2, none⟩ = some (.slice ad X.length cap) := HPw.out.cell 2
            have pf2 := HPw.out.frozen 2
            have z0 : w5.cell? ⟨W.heap.size, 0, none⟩ = some (.int .i64 0) := HQw.out.cell 0
            have z1 : w5.cell? ⟨W.heap.size, 1, none⟩ = some (.bool false) := HQw.out.cell 1
            have z2 : w5.cell? ⟨W.heap.size, 2, none⟩ = some (.slice none 0 0) := HQw.out.cell 2
            have zf0 := HQw.out.frozen 0
            have zf1 := HQw.out.frozen 1
            have zf2 := HQw.out.frozen 2
            by_cases hl0 : X.length = 0
            · have hl1 : ((X.length : Int) == 0) = true := by rw [hl0]; rfl
              have hl2 : (X.length : Int) = 0 := by omega
              have ht1 : ¬ W.heap.size + 1 = w5.heap.size := by omega
              have ht2 : ¬ w5.heap.size = W.heap.size + 1 := by omega
              have ht3 : W.heap.size + 1 < w5.heap.size := by omega
              go_upto_region 28 with fail
              obtain ⟨Wt, hWt⟩ : ∃ Wt, Wt = (w5.setCell ⟨W.heap.size + 1, 2, none⟩ (.slice (some ⟨w5.heap.size, 0, none⟩) 1 1)).alloc (.cells #[.int .i64 1, .int .i64 (i : Nat), .int .i64 0, .string ⟨#[]⟩] 81) := ⟨_, rfl⟩
              have HQt : Hid (Cel Wt W.heap.size 48 zW) := by rw [hWt]; exact (HQw.out.other (by omega) _).alloc _
              have HPt : Hid (Cel Wt (W.heap.size + 1) 48 #[.int .i64 (i : Nat), .bool false, .slice (some ⟨w5.heap.size, 0, none⟩) 1 1]) := by rw [hWt]; exact (HPw.out.set (j := 2) (.slice (some ⟨w5.heap.size, 0, none⟩) 1 1)).alloc _
              have HTt : Hid (Turn (fun g => g = b) W Wt) := by rw [hWt]; exact (HTw.out.setCell (p := ⟨W.heap.size + 1, 2, none⟩) (fun e => absurd e (by show ¬ W.heap.size + 1 < _; omega)) _).alloc _
              have HLt := (HLw.out.other (by omega : b ≠ W.heap.size + 1) (j := 2) (.slice (some ⟨w5.heap.size, 0, none⟩) 1 1)).alloc (.cells #[.int .i64 1, .int .i64 (i : Nat), .int .i64 0, .string ⟨#[]⟩] 81)
              rw [← hWt] at HLt
              have HLt : Hid _ := HLt
              have HOt : Hid (QtOwn Wt W.heap.size (.slice (some ⟨w5.heap.size, 0, none⟩) 1 1) [⟨1, i, 0, []⟩]) := by
                rw [hWt]
                have e := QtOwn.one (w5.setCell ⟨W.heap.size + 1, 2, none⟩ (.slice (some ⟨w5.heap.size, 0, none⟩) 1 1)) W.heap.size ⟨1, i, 0, []⟩ (by simp; omega)
                rw [show (w5.setCell ⟨W.heap.size + 1, 2, none⟩ (.slice (some ⟨w5.heap.size, 0, none⟩) 1 1)).heap.size = w5.heap.size by simp] at e
                exact e
              rw [← hWt]
              clear hWt p0 p1 p2 pf2 z0 z1 z2 zf0 zf1 zf2
              have p0 : Wt.cell? ⟨W.heap.size + 1, 0, none⟩ = some (.int .i64 (i : Nat)) := HPt.out.cell 0
              have p1 : Wt.cell? ⟨W.heap.size + 1, 1, none⟩ = some (.bool false) := HPt.out.cell 1
              have p2 : Wt.cell? ⟨W.heap.size + 1, 2, none⟩ = some (.slice (some ⟨w5.heap.size, 0, none⟩) 1 1) := HPt.out.cell 2
              have pf2 := HPt.out.frozen 2
              have z0 : Wt.cell? ⟨W.heap.size, 0, none⟩ = some (.int .i64 0) := HQt.out.cell 0
              have z1 : Wt.cell? ⟨W.heap.size, 1, none⟩ = some (.bool false) := HQt.out.cell 1
              have z2 : Wt.cell? ⟨W.heap.size, 2, none⟩ = some (.slice none 0 0) := HQt.out.cell 2
              have zf0 := HQt.out.frozen 0
              have zf1 := HQt.out.frozen 1
              have zf2 := HQt.out.frozen 2
              go_wp2_with fail
              refine bodyPost_ret (results_dword (p := 2) rfl _ _ W.heap.size _ rfl (HQt.out.put3 _ _ _) rfl) rfl ?_
              rw [HRE.out]
              rw [List.eq_nil_of_length_eq_zero hl0]
              exact ⟨_, rfl, turn_put3 HTt.out (Nat.le_refl _) _ _ _, ⟨_, rfl, QtOwn.put_new HOt.out HQt.out _ _ _⟩, _, Cel.away3 HLt.out (by omega) _ _ _, by omega, rfl⟩
            · have hl1 : ((X.length : Int) == 0) = false := beq_eq_false_iff_ne.2 (by omega)
              go_wp2_with fail
              refine bodyPost_ret (results_dword (p := 2) rfl _ _ W.heap.size _ rfl (HQw.out.put3 _ _ _) rfl) rfl ?_
              rw [HRE.out]
              have hem : X.isEmpty = false := by cases X with
                | nil => exact absurd rfl hl0
                | cons _ _ => rfl
              rw [hem]
              exact ⟨_, rfl, turn_put3 HTw.out (Nat.le_refl _) _ _ _, ⟨_, rfl, QtOwn.put_new (HOw.out.lower (by omega)) HQw.out _ _ _⟩, _, HLw.out.away3 (by omega) _ _ _, by omega, rfl⟩
        · have p2 : wr.cell? ⟨W.heap.size + 1, 2, none⟩ = some (.slice ad X.length cap) := HPw.out.cell 2
          have HPA : Hid _ := dpart_any (W := wr.drew.drew) (B := W.heap.size + 2) HLq.out.drew.drew (show QtOwn wr.drew.drew _ _ _ from HOq.out) (by omega) hzr hs (by omega) (fun x hx => by have := HXS.out x hx; omega) hlq
          have hRS := docL_step (N := s.size) (e := [34]) (X := X) hlq (by simpa using hwe)
          rw [← HRq.out] at hRS
          cases hst : stepD s.size (s.data.toList.drop q) with
          | error xe =>
            rw [hst] at hRS HPA
            have HRE : Hid (R = .error xe) := hRS
            clear hst hRS HRq
            have q34q : (((s[q]).toNat : Int) == 34) = false := byte_ne _ 34 hwe
            go_wp2_with fail
            go_region_held3 (fun w' => w'.cell? ⟨b, 0, none⟩ = some (.string s) ∧ w'.cell? ⟨b, 1, none⟩ = some (.int .i64 (q : Nat))) (go_keep) (fail)
            go_wp2_with fail
            go_region_held3 (fun w' => w'.cell? ⟨b, 0, none⟩ = some (.string s) ∧ w'.cell? ⟨b, 1, none⟩ = some (.int .i64 (q : Nat))) (go_keep) (fail)
            go_wp2_with fail
            refine Calls.mono HPA.out ?_
            rintro e w5 ⟨v5, rfl, hT5, ⟨ad5, n5, cap5, rfl⟩, j5, fb5, f1, f2⟩
            have HT5 : Hid (Turn (fun g => g = b ∨ W.heap.size + 2 ≤ g) wr w5) := ⟨hT5.os, hT5.tape, hT5.output, hT5.size, hT5.block⟩
            have HP5 : Hid (Cel w5 (W.heap.size + 1) 48 #[.int .i64 (i : Nat), .bool false, .slice ad X.length cap]) := HPw.out.turn HT5.out (by omega)
            have HQ5 : Hid (Cel w5 W.heap.size 48 zW) := HQw.out.turn HT5.out (by omega)
            have HF1 : Hid (Lx w5 b s j5 (codE xe.code) (.slice (some ⟨fb5, 0, none⟩) 1 1)) := f1
            have HF2 : Hid (Cel w5 fb5 3 #[.int .i64 (xe.pos : Nat)]) := f2
            have u2 : w5.cell? ⟨W.heap.size + 1, 2, none⟩ = some (.slice ad X.length cap) := HP5.out.cell 2
            have uf := HP5.out.frozen 2
            clear hT5 f1 f2 HPA HLq HOq HPw HQw
            go_wp2_with fail
            refine ⟨⟨?_, ?_, HQ5.out.other (by omega) _, ad5, n5, cap5, HP5.out.set (j := 2) (.slice ad5 n5 cap5), .inr ⟨j5, xe, fb5, HRE.out, HF1.out.other (by omega) _, HF2.out.other (cel_ne HF2.out HP5.out (by decide)) _⟩⟩, ?_⟩
            · exact (HTw.out.trans HT5.out (fun k e hk => by omega)).setCell (p := ⟨W.heap.size + 1, 2, none⟩) (fun e => absurd e (by show ¬ W.heap.size + 1 < _; omega)) _
            · have := HT5.out.size
              simp
              omega
            · have hcx : ¬ codE xe.code = 0 := by unfold codE; split <;> decide
              rw [HMW.out]
              unfold mW
              rw [Lx.cod (HF1.out.other (by omega : b ≠ W.heap.size + 1) _), if_neg hcx]
              omega
          | ok r =>
            obtain ⟨pt, u⟩ := r
            rw [hst] at hRS HPA
            have HRE : Hid (R = docL s.size [34] u.length (joinP X pt) u) := hRS
            have hsz := stepD_sz hst
            have hltu := stepD_lt hst
            rw [len_drop] at hsz hltu
            have hjl := joinP_len X pt
            have HJS : Hid (∀ x ∈ joinP X pt, x.s.length ≤ q + pt.s.length) := joinP_sz HXS.out (Nat.le_refl _)
            clear hst hRS HRq
            have q34q : (((s[q]).toNat : Int) == 34) = false := byte_ne _ 34 hwe
            go_wp2_with fail
            go_region_held3 (fun w' => w'.cell? ⟨b, 0, none⟩ = some (.string s) ∧ w'.cell? ⟨b, 1, none⟩ = some (.int .i64 (q : Nat))) (go_keep) (fail)
            go_wp2_with fail
            go_region_held3 (fun w' => w'.cell? ⟨b, 0, none⟩ = some (.string s) ∧ w'.cell? ⟨b, 1, none⟩ = some (.int .i64 (q : Nat))) (go_keep) (fail)
            go_wp2_with fail
            refine Calls.mono HPA.out ?_
            rintro e w5 ⟨v5, rfl, hT5, hO5, j5, f1, hj5, hu5⟩
            have HT5 : Hid (Turn (fun g => g = b ∨ W.heap.size + 2 ≤ g) wr w5) := ⟨hT5.os, hT5.tape, hT5.output, hT5.size, hT5.block⟩
            have HP5 : Hid (Cel w5 (W.heap.size + 1) 48 #[.int .i64 (i : Nat), .bool false, .slice ad X.length cap]) := HPw.out.turn HT5.out (by omega)
            have HQ5 : Hid (Cel w5 W.heap.size 48 zW) := HQw.out.turn HT5.out (by omega)
            have HF1 : Hid (Lx w5 b s j5 0 av) := f1
            have HO5 : Hid (QtOwn w5 (W.heap.size + 2) v5 (joinP X pt)) := hO5
            obtain ⟨ad5, cap5, rfl⟩ := HO5.out.form
            have hul : u.length = s.size - j5 := by rw [show u = s.data.toList.drop j5 from hu5, len_drop]
            have HU5 : Hid (u = s.data.toList.drop j5) := hu5
            have u2 : w5.cell? ⟨W.heap.size + 1, 2, none⟩ = some (.slice ad X.length cap) := HP5.out.cell 2
            have uf := HP5.out.frozen 2
            clear hT5 f1 hO5 hu5 HPA HLq HOq HPw HQw
            go_wp2_with fail
            refine ⟨⟨?_, ?_, HQ5.out.other (by omega) _, ad5, (joinP X pt).length, cap5, HP5.out.set (j := 2) (.slice ad5 (joinP X pt).length cap5), .inl ⟨j5, joinP X pt, rfl, hj5, by omega, fun x hx => by have := HJS.out x hx; omega, HF1.out.other (by omega) _, ?_, ?_⟩⟩, ?_⟩
            · exact (HTw.out.trans HT5.out (fun k e hk => by omega)).setCell (p := ⟨W.heap.size + 1, 2, none⟩) (fun e => absurd e (by show ¬ W.heap.size + 1 < _; omega)) _
            · have := HT5.out.size
              simp
              omega
            · exact QtOwn.turn (S := fun g => g = W.heap.size + 1) HO5.out (Turn.setCell (S := fun g => g = W.heap.size + 1) (p := ⟨W.heap.size + 1, 2, none⟩) (Turn.refl _ _) (fun _ => rfl) _) (fun _ e => by omega)
            · rw [HRE.out, ← HU5.out]
            · have hF := HF1.out.other (by omega : b ≠ W.heap.size + 1) (j := 2) (.slice ad5 (joinP X pt).length cap5)
              rw [HMW.out]
              unfold mW
              rw [Lx.cod hF, Lx.pos hF, if_pos rfl]
              omega
      · have hge : (s.size : Int) ≤ (q : Int) := by omega
        have HRE : Hid (asQ s.size i R = .error ⟨2, i⟩) := by
          unfold Hid
          rw [HRq.out, docL_end (.inl (drop_none s q hlq)), drop_none s q hlq]
          rfl
        have HF : Hid (∀ w, Lx w b s q 0 av → Calls Tryz.prog 39 #[.pointer (some ⟨b, 0, none⟩), .int .i64 103, .int .i64 (i : Nat)] w fun e w' => e = .returned (.tuple #[]) ∧ Flt w b s ⟨2, i⟩ w') := fun w hw => fail_any hw ⟨2, i⟩
        go_wp2_with fail
        go_region_held3 (fun w' => w'.cell? ⟨b, 0, none⟩ = some (.string s) ∧ w'.cell? ⟨b, 1, none⟩ = some (.int .i64 (q : Nat))) (go_keep) (fail)
        go_wp2_with fail
        refine Calls.mono (HF.out _ (HLq.out.drew)) ?_
        rintro e w5 ⟨rfl, j5, fb5, f1, f2, f3, f4⟩
        have HT5 : Hid (Turn (fun g => g = b) wr w5) := ⟨f4.os, f4.tape, f4.output, f4.size, f4.block⟩
        have HQx : Hid _ := HQw.out.turn HT5.out (by omega)
        have HPx : Hid _ := HPw.out.turn HT5.out (by omega)
        have HTx : Hid _ := HTw.out.trans HT5.out (fun _ e _ => e)
        clear HQw HPw HTw
        have HLw : Hid (Lx w5 b s j5 (codE (⟨2, i⟩ : Er).code) (.slice (some ⟨fb5, 0, none⟩) 1 1)) := f1
        have HFw : Hid (Cel w5 fb5 3 #[.int .i64 ((⟨2, i⟩ : Er).pos : Nat)]) := f2
        have HQw : Hid (Cel w5 W.heap.size 48 zW) := HQx.out
        have HPw : Hid (Cel w5 (W.heap.size + 1) 48 #[.int .i64 (i : Nat), .bool false, .slice ad X.length cap]) := HPx.out
        have HTw : Hid (Turn (fun g => g = b) W w5) := HTx.out
        have hzw : W.heap.size + 2 ≤ w5.heap.size := Nat.le_trans hzr HT5.out.size
        clear f1 f2 f3 f4 HQx HPx HTx m0 m1 m2 HLq HOq HF
        have p0 : w5.cell? ⟨W.heap.size + 1, 0, none⟩ = some (.int .i64 (i : Nat)) := HPw.out.cell 0
        have p1 : w5.cell? ⟨W.heap.size + 1, 1, none⟩ = some (.bool false) := HPw.out.cell 1
        have p2 : w5.cell? ⟨W.heap.size + 1, 2, none⟩ = some (.slice ad X.length cap) := HPw.out.cell 2
        have pf2 := HPw.out.frozen 2
        have z0 : w5.cell? ⟨W.heap.size, 0, none⟩ = some (.int .i64 0) := HQw.out.cell 0
        have z1 : w5.cell? ⟨W.heap.size, 1, none⟩ = some (.bool false) := HQw.out.cell 1
        have z2 : w5.cell? ⟨W.heap.size, 2, none⟩ = some (.slice none 0 0) := HQw.out.cell 2
        have zf0 := HQw.out.frozen 0
        have zf1 := HQw.out.frozen 1
        have zf2 := HQw.out.frozen 2
        by_cases hl0 : X.length = 0
        · have hl1 : ((X.length : Int) == 0) = true := by rw [hl0]; rfl
          have hl2 : (X.length : Int) = 0 := by omega
          have ht1 : ¬ W.heap.size + 1 = w5.heap.size := by omega
          have ht2 : ¬ w5.heap.size = W.heap.size + 1 := by omega
          have ht3 : W.heap.size + 1 < w5.heap.size := by omega
          go_upto_region 28 with fail
          obtain ⟨Wt, hWt⟩ : ∃ Wt, Wt = (w5.setCell ⟨W.heap.size + 1, 2, none⟩ (.slice (some ⟨w5.heap.size, 0, none⟩) 1 1)).alloc (.cells #[.int .i64 1, .int .i64 (i : Nat), .int .i64 0, .string ⟨#[]⟩] 81) := ⟨_, rfl⟩
          have HQt : Hid (Cel Wt W.heap.size 48 zW) := by rw [hWt]; exact (HQw.out.other (by omega) _).alloc _
          have HPt : Hid (Cel Wt (W.heap.size + 1) 48 #[.int .i64 (i : Nat), .bool false, .slice (some ⟨w5.heap.size, 0, none⟩) 1 1]) := by rw [hWt]; exact (HPw.out.set (j := 2) (.slice (some ⟨w5.heap.size, 0, none⟩) 1 1)).alloc _
          have HTt : Hid (Turn (fun g => g = b) W Wt) := by rw [hWt]; exact (HTw.out.setCell (p := ⟨W.heap.size + 1, 2, none⟩) (fun e => absurd e (by show ¬ W.heap.size + 1 < _; omega)) _).alloc _
          have HLt := (HLw.out.other (by omega : b ≠ W.heap.size + 1) (j := 2) (.slice (some ⟨w5.heap.size, 0, none⟩) 1 1)).alloc (.cells #[.int .i64 1, .int .i64 (i : Nat), .int .i64 0, .string ⟨#[]⟩] 81)
          rw [← hWt] at HLt
          have HLt : Hid _ := HLt
          have HFt := (HFw.out.other (cel_ne HFw.out HPw.out (by decide)) (j := 2) (.slice (some ⟨w5.heap.size, 0, none⟩) 1 1)).alloc (.cells #[.int .i64 1, .int .i64 (i : Nat), .int .i64 0, .string ⟨#[]⟩] 81)
          rw [← hWt] at HFt
          have HFt : Hid _ := HFt
          rw [← hWt]
          clear hWt p0 p1 p2 pf2 z0 z1 z2 zf0 zf1 zf2
          have p0 : Wt.cell? ⟨W.heap.size + 1, 0, none⟩ = some (.int .i64 (i : Nat)) := HPt.out.cell 0
          have p1 : Wt.cell? ⟨W.heap.size + 1, 1, none⟩ = some (.bool false) := HPt.out.cell 1
          have p2 : Wt.cell? ⟨W.heap.size + 1, 2, none⟩ = some (.slice (some ⟨w5.heap.size, 0, none⟩) 1 1) := HPt.out.cell 2
          have pf2 := HPt.out.frozen 2
          have z0 : Wt.cell? ⟨W.heap.size, 0, none⟩ = some (.int .i64 0) := HQt.out.cell 0
          have z1 : Wt.cell? ⟨W.heap.size, 1, none⟩ = some (.bool false) := HQt.out.cell 1
          have z2 : Wt.cell? ⟨W.heap.size, 2, none⟩ = some (.slice none 0 0) := HQt.out.cell 2
          have zf0 := HQt.out.frozen 0
          have zf1 := HQt.out.frozen 1
          have zf2 := HQt.out.frozen 2
          go_wp2_with fail
          refine bodyPost_ret (results_dword (p := 2) rfl _ _ W.heap.size _ rfl (HQt.out.put3 _ _ _) rfl) rfl ?_
          rw [HRE.out]
          exact ⟨_, rfl, turn_put3 HTt.out (Nat.le_refl _) _ _ _, ⟨_, _, _, _, _, rfl⟩, _, _, Cel.away3 HLt.out (by omega) _ _ _, Cel.away3 HFt.out (cel_ne HFt.out HQt.out (by decide)) _ _ _⟩
        · have hl1 : ((X.length : Int) == 0) = false := beq_eq_false_iff_ne.2 (by omega)
          go_wp2_with fail
          refine bodyPost_ret (results_dword (p := 2) rfl _ _ W.heap.size _ rfl (HQw.out.put3 _ _ _) rfl) rfl ?_
          rw [HRE.out]
          exact ⟨_, rfl, turn_put3 HTw.out (Nat.le_refl _) _ _ _, ⟨_, _, _, _, _, rfl⟩, _, _, HLw.out.away3 (by omega) _ _ _, HFw.out.away3 (cel_ne HFw.out HQw.out (by decide)) _ _ _⟩
    · have hcx : (codE x.code == 0) = false := by unfold codE; split <;> rfl
      have m2 : wr.cell? ⟨b, 2, none⟩ = some (.int .i64 (codE x.code)) := Cel.cell hlx 2
      have HLw : Hid (Lx wr b s q (codE x.code) (.slice (some ⟨fb, 0, none⟩) 1 1)) := hlx
      have HFw : Hid (Cel wr fb 3 #[.int .i64 (x.pos : Nat)]) := hcf
      have HRE : Hid (asQ s.size i R = .error x) := by unfold Hid; rw [hrx]; rfl
      clear hlx hcf hrx
      have p0 : wr.cell? ⟨W.heap.size + 1, 0, none⟩ = some (.int .i64 (i : Nat)) := HPw.out.cell 0
      have p1 : wr.cell? ⟨W.heap.size + 1, 1, none⟩ = some (.bool false) := HPw.out.cell 1
      have p2 : wr.cell? ⟨W.heap.size + 1, 2, none⟩ = some (.slice ad l cap) := HPw.out.cell 2
      have pf2 := HPw.out.frozen 2
      have z0 : wr.cell? ⟨W.heap.size, 0, none⟩ = some (.int .i64 0) := HQw.out.cell 0
      have z1 : wr.cell? ⟨W.heap.size, 1, none⟩ = some (.bool false) := HQw.out.cell 1
      have z2 : wr.cell? ⟨W.heap.size, 2, none⟩ = some (.slice none 0 0) := HQw.out.cell 2
      have zf0 := HQw.out.frozen 0
      have zf1 := HQw.out.frozen 1
      have zf2 := HQw.out.frozen 2
      by_cases hl0 : l = 0
      · have hl1 : ((l : Int) == 0) = true := by rw [hl0]; rfl
        have hl2 : (l : Int) = 0 := by omega
        have ht1 : ¬ W.heap.size + 1 = wr.heap.size := by omega
        have ht2 : ¬ wr.heap.size = W.heap.size + 1 := by omega
        have ht3 : W.heap.size + 1 < wr.heap.size := by omega
        go_upto_region 28 with fail
        obtain ⟨Wt, hWt⟩ : ∃ Wt, Wt = (wr.setCell ⟨W.heap.size + 1, 2, none⟩ (.slice (some ⟨wr.heap.size, 0, none⟩) 1 1)).alloc (.cells #[.int .i64 1, .int .i64 (i : Nat), .int .i64 0, .string ⟨#[]⟩] 81) := ⟨_, rfl⟩
        have HQt : Hid (Cel Wt W.heap.size 48 zW) := by rw [hWt]; exact (HQw.out.other (by omega) _).alloc _
        have HPt : Hid (Cel Wt (W.heap.size + 1) 48 #[.int .i64 (i : Nat), .bool false, .slice (some ⟨wr.heap.size, 0, none⟩) 1 1]) := by rw [hWt]; exact (HPw.out.set (j := 2) (.slice (some ⟨wr.heap.size, 0, none⟩) 1 1)).alloc _
        have HTt : Hid (Turn (fun g => g = b) W Wt) := by rw [hWt]; exact (HTw.out.setCell (p := ⟨W.heap.size + 1, 2, none⟩) (fun e => absurd e (by show ¬ W.heap.size + 1 < _; omega)) _).alloc _
        have HLt := (HLw.out.other (by omega : b ≠ W.heap.size + 1) (j := 2) (.slice (some ⟨wr.heap.size, 0, none⟩) 1 1)).alloc (.cells #[.int .i64 1, .int .i64 (i : Nat), .int .i64 0, .string ⟨#[]⟩] 81)
        rw [← hWt] at HLt
        have HLt : Hid _ := HLt
        have HFt := (HFw.out.other (cel_ne HFw.out HPw.out (by decide)) (j := 2) (.slice (some ⟨wr.heap.size, 0, none⟩) 1 1)).alloc (.cells #[.int .i64 1, .int .i64 (i : Nat), .int .i64 0, .string ⟨#[]⟩] 81)
        rw [← hWt] at HFt
        have HFt : Hid _ := HFt
        rw [← hWt]
        clear hWt p0 p1 p2 pf2 z0 z1 z2 zf0 zf1 zf2
        have p0 : Wt.cell? ⟨W.heap.size + 1, 0, none⟩ = some (.int .i64 (i : Nat)) := HPt.out.cell 0
        have p1 : Wt.cell? ⟨W.heap.size + 1, 1, none⟩ = some (.bool false) := HPt.out.cell 1
        have p2 : Wt.cell? ⟨W.heap.size + 1, 2, none⟩ = some (.slice (some ⟨wr.heap.size, 0, none⟩) 1 1) := HPt.out.cell 2
        have pf2 := HPt.out.frozen 2
        have z0 : Wt.cell? ⟨W.heap.size, 0, none⟩ = some (.int .i64 0) := HQt.out.cell 0
        have z1 : Wt.cell? ⟨W.heap.size, 1, none⟩ = some (.bool false) := HQt.out.cell 1
        have z2 : Wt.cell? ⟨W.heap.size, 2, none⟩ = some (.slice none 0 0) := HQt.out.cell 2
        have zf0 := HQt.out.frozen 0
        have zf1 := HQt.out.frozen 1
        have zf2 := HQt.out.frozen 2
        go_wp2_with fail
        refine bodyPost_ret (results_dword (p := 2) rfl _ _ W.heap.size _ rfl (HQt.out.put3 _ _ _) rfl) rfl ?_
        rw [HRE.out]
        exact ⟨_, rfl, turn_put3 HTt.out (Nat.le_refl _) _ _ _, ⟨_, _, _, _, _, rfl⟩, _, _, Cel.away3 HLt.out (by omega) _ _ _, Cel.away3 HFt.out (cel_ne HFt.out HQt.out (by decide)) _ _ _⟩
      · have hl1 : ((l : Int) == 0) = false := beq_eq_false_iff_ne.2 (by omega)
        go_wp2_with fail
        refine bodyPost_ret (results_dword (p := 2) rfl _ _ W.heap.size _ rfl (HQw.out.put3 _ _ _) rfl) rfl ?_
        rw [HRE.out]
        exact ⟨_, rfl, turn_put3 HTw.out (Nat.le_refl _) _ _ _, ⟨_, _, _, _, _, rfl⟩, _, _, HLw.out.away3 (by omega) _ _ _, HFw.out.away3 (cel_ne HFw.out HQw.out (by decide)) _ _ _⟩
end Go.Proofs.YtlihkblllakhmaaGreatDoor
