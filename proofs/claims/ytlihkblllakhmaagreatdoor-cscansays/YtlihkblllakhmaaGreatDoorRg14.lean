/- The document's Scan. -/
import Derived.Test.YtlihkblllakhmaaGreatDoorRg13
namespace Go.Proofs.YtlihkblllakhmaaGreatDoor
open Go.RowKit
attribute [local go_sem] Oper.semAt_some

theorem sizeFl : (Tryz.prog.info? 31).map (·.size) = some 2 := by kernel_rfl
theorem results_flt {fn : Func} {p u : Tmp} (h : fn.results = #[.tmp u, .cell p 31]) (tmps : Array Value) (w : World) (g : Nat) (cs : Array Value) (hp : tmps.getD p undef = .pointer (some ⟨g, 0, none⟩)) (hc : Cel w g 31 cs) (hz : cs.size = 2) :
    (results fn tmps).run Tryz.prog w = .ok (.tuple #[tmps.getD u undef, .agg cs]) w := by
  have hl := run_loadVar_row (P := Tryz.prog) w g 31 31 cs (0, 0) _ hc Tryz.underlying31 rfl (by rw [hz]; exact sizeFl)
  have hp' : tmps[p]?.getD undef = .pointer (some ⟨g, 0, none⟩) := by simpa using hp
  simp only [results, h]
  simp [Result.andThen, asAddr, hp', hl]
theorem none_any (W : World) : Calls Tryz.prog 25 #[] W fun e w' => e = .returned (.agg #[.int .i64 0, .slice none 0 0]) ∧ Below W.heap.size W w' := by
  go_enter Tryz.func25, Tryz.ntmps25
  go_wp2_with fail
  refine bodyPost_ret (results_cell_row (p := 0) (ty := 31) rfl _ _ W.heap.size 31 #[.int .i64 0, .slice none 0 0] (0, 0) _ rfl (Cel.new _ _ _) Tryz.underlying31 rfl size33) rfl ?_
  exact ⟨rfl, below_new _ _⟩
theorem qm_snoc {wr w6 : World} {B M cp cpq : Nat} {adq : Option Addr} {wv v6 : Value} {K : List Mc} {Kq : List (Value × Wd)} (HQ : QmOwn wr B (.slice adq K.length cpq) K) (HD : QdOwn wr M wv Kq) (hBM : B ≤ M) (o : Obj)
    (hown : w6.ownsRow B 51 2 v6 (K.length + 1) (cmCs K ++ cmC (wv, cp, Kq))) (hgrow : (wr.alloc o).grownBy w6 (Value.slice adq K.length cpq).ownBlock) : QmOwn w6 B v6 (K ++ [(wv, cp, Kq)]) := by
  have hr : (wr.alloc o).ownsRow B 51 2 (.slice adq K.length cpq) K.length (cmCs K) := World.ownsRow.alloc HQ.row o
  refine ⟨?_, ?_⟩
  · rw [cmCs_append, cmCs_one, List.length_append]
    exact hown
  · intro q hq
    rcases List.mem_append.1 hq with hq | hq
    · exact ((HQ.words q hq).below (below_new _ o)).grown2 hr hgrow
    · rw [List.mem_singleton] at hq
      subst hq
      exact ((HD.lower hBM).below (below_new _ o)).grown2 hr hgrow
/-- What Scan is to come to. -/
def ScV (W : World) (R : Except Er (List Cm)) (v : Value) (fv : Array Value) (w' : World) : Prop := Below W.heap.size W w' ∧ match R with
  | .ok L => fv = #[.int .i64 0, .slice none 0 0] ∧ ∃ K : List Mc, K.map toCm = L ∧ QmOwn w' W.heap.size v K
  | .error x => v = .slice none 0 0 ∧ ∃ fb, fv = #[.int .i64 (codE x.code), .slice (some ⟨fb, 0, none⟩) 1 1] ∧ Cel w' fb 3 #[.int .i64 (x.pos : Nat)]
/-- Between two words: wo is the world where the command so far began; the blocks are that of the fault, the scanner's, the command's. -/
def ScR (W : World) (s : ByteArray) (R : Except Er (List Cm)) (v5 : Value) (wr : World) : Prop :=
  ∃ (wo : World) (p : Nat) (K : List Mc) (Kq : List (Value × Wd)) (cp : Nat) (ad : Option Addr) (cap : Nat),
  p ≤ s.size ∧ K.length ≤ p ∧ Kq.length ≤ p ∧ W.heap.size + 3 ≤ wo.heap.size ∧ Below W.heap.size W wr ∧
  Cel wr W.heap.size 31 #[.int .i64 0, .slice none 0 0] ∧ Lx wr (W.heap.size + 1) s p 0 (.slice none 0 0) ∧
  Cel wr (W.heap.size + 2) 51 #[.int .i64 (cp : Nat), .slice ad Kq.length cap] ∧
  QmOwn wo (W.heap.size + 3) v5 K ∧ Turn (fun g => g = W.heap.size + 1 ∨ g = W.heap.size + 2 ∨ wo.heap.size ≤ g) wo wr ∧ QdOwn wr wo.heap.size (.slice ad Kq.length cap) Kq ∧
  R = docA s.size (K.map toCm) ⟨cp, Kq.map Prod.snd⟩ (s.data.toList.drop p)
set_option maxRecDepth 100000 in
set_option maxHeartbeats 16000000 in
theorem dscan_any (s : ByteArray) (W : World) (hs : s.size ≤ 8192) :
    Calls Tryz.prog 9 #[.string s] W fun e w' => ∃ v fv, e = .returned (.tuple #[v, .agg fv]) ∧ ScV W (scanL s.data.toList) v fv w' := by
  obtain ⟨R, HR⟩ : ∃ R, Hid (R = scanL s.data.toList) := ⟨_, rfl⟩
  have hsz : s.data.toList.length = s.size := by rw [Array.length_toList]; rfl
  have HR0 : Hid (R = docA s.size [] ⟨0, []⟩ s.data.toList) := by
    unfold Hid
    rw [HR.out, ← docA_scan, hsz]
  rw [← HR.out]
  have hs' : ¬ (8192 : Int) < (s.size : Int) := by omega
  clear HR
  obtain ⟨j0, hj, hy0, hy1, hy2⟩ := info_parts infoQm
  obtain ⟨i0, hi, hz0, hz1, hz2⟩ := info_parts infoQd
  go_enter Tryz.func9, Tryz.ntmps9
  go_wp2_with fail
  obtain ⟨W1, hW1⟩ : ∃ W1, W1 = (((W.alloc (.cells #[.int .i64 0, .slice none 0 0] 31)).alloc (.cells #[.string s, .int .i64 0, .int .i64 0, .slice none 0 0] 73)).alloc (.cells #[.int .i64 0, .slice none 0 0] 51)) := ⟨_, rfl⟩
  have HW0 : Hid (ScR W s R (.slice none 0 0) W1) := by
    have hz : W1.heap.size = W.heap.size + 3 := by rw [hW1]; simp
    refine ⟨W1, 0, [], [], 0, none, 0, by omega, by simp, by simp, by omega, ?_, ?_, ?_, ?_, QmOwn.nil _ _, Turn.refl _ _, QdOwn.nil _ _, HR0.out⟩
    · rw [hW1]; exact ((below_new W _).alloc (by simp) _).alloc (by simp; omega) _
    · rw [hW1]; exact ((Cel.new W _ _).alloc _).alloc _
    · rw [hW1]; exact (Cel.new2 W _ _ _).alloc _
    · rw [hW1]
      have := Cel.new2 (W.alloc (.cells #[.int .i64 0, .slice none 0 0] 31)) (.cells #[.string s, .int .i64 0, .int .i64 0, .slice none 0 0] 73) 51 #[.int .i64 0, .slice none 0 0]
      rw [show (W.alloc (.cells #[.int .i64 0, .slice none 0 0] 31)).heap.size + 1 = W.heap.size + 2 by simp] at this
      exact this
  rw [← hW1]
  clear hW1 HR0
  go_loopw [2, 5, 7, 8, 54, 65, 89] (fun v2 v5 _ _ _ _ _ wr => v2 = .slice none 0 0 ∧ ScR W s R v5 wr) (fun _ _ _ _ _ _ _ wr => s.size + 1 - posOf wr (W.heap.size + 1))
  case atStart => exact ⟨rfl, HW0.out⟩
  case round =>
    clear HW0
    obtain ⟨rfl, wo, p, K, Kq, cp, ad, cap, hp, hKl, hKq, hzo, hB, hF, hL, hC, hQ, hT, hD, hR⟩ := hrel
    have HB : Hid (Below W.heap.size W wr) := hB
    have HF : Hid (Cel wr W.heap.size 31 #[.int .i64 0, .slice none 0 0]) := hF
    have HL : Hid (Lx wr (W.heap.size + 1) s p 0 (.slice none 0 0)) := hL
    have HC : Hid (Cel wr (W.heap.size + 2) 51 #[.int .i64 (cp : Nat), .slice ad Kq.length cap]) := hC
    have hQ2 := hQ.past hT (fun k e => by omega)
    obtain ⟨adq, cpq, rfl⟩ := hQ2.form
    have HQ : Hid (QmOwn wo (W.heap.size + 3) (.slice adq K.length cpq) K) := hQ
    have HQ2 : Hid (QmOwn wr (W.heap.size + 3) (.slice adq K.length cpq) K) := hQ2
    have HT : Hid (Turn (fun g => g = W.heap.size + 1 ∨ g = W.heap.size + 2 ∨ wo.heap.size ≤ g) wo wr) := hT
    have HD : Hid (QdOwn wr wo.heap.size (.slice ad Kq.length cap) Kq) := hD
    have HRR : Hid (R = docA s.size (K.map toCm) ⟨cp, Kq.map Prod.snd⟩ (s.data.toList.drop p)) := hR
    have m1 : wr.cell? ⟨W.heap.size + 1, 1, none⟩ = some (.int .i64 (p : Nat)) := Cel.cell hL 1
    have m2 : wr.cell? ⟨W.heap.size + 1, 2, none⟩ = some (.int .i64 0) := Cel.cell hL 2
    have mf := hL.frozen 1
    have c0 : wr.cell? ⟨W.heap.size + 2, 0, none⟩ = some (.int .i64 (cp : Nat)) := hC.cell 0
    have c1 : wr.cell? ⟨W.heap.size + 2, 1, none⟩ = some (.slice ad Kq.length cap) := hC.cell 1
    have HPO : Hid (posOf wr (W.heap.size + 1) = p) := hL.pos
    have f0 := HF.out.cell 0
    have f1 := HF.out.cell 1
    have ff0 := HF.out.frozen 0
    have ff1 := HF.out.frozen 1
    have hwz : wo.heap.size ≤ wr.heap.size := hT.size
    clear hB hF hL hC hQ hQ2 hT hD hR
    by_cases hlt : p < s.size
    · have hlt' : (p : Int) < (s.size : Int) := by omega
      have hdc := drop_cons s p hlt
      have HBL : Hid _ := dblank_any s[p] wr
      cases hbl : blk s[p] with
      | true =>
        · rw [hbl] at HBL
          have HRN : Hid (R = docA s.size (K.map toCm) ⟨cp, Kq.map Prod.snd⟩ (s.data.toList.drop (p + 1))) := by
            unfold Hid
            rw [HRR.out, hdc, docA_blk hbl]
          clear hbl hdc HRR
          go_wp2_with fail
          refine Calls.mono HBL.out ?_
          rintro e w1 ⟨rfl, hw⟩
          obtain rfl := hw.symm
          clear hw
          go_wp2_with fail
          have HL2 : Hid (Lx (wr.setCell ⟨W.heap.size + 1, 1, none⟩ (.int .i64 ((p : Int) + 1))) (W.heap.size + 1) s (p + 1) 0 (.slice none 0 0)) := HL.out.move (by simp)
          refine ⟨⟨rfl, wo, p + 1, K, Kq, cp, ad, cap, by omega, by omega, by omega, hzo, HB.out.setCell (p := ⟨W.heap.size + 1, 1, none⟩) (by simp) _, HF.out.other (by omega) _, HL2.out, HC.out.other (by omega) _, HQ.out, HT.out.setCell (p := ⟨W.heap.size + 1, 1, none⟩) (fun _ => .inl rfl) _, HD.out.turn (S := fun g => g = W.heap.size + 1) (Turn.setCell (S := fun g => g = W.heap.size + 1) (p := ⟨W.heap.size + 1, 1, none⟩) (Turn.refl _ _) (fun _ => rfl) _) (fun _ e => by omega), HRN.out⟩, ?_⟩
          rw [HPO.out, HL2.out.pos]
          omega
      | false =>
        · rw [hbl] at HBL
          have cf0 := HC.out.frozen 0
          have cf1 := HC.out.frozen 1
          cases hsp : sepS.contains s[p] with
          | true =>
            have hsv : ((((s[p]).toNat : Int) == 10) = true) ∨ ((((s[p]).toNat : Int) == 10) = false ∧ (((s[p]).toNat : Int) == 59) = true) := by
              by_cases e : s[p] = 10
              · left; rw [e]; rfl
              · right
                refine ⟨byte_ne _ 10 e, ?_⟩
                have e2 : s[p] = 59 := by simpa [sepS, e] using hsp
                rw [e2]; rfl
            rcases hsv with q10 | ⟨q10, q59⟩
            · by_cases hk0 : Kq.length = 0
              · have hk1 : ¬ (0 : Int) < (Kq.length : Int) := by omega
                have hRN : R = docA s.size (K.map toCm) ⟨0, []⟩ (s.data.toList.drop (p + 1)) := by
                  rw [HRR.out, hdc, docA_sep hbl hsp, List.eq_nil_of_length_eq_zero hk0]
                  rfl
                have HRN : Hid (R = docA s.size (K.map toCm) ⟨0, []⟩ (s.data.toList.drop (p + 1))) := hRN
                have HFX : Hid (Cel wr W.heap.size 31 #[.int .i64 0, .slice none 0 0]) := HF.out
                have HLX : Hid (Lx wr (W.heap.size + 1) s p 0 (.slice none 0 0)) := HL.out
                have HCX : Hid (Cel wr (W.heap.size + 2) 51 #[.int .i64 (cp : Nat), .slice ad Kq.length cap]) := HC.out
                have HBX : Hid (Below W.heap.size W wr) := HB.out
                have HQX : Hid (QmOwn wr (W.heap.size + 3) (.slice adq K.length cpq) K) := HQ2.out
                clear hRN hdc hbl hsp
                go_wp2_with fail
                refine Calls.mono HBL.out ?_
                rintro e w1 ⟨rfl, hw⟩
                obtain rfl := hw.symm
                clear hw
                go_wp2_with fail
                obtain ⟨Wf, hWf⟩ : ∃ Wf, Wf = (((wr.setCell ⟨W.heap.size + 2, 0, none⟩ (.int .i64 0)).setCell ⟨W.heap.size + 2, 1, none⟩ (.slice none 0 0)).setCell ⟨W.heap.size + 1, 1, none⟩ (.int .i64 ((p : Int) + 1))) := ⟨_, rfl⟩
                have hTf : Turn (fun g => g = W.heap.size + 1 ∨ g = W.heap.size + 2) wr Wf := by rw [hWf]; exact ((Turn.setCell (S := fun g => g = W.heap.size + 1 ∨ g = W.heap.size + 2) (p := ⟨W.heap.size + 2, 0, none⟩) (Turn.refl _ _) (fun _ => .inr rfl) _).setCell (p := ⟨W.heap.size + 2, 1, none⟩) (fun _ => .inr rfl) _).setCell (p := ⟨W.heap.size + 1, 1, none⟩) (fun _ => .inl rfl) _
                have hLf : Lx Wf (W.heap.size + 1) s (p + 1) 0 (.slice none 0 0) := by rw [hWf]; exact Lx.move (j := p) ((Cel.other HLX.out (by omega) _).other (by omega) _) (by simp)
                have hCf : Cel Wf (W.heap.size + 2) 51 #[.int .i64 ((0 : Nat) : Int), .slice none 0 0] := by rw [hWf]; exact ((Cel.set (j := 0) HCX.out (.int .i64 0)).set (j := 1) (.slice none 0 0)).other (by omega) _
                have hFf : Cel Wf W.heap.size 31 #[.int .i64 0, .slice none 0 0] := Cel.turn HFX.out hTf (by omega)
                have hBf : Below W.heap.size W Wf := HBX.out.trans (Turn.below hTf (fun k e => by omega) (by omega))
                have hQf : QmOwn Wf (W.heap.size + 3) (.slice adq K.length cpq) (K) := HQX.out.turn hTf (fun k e => by omega)
                have hzf : wr.heap.size ≤ Wf.heap.size := hTf.size
                rw [← hWf]
                refine ⟨⟨rfl, Wf, p + 1, K, [], 0, none, 0, by omega, (by first | omega | (simp only [List.length_append, List.length_cons, List.length_nil]; omega)), by simp, by omega, hBf, hFf, hLf, hCf, hQf, Turn.refl _ _, QdOwn.nil _ _, HRN.out⟩, ?_⟩
                rw [HPO.out, Lx.pos hLf]
                omega
              · have hk1 : (0 : Int) < (Kq.length : Int) := by omega
                have hRN : R = docA s.size ((K ++ [((.slice ad Kq.length cap : Value), cp, Kq)]).map toCm) ⟨0, []⟩ (s.data.toList.drop (p + 1)) := by
                  rw [HRR.out, hdc, docA_sep hbl hsp, if_neg (by cases Kq with
                    | nil => exact absurd rfl hk0
                    | cons _ _ => simp), List.map_append]
                  rfl
                have HRN : Hid _ := hRN
                clear hRN hdc hbl hsp
                go_wp2_with fail
                refine Calls.mono HBL.out ?_
                rintro e w1 ⟨rfl, hw⟩
                obtain rfl := hw.symm
                clear hw
                go_wp2_with (at_builtin; refine wpList_append_own_at _ rfl _ _ 28 rfl (W.heap.size + 3) 51 j0 _ 2 32 Tryz.underlying28 hj hy0 hy1 hy2 rfl (by decide) _ K.length _ rfl (World.ownsRow.alloc HQ2.out.row _) ⟨wr.heap.size, 0, none⟩ 1 1 (cmC (.slice ad Kq.length cap, cp, Kq)) rfl rfl (cells_new wr (cmC (.slice ad Kq.length cap, cp, Kq)) _) (by simp [Value.oneCell']) (by have := maxLen_big; omega) (by omega) (by simp; omega) ?_; intro v6 w6 hown hgrow _ _; obtain ⟨ad6, cap6, rfl⟩ := owns_slice hown; have hbel : Below (W.heap.size + 3) wr w6 := grown_own (by simp; omega) ((Below.refl _ wr).alloc (by omega) _) (World.ownsRow.alloc HQ2.out.row _) hgrow; have hCw : Cel w6 (W.heap.size + 2) 51 #[.int .i64 (cp : Nat), .slice ad Kq.length cap] := HC.out.below hbel (by omega); have hLw : Lx w6 (W.heap.size + 1) s p 0 (.slice none 0 0) := Cel.below HL.out hbel (by omega); have d0 := hCw.cell 0; have d1 := hCw.cell 1; have df0 := hCw.frozen 0; have df1 := hCw.frozen 1; have e1 := Cel.cell hLw 1; have ef1 := Cel.frozen hLw 1)
                have HQX : Hid (QmOwn w6 (W.heap.size + 3) (.slice ad6 (K.length + 1) cap6) (K ++ [(.slice ad Kq.length cap, cp, Kq)])) := qm_snoc HQ2.out HD.out (by omega) _ hown hgrow
                have HFX : Hid (Cel w6 W.heap.size 31 #[.int .i64 0, .slice none 0 0]) := HF.out.below hbel (by omega)
                have HBX : Hid (Below W.heap.size W w6) := HB.out.trans (hbel.mono (by omega))
                have HLX : Hid (Lx w6 (W.heap.size + 1) s p 0 (.slice none 0 0)) := hLw
                have HCX : Hid (Cel w6 (W.heap.size + 2) 51 #[.int .i64 (cp : Nat), .slice ad Kq.length cap]) := hCw
                have hzx : W.heap.size + 3 ≤ w6.heap.size := by have := hbel.size; omega
                clear hown hgrow hbel hCw hLw
                obtain ⟨Wf, hWf⟩ : ∃ Wf, Wf = (((w6.setCell ⟨W.heap.size + 2, 0, none⟩ (.int .i64 0)).setCell ⟨W.heap.size + 2, 1, none⟩ (.slice none 0 0)).setCell ⟨W.heap.size + 1, 1, none⟩ (.int .i64 ((p : Int) + 1))) := ⟨_, rfl⟩
                have hTf : Turn (fun g => g = W.heap.size + 1 ∨ g = W.heap.size + 2) w6 Wf := by rw [hWf]; exact ((Turn.setCell (S := fun g => g = W.heap.size + 1 ∨ g = W.heap.size + 2) (p := ⟨W.heap.size + 2, 0, none⟩) (Turn.refl _ _) (fun _ => .inr rfl) _).setCell (p := ⟨W.heap.size + 2, 1, none⟩) (fun _ => .inr rfl) _).setCell (p := ⟨W.heap.size + 1, 1, none⟩) (fun _ => .inl rfl) _
                have hLf : Lx Wf (W.heap.size + 1) s (p + 1) 0 (.slice none 0 0) := by rw [hWf]; exact Lx.move (j := p) ((Cel.other HLX.out (by omega) _).other (by omega) _) (by simp)
                have hCf : Cel Wf (W.heap.size + 2) 51 #[.int .i64 ((0 : Nat) : Int), .slice none 0 0] := by rw [hWf]; exact ((Cel.set (j := 0) HCX.out (.int .i64 0)).set (j := 1) (.slice none 0 0)).other (by omega) _
                have hFf : Cel Wf W.heap.size 31 #[.int .i64 0, .slice none 0 0] := Cel.turn HFX.out hTf (by omega)
                have hBf : Below W.heap.size W Wf := HBX.out.trans (Turn.below hTf (fun k e => by omega) (by omega))
                have hQf : QmOwn Wf (W.heap.size + 3) (.slice ad6 (K.length + 1) cap6) (K ++ [(.slice ad Kq.length cap, cp, Kq)]) := HQX.out.turn hTf (fun k e => by omega)
                have hzf : w6.heap.size ≤ Wf.heap.size := hTf.size
                rw [← hWf]
                refine ⟨⟨rfl, Wf, p + 1, K ++ [(.slice ad Kq.length cap, cp, Kq)], [], 0, none, 0, by omega, (by first | omega | (simp only [List.length_append, List.length_cons, List.length_nil]; omega)), by simp, by omega, hBf, hFf, hLf, hCf, hQf, Turn.refl _ _, QdOwn.nil _ _, HRN.out⟩, ?_⟩
                rw [HPO.out, Lx.pos hLf]
                omega
            · by_cases hk0 : Kq.length = 0
              · have hk1 : ¬ (0 : Int) < (Kq.length : Int) := by omega
                have hRN : R = docA s.size (K.map toCm) ⟨0, []⟩ (s.data.toList.drop (p + 1)) := by
                  rw [HRR.out, hdc, docA_sep hbl hsp, List.eq_nil_of_length_eq_zero hk0]
                  rfl
                have HRN : Hid (R = docA s.size (K.map toCm) ⟨0, []⟩ (s.data.toList.drop (p + 1))) := hRN
                have HFX : Hid (Cel wr W.heap.size 31 #[.int .i64 0, .slice none 0 0]) := HF.out
                have HLX : Hid (Lx wr (W.heap.size + 1) s p 0 (.slice none 0 0)) := HL.out
                have HCX : Hid (Cel wr (W.heap.size + 2) 51 #[.int .i64 (cp : Nat), .slice ad Kq.length cap]) := HC.out
                have HBX : Hid (Below W.heap.size W wr) := HB.out
                have HQX : Hid (QmOwn wr (W.heap.size + 3) (.slice adq K.length cpq) K) := HQ2.out
                clear hRN hdc hbl hsp
                go_wp2_with fail
                refine Calls.mono HBL.out ?_
                rintro e w1 ⟨rfl, hw⟩
                obtain rfl := hw.symm
                clear hw
                go_wp2_with fail
                obtain ⟨Wf, hWf⟩ : ∃ Wf, Wf = (((wr.setCell ⟨W.heap.size + 2, 0, none⟩ (.int .i64 0)).setCell ⟨W.heap.size + 2, 1, none⟩ (.slice none 0 0)).setCell ⟨W.heap.size + 1, 1, none⟩ (.int .i64 ((p : Int) + 1))) := ⟨_, rfl⟩
                have hTf : Turn (fun g => g = W.heap.size + 1 ∨ g = W.heap.size + 2) wr Wf := by rw [hWf]; exact ((Turn.setCell (S := fun g => g = W.heap.size + 1 ∨ g = W.heap.size + 2) (p := ⟨W.heap.size + 2, 0, none⟩) (Turn.refl _ _) (fun _ => .inr rfl) _).setCell (p := ⟨W.heap.size + 2, 1, none⟩) (fun _ => .inr rfl) _).setCell (p := ⟨W.heap.size + 1, 1, none⟩) (fun _ => .inl rfl) _
                have hLf : Lx Wf (W.heap.size + 1) s (p + 1) 0 (.slice none 0 0) := by rw [hWf]; exact Lx.move (j := p) ((Cel.other HLX.out (by omega) _).other (by omega) _) (by simp)
                have hCf : Cel Wf (W.heap.size + 2) 51 #[.int .i64 ((0 : Nat) : Int), .slice none 0 0] := by rw [hWf]; exact ((Cel.set (j := 0) HCX.out (.int .i64 0)).set (j := 1) (.slice none 0 0)).other (by omega) _
                have hFf : Cel Wf W.heap.size 31 #[.int .i64 0, .slice none 0 0] := Cel.turn HFX.out hTf (by omega)
                have hBf : Below W.heap.size W Wf := HBX.out.trans (Turn.below hTf (fun k e => by omega) (by omega))
                have hQf : QmOwn Wf (W.heap.size + 3) (.slice adq K.length cpq) (K) := HQX.out.turn hTf (fun k e => by omega)
                have hzf : wr.heap.size ≤ Wf.heap.size := hTf.size
                rw [← hWf]
                refine ⟨⟨rfl, Wf, p + 1, K, [], 0, none, 0, by omega, (by first | omega | (simp only [List.length_append, List.length_cons, List.length_nil]; omega)), by simp, by omega, hBf, hFf, hLf, hCf, hQf, Turn.refl _ _, QdOwn.nil _ _, HRN.out⟩, ?_⟩
                rw [HPO.out, Lx.pos hLf]
                omega
              · have hk1 : (0 : Int) < (Kq.length : Int) := by omega
                have hRN : R = docA s.size ((K ++ [((.slice ad Kq.length cap : Value), cp, Kq)]).map toCm) ⟨0, []⟩ (s.data.toList.drop (p + 1)) := by
                  rw [HRR.out, hdc, docA_sep hbl hsp, if_neg (by cases Kq with
                    | nil => exact absurd rfl hk0
                    | cons _ _ => simp), List.map_append]
                  rfl
                have HRN : Hid _ := hRN
                clear hRN hdc hbl hsp
                go_wp2_with fail
                refine Calls.mono HBL.out ?_
                rintro e w1 ⟨rfl, hw⟩
                obtain rfl := hw.symm
                clear hw
                go_wp2_with (at_builtin; refine wpList_append_own_at _ rfl _ _ 28 rfl (W.heap.size + 3) 51 j0 _ 2 32 Tryz.underlying28 hj hy0 hy1 hy2 rfl (by decide) _ K.length _ rfl (World.ownsRow.alloc HQ2.out.row _) ⟨wr.heap.size, 0, none⟩ 1 1 (cmC (.slice ad Kq.length cap, cp, Kq)) rfl rfl (cells_new wr (cmC (.slice ad Kq.length cap, cp, Kq)) _) (by simp [Value.oneCell']) (by have := maxLen_big; omega) (by omega) (by simp; omega) ?_; intro v6 w6 hown hgrow _ _; obtain ⟨ad6, cap6, rfl⟩ := owns_slice hown; have hbel : Below (W.heap.size + 3) wr w6 := grown_own (by simp; omega) ((Below.refl _ wr).alloc (by omega) _) (World.ownsRow.alloc HQ2.out.row _) hgrow; have hCw : Cel w6 (W.heap.size + 2) 51 #[.int .i64 (cp : Nat), .slice ad Kq.length cap] := HC.out.below hbel (by omega); have hLw : Lx w6 (W.heap.size + 1) s p 0 (.slice none 0 0) := Cel.below HL.out hbel (by omega); have d0 := hCw.cell 0; have d1 := hCw.cell 1; have df0 := hCw.frozen 0; have df1 := hCw.frozen 1; have e1 := Cel.cell hLw 1; have ef1 := Cel.frozen hLw 1)
                have HQX : Hid (QmOwn w6 (W.heap.size + 3) (.slice ad6 (K.length + 1) cap6) (K ++ [(.slice ad Kq.length cap, cp, Kq)])) := qm_snoc HQ2.out HD.out (by omega) _ hown hgrow
                have HFX : Hid (Cel w6 W.heap.size 31 #[.int .i64 0, .slice none 0 0]) := HF.out.below hbel (by omega)
                have HBX : Hid (Below W.heap.size W w6) := HB.out.trans (hbel.mono (by omega))
                have HLX : Hid (Lx w6 (W.heap.size + 1) s p 0 (.slice none 0 0)) := hLw
                have HCX : Hid (Cel w6 (W.heap.size + 2) 51 #[.int .i64 (cp : Nat), .slice ad Kq.length cap]) := hCw
                have hzx : W.heap.size + 3 ≤ w6.heap.size := by have := hbel.size; omega
                clear hown hgrow hbel hCw hLw
                obtain ⟨Wf, hWf⟩ : ∃ Wf, Wf = (((w6.setCell ⟨W.heap.size + 2, 0, none⟩ (.int .i64 0)).setCell ⟨W.heap.size + 2, 1, none⟩ (.slice none 0 0)).setCell ⟨W.heap.size + 1, 1, none⟩ (.int .i64 ((p : Int) + 1))) := ⟨_, rfl⟩
                have hTf : Turn (fun g => g = W.heap.size + 1 ∨ g = W.heap.size + 2) w6 Wf := by rw [hWf]; exact ((Turn.setCell (S := fun g => g = W.heap.size + 1 ∨ g = W.heap.size + 2) (p := ⟨W.heap.size + 2, 0, none⟩) (Turn.refl _ _) (fun _ => .inr rfl) _).setCell (p := ⟨W.heap.size + 2, 1, none⟩) (fun _ => .inr rfl) _).setCell (p := ⟨W.heap.size + 1, 1, none⟩) (fun _ => .inl rfl) _
                have hLf : Lx Wf (W.heap.size + 1) s (p + 1) 0 (.slice none 0 0) := by rw [hWf]; exact Lx.move (j := p) ((Cel.other HLX.out (by omega) _).other (by omega) _) (by simp)
                have hCf : Cel Wf (W.heap.size + 2) 51 #[.int .i64 ((0 : Nat) : Int), .slice none 0 0] := by rw [hWf]; exact ((Cel.set (j := 0) HCX.out (.int .i64 0)).set (j := 1) (.slice none 0 0)).other (by omega) _
                have hFf : Cel Wf W.heap.size 31 #[.int .i64 0, .slice none 0 0] := Cel.turn HFX.out hTf (by omega)
                have hBf : Below W.heap.size W Wf := HBX.out.trans (Turn.below hTf (fun k e => by omega) (by omega))
                have hQf : QmOwn Wf (W.heap.size + 3) (.slice ad6 (K.length + 1) cap6) (K ++ [(.slice ad Kq.length cap, cp, Kq)]) := HQX.out.turn hTf (fun k e => by omega)
                have hzf : w6.heap.size ≤ Wf.heap.size := hTf.size
                rw [← hWf]
                refine ⟨⟨rfl, Wf, p + 1, K ++ [(.slice ad Kq.length cap, cp, Kq)], [], 0, none, 0, by omega, (by first | omega | (simp only [List.length_append, List.length_cons, List.length_nil]; omega)), by simp, by omega, hBf, hFf, hLf, hCf, hQf, Turn.refl _ _, QdOwn.nil _ _, HRN.out⟩, ?_⟩
                rw [HPO.out, Lx.pos hLf]
                omega
          | false =>
            · by_cases hh : s[p] = 35 ∧ Kq.length = 0
              · have q10 : (((s[p]).toNat : Int) == 10) = false := byte_ne _ 10 (by intro e; rw [e] at hsp; exact absurd hsp (by decide))
                have q59 : (((s[p]).toNat : Int) == 59) = false := byte_ne _ 59 (by intro e; rw [e] at hsp; exact absurd hsp (by decide))
                have q35 : (((s[p]).toNat : Int) == 35) = true := by rw [hh.1]; rfl
                have hk1 : ((Kq.length : Int) == 0) = true := by rw [hh.2]; rfl
                have hem : (Kq.map Prod.snd).isEmpty = true := by rw [List.eq_nil_of_length_eq_zero hh.2]; rfl
                have HRH : Hid (R = docA s.size (K.map toCm) ⟨cp, Kq.map Prod.snd⟩ ((s.data.toList.drop p).dropWhile notNl)) := by
                  unfold Hid
                  rw [HRR.out, hdc, hh.1, docA_hash hem, drop_hash]
                have H35 : Hid (s[p] = 35) := hh.1
                obtain ⟨wn, hwn⟩ : ∃ wn, wn = wr := ⟨_, rfl⟩
                subst hwn
                have hT0 : Turn (fun g => g = W.heap.size + 1) wn wn := Turn.refl _ _
                clear hh hem hdc hbl hsp HRR
                go_wp2_with fail
                refine Calls.mono HBL.out ?_
                rintro e w1 ⟨rfl, hw⟩
                obtain rfl := hw.symm
                clear hw
                go_wp2_with fail
                go_loopw [] (fun w2 => ∃ q : Nat, p ≤ q ∧ q ≤ s.size ∧ Hid (Lx w2 (W.heap.size + 1) s q 0 (.slice none 0 0)) ∧ Hid (Turn (fun g => g = W.heap.size + 1) wn w2) ∧ Hid (R = docA s.size (K.map toCm) ⟨cp, Kq.map Prod.snd⟩ ((s.data.toList.drop q).dropWhile notNl))) (fun w2 => s.size + 1 - posOf w2 (W.heap.size + 1))
                case atStart => exact ⟨p, Nat.le_refl _, hp, HL.out, hT0, HRH.out⟩
                case round =>
                  obtain ⟨q, hpq, hq, HLq, HTq, HRq⟩ := hrel
                  clear HRH m1 m2 mf
                  have HPQ : Hid (posOf wr (W.heap.size + 1) = q) := Lx.pos HLq.out
                  have l1 : wr.cell? ⟨W.heap.size + 1, 1, none⟩ = some (.int .i64 (q : Nat)) := Cel.cell HLq.out 1
                  have lf : wr.frozen? ⟨W.heap.size + 1, 1, none⟩ = false := Cel.frozen HLq.out 1
                  have HOUT : Hid (p < q → R = docA s.size (K.map toCm) ⟨cp, Kq.map Prod.snd⟩ (s.data.toList.drop q) → ((.slice none 0 0 : Value) = .slice none 0 0 ∧ ScR W s R (.slice adq K.length cpq) wr) ∧ s.size + 1 - posOf wr (W.heap.size + 1) < s.size + 1 - posOf wn (W.heap.size + 1)) := fun h1 h2 => by
                    refine ⟨⟨rfl, wo, q, K, Kq, cp, ad, cap, hq, by omega, by omega, hzo, HB.out.trans (Turn.below HTq.out (fun k e => by omega) (by omega)), Cel.turn HF.out HTq.out (by omega), HLq.out, Cel.turn HC.out HTq.out (by omega), HQ.out, HT.out.trans HTq.out (fun k e _ => .inl e), HD.out.turn HTq.out (fun k e => by omega), h2⟩, ?_⟩
                    rw [HPQ.out, HPO.out]
                    omega
                  by_cases hlq : q < s.size
                  · have hlq' : (q : Int) < (s.size : Int) := by omega
                    by_cases h10 : s[q] = 10
                    · have d10 : (((s[q]).toNat : Int) == 10) = true := by rw [h10]; rfl
                      have hRE : R = docA s.size (K.map toCm) ⟨cp, Kq.map Prod.snd⟩ (s.data.toList.drop q) := by
                        rw [HRq.out, drop_cons s q hlq, List.dropWhile_cons_of_neg (by rw [h10]; decide)]
                      have hpq2 : p < q := by
                        rcases Nat.lt_or_ge p q with h | h
                        · exact h
                        · have he : q = p := by omega
                          subst he
                          rw [H35.out] at h10
                          exact absurd h10 (by decide)
                      have HX : Hid _ := HOUT.out hpq2 hRE
                      clear HRq h10 hRE HOUT
                      go_wp2_with fail
                      exact HX.out
                    · have d10 : (((s[q]).toNat : Int) == 10) = false := byte_ne s[q] 10 h10
                      have HRE : Hid (R = docA s.size (K.map toCm) ⟨cp, Kq.map Prod.snd⟩ ((s.data.toList.drop (q + 1)).dropWhile notNl)) := by
                        unfold Hid
                        rw [HRq.out, drop_cons s q hlq, List.dropWhile_cons_of_pos (by unfold notNl; simpa using h10)]
                      clear HRq h10 HOUT
                      go_wp2_with fail
                      have hL2 := Lx.move (j' := q + 1) HLq.out (v := (q : Int) + 1) (by simp)
                      refine ⟨⟨q + 1, by omega, by omega, hL2, HTq.out.setCell (p := ⟨W.heap.size + 1, 1, none⟩) (fun _ => rfl) _, HRE.out⟩, ?_⟩
                      rw [Lx.pos hL2, HPQ.out]
                      omega
                  · have hlq' : ¬ (q : Int) < (s.size : Int) := by omega
                    have HX : Hid _ := HOUT.out (by omega) (by rw [HRq.out, drop_none s q hlq]; rfl)
                    clear HRq HOUT
                    go_wp2_with fail
                    exact HX.out
              · have q10 : (((s[p]).toNat : Int) == 10) = false := byte_ne _ 10 (by intro e; rw [e] at hsp; exact absurd hsp (by decide))
                have q59 : (((s[p]).toNat : Int) == 59) = false := byte_ne _ 59 (by intro e; rw [e] at hsp; exact absurd hsp (by decide))
                have hv : (Kq.length = 0 ∧ (((s[p]).toNat : Int) == 35) = false) ∨ (Kq.length ≠ 0 ∧ (((s[p]).toNat : Int) == 35) = false) ∨ (Kq.length ≠ 0 ∧ (((s[p]).toNat : Int) == 35) = true) := by
                  by_cases e : s[p] = 35
                  · exact .inr (.inr ⟨fun e2 => hh ⟨e, e2⟩, by rw [e]; rfl⟩)
                  · by_cases e2 : Kq.length = 0
                    · exact .inl ⟨e2, byte_ne _ 35 e⟩
                    · exact .inr (.inl ⟨e2, byte_ne _ 35 e⟩)
                have hRW := docA_word (N := s.size) (out := K.map toCm) (c := ⟨cp, Kq.map Prod.snd⟩) (t := s.data.toList.drop (p + 1)) hbl hsp (fun e => hh ⟨e.1, by
                  have := e.2
                  cases Kq with
                  | nil => rfl
                  | cons _ _ => cases this⟩)
                rw [← hdc, ← HRR.out] at hRW
                have HWD : Hid _ := dw_any HL.out hs hlt
                have HWZ : Hid (∀ w u, wordL s.size (s.data.toList.drop p) = .ok (w, u) → u.length + p < s.size) := fun w u e => by
                  rw [hdc] at e
                  have := (q_word_lt (end_of (by rw [hbl]; simp) (by rw [hsp]; simp)) e).1
                  rw [len_drop] at this
                  omega
                cases hw : wordL s.size (s.data.toList.drop p) with
                | error x =>
                  · rw [hw] at HWD hRW
                    have HRE : Hid (R = .error x) := hRW
                    clear hRW hw hdc hbl hsp hh HRR HWZ
                    rcases hv with ⟨hk0, q35⟩ | ⟨hk0, q35⟩ | ⟨hk0, q35⟩
                    all_goals
                      try have hk1 : ((Kq.length : Int) == 0) = false := beq_eq_false_iff_ne.2 (by omega)
                      go_wp2_with fail
                      refine Calls.mono HBL.out ?_
                      rintro e w1 ⟨rfl, hw⟩
                      obtain rfl := hw.symm
                      clear hw
                      go_wp2_with fail
                      refine Calls.mono HWD.out ?_
                      rintro e w5 ⟨v', rfl, hT5, ⟨n, br, ad5, l5, c5, rfl⟩, j5, fb5, y1, y2⟩
                      have HT5 : Hid (Turn (fun g => g = W.heap.size + 1) wr w5) := hT5
                      have HL5 : Hid (Lx w5 (W.heap.size + 1) s j5 (codE x.code) (.slice (some ⟨fb5, 0, none⟩) 1 1)) := y1
                      have HN5 : Hid (Cel w5 fb5 3 #[.int .i64 (x.pos : Nat)]) := y2
                      have HF5 : Hid (Cel w5 W.heap.size 31 #[.int .i64 0, .slice none 0 0]) := Cel.turn HF.out HT5.out (by omega)
                      have u2 : w5.cell? ⟨W.heap.size + 1, 2, none⟩ = some (.int .i64 (codE x.code)) := Cel.cell HL5.out 2
                      have u3 : w5.cell? ⟨W.heap.size + 1, 3, none⟩ = some (.slice (some ⟨fb5, 0, none⟩) 1 1) := Cel.cell HL5.out 3
                      have g0 := HF5.out.cell 0
                      have g1 := HF5.out.cell 1
                      have gf0 := HF5.out.frozen 0
                      have gf1 := HF5.out.frozen 1
                      have hcx : (codE x.code == 0) = false := by unfold codE; split <;> rfl
                      have hz5 : wr.heap.size ≤ w5.heap.size := HT5.out.size
                      have hn1 : ¬ W.heap.size + 1 = w5.heap.size := by omega
                      have hn2 : ¬ w5.heap.size = W.heap.size + 1 := by omega
                      have hn3 : ¬ W.heap.size = w5.heap.size := by omega
                      have hn4 : ¬ w5.heap.size = W.heap.size := by omega
                      have hn5 : W.heap.size + 1 < w5.heap.size := by omega
                      have hn6 : W.heap.size < w5.heap.size := by omega
                      clear hT5 y1 y2 HWD m1 m2 mf c0 c1 f0 f1 ff0 ff1
                      go_wp2_with fail
                      go_region_held3 (fun w' => w'.cell? ⟨W.heap.size + 1, 2, none⟩ = some (.int .i64 (codE x.code)) ∧ w'.cell? ⟨W.heap.size + 1, 3, none⟩ = some (.slice (some ⟨fb5, 0, none⟩) 1 1)) (go_keep) (fail)
                      go_wp2_with fail
                      refine bodyPost_ret (results_flt (p := 3) (u := 2) rfl _ _ W.heap.size _ rfl ((((HF5.out.set (j := 0) (.int .i64 (codE x.code))).set (j := 1) (.slice (some ⟨fb5, 0, none⟩) 1 1)).alloc _).drew) rfl) rfl ?_
                      rw [HRE.out]
                      have hTf := (((HT5.out.mono (T := fun g => g = W.heap.size + 1 ∨ g = W.heap.size) (fun _ e => .inl e)).setCell (p := ⟨W.heap.size, 0, none⟩) (fun _ => .inr rfl) (.int .i64 (codE x.code))).setCell (p := ⟨W.heap.size, 1, none⟩) (fun _ => .inr rfl) (.slice (some ⟨fb5, 0, none⟩) 1 1)).alloc (.cells #[.int .i64 n, .bool br, .slice ad5 l5 c5] 48)
                      have hne := cel_ne HN5.out HF5.out (by decide)
                      exact ⟨_, _, rfl, HB.out.trans (Turn.below hTf.drew (fun k e => by omega) (by omega)), rfl, fb5, rfl, (((HN5.out.other hne _).other hne _).alloc _).drew⟩
                | ok r =>
                  · obtain ⟨wd, u⟩ := r
                    rw [hw] at HWD hRW
                    have hzu := HWZ.out wd u hw
                    have hRN : R = docA s.size (K.map toCm) ⟨if (Kq.map Prod.snd).isEmpty then wd.pos else cp, Kq.map Prod.snd ++ [wd]⟩ u := hRW
                    have HRN : Hid _ := hRN
                    clear hRN hRW hw hdc hbl hsp hh HRR HWZ
                    obtain ⟨cn, hcn⟩ : ∃ cn : Nat, cn = if (Kq.map Prod.snd).isEmpty then wd.pos else cp := ⟨_, rfl⟩
                    rw [← hcn] at HRN
                    have HCN : Hid _ := hcn
                    clear hcn
                    rcases hv with ⟨hk0, q35⟩ | ⟨hk0, q35⟩ | ⟨hk0, q35⟩
                    · have hk1 : ((Kq.length : Int) == 0) = true := by rw [hk0]; rfl
                      have HK0 : Hid _ := hk0
                      clear hk0
                      go_wp2_with fail
                      refine Calls.mono HBL.out ?_
                      rintro e w1 ⟨rfl, hw⟩
                      obtain rfl := hw.symm
                      clear hw
                      go_wp2_with fail
                      refine Calls.mono HWD.out ?_
                      rintro e w5 ⟨v', rfl, hT5, ⟨pv, rfl, hpo⟩, j5, y1, hj5, y2⟩
                      have HT5 : Hid (Turn (fun g => g = W.heap.size + 1) wr w5) := hT5
                      have HPO5 : Hid (QtOwn w5 wr.heap.size pv wd.parts) := hpo
                      obtain ⟨adp, cpp, rfl⟩ := HPO5.out.form
                      have HL5 : Hid (Lx w5 (W.heap.size + 1) s j5 0 (.slice none 0 0)) := y1
                      have HU5 : Hid (u = s.data.toList.drop j5) := y2
                      have hul : u.length = s.size - j5 := by rw [HU5.out, len_drop]
                      have hz5 : wr.heap.size ≤ w5.heap.size := HT5.out.size
                      have HC5 : Hid (Cel w5 (W.heap.size + 2) 51 #[.int .i64 (cp : Nat), .slice ad Kq.length cap]) := Cel.turn HC.out HT5.out (by omega)
                      have HD5 : Hid (QdOwn w5 wo.heap.size (.slice ad Kq.length cap) Kq) := HD.out.turn HT5.out (fun k e => by omega)
                      have m2 : w5.cell? ⟨W.heap.size + 1, 2, none⟩ = some (.int .i64 0) := Cel.cell HL5.out 2
                      have c0 : w5.cell? ⟨W.heap.size + 2, 0, none⟩ = some (.int .i64 (cp : Nat)) := HC5.out.cell 0
                      have c1 : w5.cell? ⟨W.heap.size + 2, 1, none⟩ = some (.slice ad Kq.length cap) := HC5.out.cell 1
                      have cf0 := HC5.out.frozen 0
                      have cf1 := HC5.out.frozen 1
                      have hn1 : ¬ W.heap.size + 1 = w5.heap.size := by omega
                      have hn2 : ¬ w5.heap.size = W.heap.size + 1 := by omega
                      have hn3 : ¬ W.heap.size + 2 = w5.heap.size := by omega
                      have hn4 : ¬ w5.heap.size = W.heap.size + 2 := by omega
                      have hn5 : W.heap.size + 1 < w5.heap.size := by omega
                      have hn6 : W.heap.size + 2 < w5.heap.size := by omega
                      clear hT5 hpo y1 y2 HWD m1 f0 f1 ff0 ff1 HL HC HD mf
                      go_upto_region 13 with fail
                      obtain ⟨X6, hX6⟩ : ∃ X6, X6 = w5.setCell ⟨W.heap.size + 1 + 1, 0, none⟩ (.int .i64 (wd.pos : Nat)) := ⟨_, rfl⟩
                      have hzX : X6.heap.size = w5.heap.size := by rw [hX6]; simp
                      have hTX : Turn (fun g => g = W.heap.size + 2) w5 X6 := by rw [hX6]; exact Turn.setCell (S := fun g => g = W.heap.size + 2) (p := ⟨W.heap.size + 2, 0, none⟩) (Turn.refl _ _) (fun _ => rfl) _
                      have hCX : Cel X6 (W.heap.size + 2) 51 #[.int .i64 (wd.pos : Nat), .slice ad Kq.length cap] := by rw [hX6]; exact HC5.out.set (j := 0) (.int .i64 (wd.pos : Nat))
                      obtain ⟨W6, hW6⟩ : ∃ W6, W6 = X6.alloc (.cells #[.int .i64 (wd.pos : Nat), .bool wd.braced, .slice adp wd.parts.length cpp] 48) := ⟨_, rfl⟩
                      have HT6 : Hid (Turn (fun g => g = W.heap.size + 1 ∨ g = W.heap.size + 2) wr W6) := by
                        rw [hW6]
                        exact ((HT5.out.mono (fun _ e => .inl e)).trans hTX (fun _ e _ => .inr e)).alloc _
                      have HL6 : Hid (Lx W6 (W.heap.size + 1) s j5 0 (.slice none 0 0)) := by rw [hW6]; exact (Cel.turn HL5.out hTX (by omega)).alloc _
                      have HC6 : Hid (Cel W6 (W.heap.size + 2) 51 #[.int .i64 (wd.pos : Nat), .slice ad Kq.length cap]) := by rw [hW6]; exact hCX.alloc _
                      have HD6 : Hid (QdOwn W6 wo.heap.size (.slice ad Kq.length cap) Kq) := by rw [hW6]; exact (HD5.out.turn hTX (fun k e => by omega)).below (below_new _ _)
                      have HP6 : Hid (QtOwn W6 wo.heap.size (.slice adp wd.parts.length cpp) wd.parts) := by rw [hW6]; exact (((HPO5.out.lower (by omega)).turn hTX (fun k e => by omega))).below (below_new _ _)
                      have HW6 : Hid (Cel W6 w5.heap.size 48 #[.int .i64 (wd.pos : Nat), .bool wd.braced, .slice adp wd.parts.length cpp]) := by
                        rw [hW6, ← hzX]
                        exact Cel.new X6 _ _
                      have hz7 : w5.heap.size + 1 ≤ W6.heap.size := by rw [hW6]; simp [hzX]
                      rw [← hX6, ← hW6]
                      clear hX6 hW6 hTX hCX hzX c0 c1 cf0 cf1 m2 HC5 HL5 HPO5 HD5 HT5
                      have k1 : W6.cell? ⟨W.heap.size + 2, 1, none⟩ = some (.slice ad Kq.length cap) := HC6.out.cell 1
                      have w0 : W6.cell? ⟨w5.heap.size, 0, none⟩ = some (.int .i64 (wd.pos : Nat)) := HW6.out.cell 0
                      have w1 : W6.cell? ⟨w5.heap.size, 1, none⟩ = some (.bool wd.braced) := HW6.out.cell 1
                      have w2 : W6.cell? ⟨w5.heap.size, 2, none⟩ = some (.slice adp wd.parts.length cpp) := HW6.out.cell 2
                      go_wp2_with (at_builtin; refine wpList_append_own_at _ rfl _ _ 49 rfl wo.heap.size 48 i0 _ 3 40 Tryz.underlying49 hi hz0 hz1 hz2 rfl (by decide) _ Kq.length _ rfl (World.ownsRow.alloc HD6.out.row _) ⟨W6.heap.size, 0, none⟩ 1 1 (wdC (.slice adp wd.parts.length cpp, wd)) rfl rfl (cells_new W6 (wdC (.slice adp wd.parts.length cpp, wd)) _) (by simp [Value.oneCell']) (by have := maxLen_big; omega) (by omega) (by simp; omega) ?_; intro v7 w7 hown hgrow _ _; obtain ⟨ad7, cap7, rfl⟩ := owns_slice hown; have hbel : Below wo.heap.size W6 w7 := grown_own (by simp; omega) ((Below.refl _ W6).alloc (by omega) _) (World.ownsRow.alloc HD6.out.row _) hgrow; have hC7 := HC6.out.below hbel (by omega); have d1 := hC7.cell 1; have df1 := hC7.frozen 1)
                      have hS : Turn (fun g => g = W.heap.size + 2) w7 (w7.setCell ⟨W.heap.size + 2, 1, none⟩ (.slice ad7 (Kq.length + 1) cap7)) := Turn.setCell (S := fun g => g = W.heap.size + 2) (p := ⟨W.heap.size + 2, 1, none⟩) (Turn.refl _ _) (fun _ => rfl) _
                      have hLf : Lx (w7.setCell ⟨W.heap.size + 2, 1, none⟩ (.slice ad7 (Kq.length + 1) cap7)) (W.heap.size + 1) s j5 0 (.slice none 0 0) := Cel.turn (Cel.below HL6.out hbel (by omega)) hS (by omega)
                      have hr := World.ownsRow.alloc HD6.out.row (.cells (wdC ((.slice adp wd.parts.length cpp : Value), wd)).toArray 48)
                      have hDf : QdOwn (w7.setCell ⟨W.heap.size + 2, 1, none⟩ (.slice ad7 (Kq.length + 1) cap7)) wo.heap.size (.slice ad7 (Kq.length + 1) cap7) (Kq ++ [((.slice adp wd.parts.length cpp : Value), wd)]) := by
                        refine ⟨?_, ?_⟩
                        · rw [wdCs_append, wdCs_one, List.length_append]
                          exact owns_turn hown hS (fun x hx e => by have := (World.ownsRow.lt hown x hx).1; omega)
                        · intro q hq
                          rcases List.mem_append.1 hq with hq | hq
                          · exact (((HD6.out.parts q hq).below (below_new _ _)).grown hr hgrow).turn hS (fun k e => by omega)
                          · rw [List.mem_singleton] at hq
                            subst hq
                            exact ((HP6.out.below (below_new _ _)).grown hr hgrow).turn hS (fun k e => by omega)
                      have hTf : Turn (fun g => g = W.heap.size + 1 ∨ g = W.heap.size + 2 ∨ wo.heap.size ≤ g) wr (w7.setCell ⟨W.heap.size + 2, 1, none⟩ (.slice ad7 (Kq.length + 1) cap7)) := ((HT6.out.mono (fun k e => by omega)).trans (Turn.above hbel) (fun k e _ => .inr (.inr e))).trans hS (fun k e _ => .inr (.inl e))
                      go_wp2_with fail
                      refine ⟨⟨rfl, wo, j5, K, Kq ++ [((.slice adp wd.parts.length cpp : Value), wd)], cn, ad7, cap7, hj5, by omega, by simp; omega, hzo, HB.out.trans (Turn.below hTf (fun k e => by omega) (by omega)), Cel.turn HF.out hTf (by omega), hLf, ?_, HQ.out, HT.out.trans hTf (fun k e _ => e), by rw [List.length_append]; exact hDf, ?_⟩, ?_⟩
                      · rw [HCN.out, List.length_append]
                        have hk := HK0.out
                        cases Kq with
                        | nil => first | exact hC7.set (j := 1) _ | exact absurd rfl hk
                        | cons _ _ => first | exact hC7.set (j := 1) _ | (simp at hk)
                      · rw [HRN.out, HU5.out, List.map_append]
                        rfl
                      · rw [HPO.out, Lx.pos hLf]
                        omega
                    · have hk1 : ((Kq.length : Int) == 0) = false := beq_eq_false_iff_ne.2 (by omega)
                      have HK0 : Hid _ := hk0
                      clear hk0
                      go_wp2_with fail
                      refine Calls.mono HBL.out ?_
                      rintro e w1 ⟨rfl, hw⟩
                      obtain rfl := hw.symm
                      clear hw
                      go_wp2_with fail
                      refine Calls.mono HWD.out ?_
                      rintro e w5 ⟨v', rfl, hT5, ⟨pv, rfl, hpo⟩, j5, y1, hj5, y2⟩
                      have HT5 : Hid (Turn (fun g => g = W.heap.size + 1) wr w5) := hT5
                      have HPO5 : Hid (QtOwn w5 wr.heap.size pv wd.parts) := hpo
                      obtain ⟨adp, cpp, rfl⟩ := HPO5.out.form
                      have HL5 : Hid (Lx w5 (W.heap.size + 1) s j5 0 (.slice none 0 0)) := y1
                      have HU5 : Hid (u = s.data.toList.drop j5) := y2
                      have hul : u.length = s.size - j5 := by rw [HU5.out, len_drop]
                      have hz5 : wr.heap.size ≤ w5.heap.size := HT5.out.size
                      have HC5 : Hid (Cel w5 (W.heap.size + 2) 51 #[.int .i64 (cp : Nat), .slice ad Kq.length cap]) := Cel.turn HC.out HT5.out (by omega)
                      have HD5 : Hid (QdOwn w5 wo.heap.size (.slice ad Kq.length cap) Kq) := HD.out.turn HT5.out (fun k e => by omega)
                      have m2 : w5.cell? ⟨W.heap.size + 1, 2, none⟩ = some (.int .i64 0) := Cel.cell HL5.out 2
                      have c0 : w5.cell? ⟨W.heap.size + 2, 0, none⟩ = some (.int .i64 (cp : Nat)) := HC5.out.cell 0
                      have c1 : w5.cell? ⟨W.heap.size + 2, 1, none⟩ = some (.slice ad Kq.length cap) := HC5.out.cell 1
                      have cf0 := HC5.out.frozen 0
                      have cf1 := HC5.out.frozen 1
                      have hn1 : ¬ W.heap.size + 1 = w5.heap.size := by omega
                      have hn2 : ¬ w5.heap.size = W.heap.size + 1 := by omega
                      have hn3 : ¬ W.heap.size + 2 = w5.heap.size := by omega
                      have hn4 : ¬ w5.heap.size = W.heap.size + 2 := by omega
                      have hn5 : W.heap.size + 1 < w5.heap.size := by omega
                      have hn6 : W.heap.size + 2 < w5.heap.size := by omega
                      clear hT5 hpo y1 y2 HWD m1 f0 f1 ff0 ff1 HL HC HD mf
                      go_upto_region 13 with fail
                      obtain ⟨X6, hX6⟩ : ∃ X6, X6 = w5 := ⟨_, rfl⟩
                      have hzX : X6.heap.size = w5.heap.size := by rw [hX6]
                      have hTX : Turn (fun g => g = W.heap.size + 2) w5 X6 := by rw [hX6]; exact Turn.refl _ _
                      have hCX : Cel X6 (W.heap.size + 2) 51 #[.int .i64 (cp : Nat), .slice ad Kq.length cap] := by rw [hX6]; exact HC5.out
                      obtain ⟨W6, hW6⟩ : ∃ W6, W6 = X6.alloc (.cells #[.int .i64 (wd.pos : Nat), .bool wd.braced, .slice adp wd.parts.length cpp] 48) := ⟨_, rfl⟩
                      have HT6 : Hid (Turn (fun g => g = W.heap.size + 1 ∨ g = W.heap.size + 2) wr W6) := by
                        rw [hW6]
                        exact ((HT5.out.mono (fun _ e => .inl e)).trans hTX (fun _ e _ => .inr e)).alloc _
                      have HL6 : Hid (Lx W6 (W.heap.size + 1) s j5 0 (.slice none 0 0)) := by rw [hW6]; exact (Cel.turn HL5.out hTX (by omega)).alloc _
                      have HC6 : Hid (Cel W6 (W.heap.size + 2) 51 #[.int .i64 (cp : Nat), .slice ad Kq.length cap]) := by rw [hW6]; exact hCX.alloc _
                      have HD6 : Hid (QdOwn W6 wo.heap.size (.slice ad Kq.length cap) Kq) := by rw [hW6]; exact (HD5.out.turn hTX (fun k e => by omega)).below (below_new _ _)
                      have HP6 : Hid (QtOwn W6 wo.heap.size (.slice adp wd.parts.length cpp) wd.parts) := by rw [hW6]; exact (((HPO5.out.lower (by omega)).turn hTX (fun k e => by omega))).below (below_new _ _)
                      have HW6 : Hid (Cel W6 w5.heap.size 48 #[.int .i64 (wd.pos : Nat), .bool wd.braced, .slice adp wd.parts.length cpp]) := by
                        rw [hW6, ← hzX]
                        exact Cel.new X6 _ _
                      have hz7 : w5.heap.size + 1 ≤ W6.heap.size := by rw [hW6]; simp [hzX]
                      rw [hX6] at hW6
                      rw [← hW6]
                      clear hX6 hW6 hTX hCX hzX c0 c1 cf0 cf1 m2 HC5 HL5 HPO5 HD5 HT5
                      have k1 : W6.cell? ⟨W.heap.size + 2, 1, none⟩ = some (.slice ad Kq.length cap) := HC6.out.cell 1
                      have w0 : W6.cell? ⟨w5.heap.size, 0, none⟩ = some (.int .i64 (wd.pos : Nat)) := HW6.out.cell 0
                      have w1 : W6.cell? ⟨w5.heap.size, 1, none⟩ = some (.bool wd.braced) := HW6.out.cell 1
                      have w2 : W6.cell? ⟨w5.heap.size, 2, none⟩ = some (.slice adp wd.parts.length cpp) := HW6.out.cell 2
                      go_wp2_with (at_builtin; refine wpList_append_own_at _ rfl _ _ 49 rfl wo.heap.size 48 i0 _ 3 40 Tryz.underlying49 hi hz0 hz1 hz2 rfl (by decide) _ Kq.length _ rfl (World.ownsRow.alloc HD6.out.row _) ⟨W6.heap.size, 0, none⟩ 1 1 (wdC (.slice adp wd.parts.length cpp, wd)) rfl rfl (cells_new W6 (wdC (.slice adp wd.parts.length cpp, wd)) _) (by simp [Value.oneCell']) (by have := maxLen_big; omega) (by omega) (by simp; omega) ?_; intro v7 w7 hown hgrow _ _; obtain ⟨ad7, cap7, rfl⟩ := owns_slice hown; have hbel : Below wo.heap.size W6 w7 := grown_own (by simp; omega) ((Below.refl _ W6).alloc (by omega) _) (World.ownsRow.alloc HD6.out.row _) hgrow; have hC7 := HC6.out.below hbel (by omega); have d1 := hC7.cell 1; have df1 := hC7.frozen 1)
                      have hS : Turn (fun g => g = W.heap.size + 2) w7 (w7.setCell ⟨W.heap.size + 2, 1, none⟩ (.slice ad7 (Kq.length + 1) cap7)) := Turn.setCell (S := fun g => g = W.heap.size + 2) (p := ⟨W.heap.size + 2, 1, none⟩) (Turn.refl _ _) (fun _ => rfl) _
                      have hLf : Lx (w7.setCell ⟨W.heap.size + 2, 1, none⟩ (.slice ad7 (Kq.length + 1) cap7)) (W.heap.size + 1) s j5 0 (.slice none 0 0) := Cel.turn (Cel.below HL6.out hbel (by omega)) hS (by omega)
                      have hr := World.ownsRow.alloc HD6.out.row (.cells (wdC ((.slice adp wd.parts.length cpp : Value), wd)).toArray 48)
                      have hDf : QdOwn (w7.setCell ⟨W.heap.size + 2, 1, none⟩ (.slice ad7 (Kq.length + 1) cap7)) wo.heap.size (.slice ad7 (Kq.length + 1) cap7) (Kq ++ [((.slice adp wd.parts.length cpp : Value), wd)]) := by
                        refine ⟨?_, ?_⟩
                        · rw [wdCs_append, wdCs_one, List.length_append]
                          exact owns_turn hown hS (fun x hx e => by have := (World.ownsRow.lt hown x hx).1; omega)
                        · intro q hq
                          rcases List.mem_append.1 hq with hq | hq
                          · exact (((HD6.out.parts q hq).below (below_new _ _)).grown hr hgrow).turn hS (fun k e => by omega)
                          · rw [List.mem_singleton] at hq
                            subst hq
                            exact ((HP6.out.below (below_new _ _)).grown hr hgrow).turn hS (fun k e => by omega)
                      have hTf : Turn (fun g => g = W.heap.size + 1 ∨ g = W.heap.size + 2 ∨ wo.heap.size ≤ g) wr (w7.setCell ⟨W.heap.size + 2, 1, none⟩ (.slice ad7 (Kq.length + 1) cap7)) := ((HT6.out.mono (fun k e => by omega)).trans (Turn.above hbel) (fun k e _ => .inr (.inr e))).trans hS (fun k e _ => .inr (.inl e))
                      go_wp2_with fail
                      refine ⟨⟨rfl, wo, j5, K, Kq ++ [((.slice adp wd.parts.length cpp : Value), wd)], cn, ad7, cap7, hj5, by omega, by simp; omega, hzo, HB.out.trans (Turn.below hTf (fun k e => by omega) (by omega)), Cel.turn HF.out hTf (by omega), hLf, ?_, HQ.out, HT.out.trans hTf (fun k e _ => e), by rw [List.length_append]; exact hDf, ?_⟩, ?_⟩
                      · rw [HCN.out, List.length_append]
                        have hk := HK0.out
                        cases Kq with
                        | nil => first | exact hC7.set (j := 1) _ | exact absurd rfl hk
                        | cons _ _ => first | exact hC7.set (j := 1) _ | (simp at hk)
                      · rw [HRN.out, HU5.out, List.map_append]
                        rfl
                      · rw [HPO.out, Lx.pos hLf]
                        omega
                    · have hk1 : ((Kq.length : Int) == 0) = false := beq_eq_false_iff_ne.2 (by omega)
                      have HK0 : Hid _ := hk0
                      clear hk0
                      go_wp2_with fail
                      refine Calls.mono HBL.out ?_
                      rintro e w1 ⟨rfl, hw⟩
                      obtain rfl := hw.symm
                      clear hw
                      go_wp2_with fail
                      refine Calls.mono HWD.out ?_
                      rintro e w5 ⟨v', rfl, hT5, ⟨pv, rfl, hpo⟩, j5, y1, hj5, y2⟩
                      have HT5 : Hid (Turn (fun g => g = W.heap.size + 1) wr w5) := hT5
                      have HPO5 : Hid (QtOwn w5 wr.heap.size pv wd.parts) := hpo
                      obtain ⟨adp, cpp, rfl⟩ := HPO5.out.form
                      have HL5 : Hid (Lx w5 (W.heap.size + 1) s j5 0 (.slice none 0 0)) := y1
                      have HU5 : Hid (u = s.data.toList.drop j5) := y2
                      have hul : u.length = s.size - j5 := by rw [HU5.out, len_drop]
                      have hz5 : wr.heap.size ≤ w5.heap.size := HT5.out.size
                      have HC5 : Hid (Cel w5 (W.heap.size + 2) 51 #[.int .i64 (cp : Nat), .slice ad Kq.length cap]) := Cel.turn HC.out HT5.out (by omega)
                      have HD5 : Hid (QdOwn w5 wo.heap.size (.slice ad Kq.length cap) Kq) := HD.out.turn HT5.out (fun k e => by omega)
                      have m2 : w5.cell? ⟨W.heap.size + 1, 2, none⟩ = some (.int .i64 0) := Cel.cell HL5.out 2
                      have c0 : w5.cell? ⟨W.heap.size + 2, 0, none⟩ = some (.int .i64 (cp : Nat)) := HC5.out.cell 0
                      have c1 : w5.cell? ⟨W.heap.size + 2, 1, none⟩ = some (.slice ad Kq.length cap) := HC5.out.cell 1
                      have cf0 := HC5.out.frozen 0
                      have cf1 := HC5.out.frozen 1
                      have hn1 : ¬ W.heap.size + 1 = w5.heap.size := by omega
                      have hn2 : ¬ w5.heap.size = W.heap.size + 1 := by omega
                      have hn3 : ¬ W.heap.size + 2 = w5.heap.size := by omega
                      have hn4 : ¬ w5.heap.size = W.heap.size + 2 := by omega
                      have hn5 : W.heap.size + 1 < w5.heap.size := by omega
                      have hn6 : W.heap.size + 2 < w5.heap.size := by omega
                      clear hT5 hpo y1 y2 HWD m1 f0 f1 ff0 ff1 HL HC HD mf
                      go_upto_region 13 with fail
                      obtain ⟨X6, hX6⟩ : ∃ X6, X6 = w5 := ⟨_, rfl⟩
                      have hzX : X6.heap.size = w5.heap.size := by rw [hX6]
                      have hTX : Turn (fun g => g = W.heap.size + 2) w5 X6 := by rw [hX6]; exact Turn.refl _ _
                      have hCX : Cel X6 (W.heap.size + 2) 51 #[.int .i64 (cp : Nat), .slice ad Kq.length cap] := by rw [hX6]; exact HC5.out
                      obtain ⟨W6, hW6⟩ : ∃ W6, W6 = X6.alloc (.cells #[.int .i64 (wd.pos : Nat), .bool wd.braced, .slice adp wd.parts.length cpp] 48) := ⟨_, rfl⟩
                      have HT6 : Hid (Turn (fun g => g = W.heap.size + 1 ∨ g = W.heap.size + 2) wr W6) := by
                        rw [hW6]
                        exact ((HT5.out.mono (fun _ e => .inl e)).trans hTX (fun _ e _ => .inr e)).alloc _
                      have HL6 : Hid (Lx W6 (W.heap.size + 1) s j5 0 (.slice none 0 0)) := by rw [hW6]; exact (Cel.turn HL5.out hTX (by omega)).alloc _
                      have HC6 : Hid (Cel W6 (W.heap.size + 2) 51 #[.int .i64 (cp : Nat), .slice ad Kq.length cap]) := by rw [hW6]; exact hCX.alloc _
                      have HD6 : Hid (QdOwn W6 wo.heap.size (.slice ad Kq.length cap) Kq) := by rw [hW6]; exact (HD5.out.turn hTX (fun k e => by omega)).below (below_new _ _)
                      have HP6 : Hid (QtOwn W6 wo.heap.size (.slice adp wd.parts.length cpp) wd.parts) := by rw [hW6]; exact (((HPO5.out.lower (by omega)).turn hTX (fun k e => by omega))).below (below_new _ _)
                      have HW6 : Hid (Cel W6 w5.heap.size 48 #[.int .i64 (wd.pos : Nat), .bool wd.braced, .slice adp wd.parts.length cpp]) := by
                        rw [hW6, ← hzX]
                        exact Cel.new X6 _ _
                      have hz7 : w5.heap.size + 1 ≤ W6.heap.size := by rw [hW6]; simp [hzX]
                      rw [hX6] at hW6
                      rw [← hW6]
                      clear hX6 hW6 hTX hCX hzX c0 c1 cf0 cf1 m2 HC5 HL5 HPO5 HD5 HT5
                      have k1 : W6.cell? ⟨W.heap.size + 2, 1, none⟩ = some (.slice ad Kq.length cap) := HC6.out.cell 1
                      have w0 : W6.cell? ⟨w5.heap.size, 0, none⟩ = some (.int .i64 (wd.pos : Nat)) := HW6.out.cell 0
                      have w1 : W6.cell? ⟨w5.heap.size, 1, none⟩ = some (.bool wd.braced) := HW6.out.cell 1
                      have w2 : W6.cell? ⟨w5.heap.size, 2, none⟩ = some (.slice adp wd.parts.length cpp) := HW6.out.cell 2
                      go_wp2_with (at_builtin; refine wpList_append_own_at _ rfl _ _ 49 rfl wo.heap.size 48 i0 _ 3 40 Tryz.underlying49 hi hz0 hz1 hz2 rfl (by decide) _ Kq.length _ rfl (World.ownsRow.alloc HD6.out.row _) ⟨W6.heap.size, 0, none⟩ 1 1 (wdC (.slice adp wd.parts.length cpp, wd)) rfl rfl (cells_new W6 (wdC (.slice adp wd.parts.length cpp, wd)) _) (by simp [Value.oneCell']) (by have := maxLen_big; omega) (by omega) (by simp; omega) ?_; intro v7 w7 hown hgrow _ _; obtain ⟨ad7, cap7, rfl⟩ := owns_slice hown; have hbel : Below wo.heap.size W6 w7 := grown_own (by simp; omega) ((Below.refl _ W6).alloc (by omega) _) (World.ownsRow.alloc HD6.out.row _) hgrow; have hC7 := HC6.out.below hbel (by omega); have d1 := hC7.cell 1; have df1 := hC7.frozen 1)
                      have hS : Turn (fun g => g = W.heap.size + 2) w7 (w7.setCell ⟨W.heap.size + 2, 1, none⟩ (.slice ad7 (Kq.length + 1) cap7)) := Turn.setCell (S := fun g => g = W.heap.size + 2) (p := ⟨W.heap.size + 2, 1, none⟩) (Turn.refl _ _) (fun _ => rfl) _
                      have hLf : Lx (w7.setCell ⟨W.heap.size + 2, 1, none⟩ (.slice ad7 (Kq.length + 1) cap7)) (W.heap.size + 1) s j5 0 (.slice none 0 0) := Cel.turn (Cel.below HL6.out hbel (by omega)) hS (by omega)
                      have hr := World.ownsRow.alloc HD6.out.row (.cells (wdC ((.slice adp wd.parts.length cpp : Value), wd)).toArray 48)
                      have hDf : QdOwn (w7.setCell ⟨W.heap.size + 2, 1, none⟩ (.slice ad7 (Kq.length + 1) cap7)) wo.heap.size (.slice ad7 (Kq.length + 1) cap7) (Kq ++ [((.slice adp wd.parts.length cpp : Value), wd)]) := by
                        refine ⟨?_, ?_⟩
                        · rw [wdCs_append, wdCs_one, List.length_append]
                          exact owns_turn hown hS (fun x hx e => by have := (World.ownsRow.lt hown x hx).1; omega)
                        · intro q hq
                          rcases List.mem_append.1 hq with hq | hq
                          · exact (((HD6.out.parts q hq).below (below_new _ _)).grown hr hgrow).turn hS (fun k e => by omega)
                          · rw [List.mem_singleton] at hq
                            subst hq
                            exact ((HP6.out.below (below_new _ _)).grown hr hgrow).turn hS (fun k e => by omega)
                      have hTf : Turn (fun g => g = W.heap.size + 1 ∨ g = W.heap.size + 2 ∨ wo.heap.size ≤ g) wr (w7.setCell ⟨W.heap.size + 2, 1, none⟩ (.slice ad7 (Kq.length + 1) cap7)) := ((HT6.out.mono (fun k e => by omega)).trans (Turn.above hbel) (fun k e _ => .inr (.inr e))).trans hS (fun k e _ => .inr (.inl e))
                      go_wp2_with fail
                      refine ⟨⟨rfl, wo, j5, K, Kq ++ [((.slice adp wd.parts.length cpp : Value), wd)], cn, ad7, cap7, hj5, by omega, by simp; omega, hzo, HB.out.trans (Turn.below hTf (fun k e => by omega) (by omega)), Cel.turn HF.out hTf (by omega), hLf, ?_, HQ.out, HT.out.trans hTf (fun k e _ => e), by rw [List.length_append]; exact hDf, ?_⟩, ?_⟩
                      · rw [HCN.out, List.length_append]
                        have hk := HK0.out
                        cases Kq with
                        | nil => first | exact hC7.set (j := 1) _ | exact absurd rfl hk
                        | cons _ _ => first | exact hC7.set (j := 1) _ | (simp at hk)
                      · rw [HRN.out, HU5.out, List.map_append]
                        rfl
                      · rw [HPO.out, Lx.pos hLf]
                        omega
    · have hge : ¬ (p : Int) < (s.size : Int) := by omega
      have hRE : R = .ok (if (Kq.map Prod.snd).isEmpty then K.map toCm else K.map toCm ++ [⟨cp, Kq.map Prod.snd⟩]) := by
        rw [HRR.out, drop_none s p hlt, docA_nil]
      by_cases hk0 : Kq.length = 0
      · have hk1 : ¬ (0 : Int) < (Kq.length : Int) := by omega
        have HRE : Hid (R = .ok (K.map toCm)) := by
          unfold Hid
          rw [hRE, List.eq_nil_of_length_eq_zero hk0]
          rfl
        have HFX : Hid (Cel wr W.heap.size 31 #[.int .i64 0, .slice none 0 0]) := HF.out
        have HBX : Hid (Below W.heap.size W wr) := HB.out
        have HQX : Hid (QmOwn wr (W.heap.size + 3) (.slice adq K.length cpq) K) := HQ2.out
        have hzx : W.heap.size + 3 ≤ wr.heap.size := by omega
        clear hRE
        go_wp2_with fail
        refine Calls.mono (none_any _) ?_
        rintro e w1 ⟨rfl, hb1⟩
        have HB1 : Hid _ := hb1
        have HF1 : Hid (Cel w1 W.heap.size 31 #[.int .i64 0, .slice none 0 0]) := HFX.out.below hb1 (by omega)
        have g0 := HF1.out.cell 0
        have g1 := HF1.out.cell 1
        have gf0 := HF1.out.frozen 0
        have gf1 := HF1.out.frozen 1
        clear hb1 f0 f1 ff0 ff1
        go_wp2_with fail
        refine bodyPost_ret (results_flt (p := 3) (u := 2) rfl _ _ W.heap.size _ rfl ((HF1.out.set (j := 0) (.int .i64 0)).set (j := 1) (.slice none 0 0)) rfl) rfl ?_
        rw [HRE.out]
        have hTs : Turn (fun g => g = W.heap.size) w1 ((w1.setCell ⟨W.heap.size, 0, none⟩ (.int .i64 0)).setCell ⟨W.heap.size, 1, none⟩ (.slice none 0 0)) := (Turn.setCell (S := fun g => g = W.heap.size) (p := ⟨W.heap.size, 0, none⟩) (Turn.refl _ _) (fun _ => rfl) _).setCell (p := ⟨W.heap.size, 1, none⟩) (fun _ => rfl) _
        exact ⟨_, _, rfl, (HBX.out.trans (HB1.out.mono (by omega))).trans (Turn.below hTs (fun k e => by omega) (by have := HB1.out.size; omega)), rfl, _, rfl, ((HQX.out.below HB1.out).turn hTs (fun k e => by omega)).lower (by omega)⟩
      · have hk1 : (0 : Int) < (Kq.length : Int) := by omega
        have HRE : Hid (R = .ok (K.map toCm ++ [⟨cp, Kq.map Prod.snd⟩])) := by
          unfold Hid
          rw [hRE, if_neg (by cases Kq with
            | nil => exact absurd rfl hk0
            | cons _ _ => simp)]
        clear hRE
        go_wp2_with (at_builtin; refine wpList_append_own_at _ rfl _ _ 28 rfl (W.heap.size + 3) 51 j0 _ 2 32 Tryz.underlying28 hj hy0 hy1 hy2 rfl (by decide) _ K.length _ rfl (World.ownsRow.alloc HQ2.out.row _) ⟨wr.heap.size, 0, none⟩ 1 1 (cmC (.slice ad Kq.length cap, cp, Kq)) rfl rfl (cells_new wr (cmC (.slice ad Kq.length cap, cp, Kq)) _) (by simp [Value.oneCell']) (by have := maxLen_big; omega) (by omega) (by simp; omega) ?_; intro v6 w6 hown hgrow _ _; obtain ⟨ad6, cap6, rfl⟩ := owns_slice hown; have hbel : Below (W.heap.size + 3) wr w6 := grown_own (by simp; omega) ((Below.refl _ wr).alloc (by omega) _) (World.ownsRow.alloc HQ2.out.row _) hgrow; skip)
        have HQX : Hid (QmOwn w6 (W.heap.size + 3) (.slice ad6 (K.length + 1) cap6) (K ++ [(.slice ad Kq.length cap, cp, Kq)])) := qm_snoc HQ2.out HD.out (by omega) _ hown hgrow
        have HFX : Hid (Cel w6 W.heap.size 31 #[.int .i64 0, .slice none 0 0]) := HF.out.below hbel (by omega)
        have HBX : Hid (Below W.heap.size W w6) := HB.out.trans (hbel.mono (by omega))
        have hzx : W.heap.size + 3 ≤ w6.heap.size := by have := hbel.size; omega
        clear hown hgrow hbel HF HB HQ HQ2 HT HD HL HC m1 m2 mf c0 c1 f0 f1 ff0 ff1
        have f0 := HFX.out.cell 0
        have f1 := HFX.out.cell 1
        have ff0 := HFX.out.frozen 0
        have ff1 := HFX.out.frozen 1
        go_wp2_with fail
        refine Calls.mono (none_any _) ?_
        rintro e w1 ⟨rfl, hb1⟩
        have HB1 : Hid _ := hb1
        have HF1 : Hid (Cel w1 W.heap.size 31 #[.int .i64 0, .slice none 0 0]) := HFX.out.below hb1 (by omega)
        have g0 := HF1.out.cell 0
        have g1 := HF1.out.cell 1
        have gf0 := HF1.out.frozen 0
        have gf1 := HF1.out.frozen 1
        clear hb1 f0 f1 ff0 ff1
        go_wp2_with fail
        refine bodyPost_ret (results_flt (p := 3) (u := 2) rfl _ _ W.heap.size _ rfl ((HF1.out.set (j := 0) (.int .i64 0)).set (j := 1) (.slice none 0 0)) rfl) rfl ?_
        rw [HRE.out]
        have hTs : Turn (fun g => g = W.heap.size) w1 ((w1.setCell ⟨W.heap.size, 0, none⟩ (.int .i64 0)).setCell ⟨W.heap.size, 1, none⟩ (.slice none 0 0)) := (Turn.setCell (S := fun g => g = W.heap.size) (p := ⟨W.heap.size, 0, none⟩) (Turn.refl _ _) (fun _ => rfl) _).setCell (p := ⟨W.heap.size, 1, none⟩) (fun _ => rfl) _
        exact ⟨_, _, rfl, (HBX.out.trans (HB1.out.mono (by omega))).trans (Turn.below hTs (fun k e => by omega) (by have := HB1.out.size; omega)), rfl, _, (by rw [List.map_append]; rfl), ((HQX.out.below HB1.out).turn hTs (fun k e => by omega)).lower (by omega)⟩
end Go.Proofs.YtlihkblllakhmaaGreatDoor
