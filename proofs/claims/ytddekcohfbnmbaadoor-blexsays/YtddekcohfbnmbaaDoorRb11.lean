/- The document's own lexer, a round: a dollar. -/
import Derived.Test.YtddekcohfbnmbaaDoorRb9
namespace Go.Proofs.YtddekcohfbnmbaaDoor
open Go.RowKit
attribute [local go_sem] Oper.semAt_some

set_option maxRecDepth 100000 in
set_option maxHeartbeats 16000000 in
theorem rd_var (s : ByteArray) (hs : s.size ≤ 8192) (b0 : Nat) (W1 : World) (hz : W1.heap.size = b0 + 3) (HFL : Hid (Cel W1 b0 31 #[.int .i64 0, .slice none 0 0])) (HOT1 : Hid (Cel W1 (b0 + 1) 9 opsTV)) (HOK1 : Hid (Cel W1 (b0 + 2) 3 opsKV)) (T : List UInt8 → Except Er (Tb × List UInt8)) (HT : Hid (T = tokenL s.size)) (R : Except Er (List Tb)) (q p g : Nat) (en : Int) (K : List Tb) (ad : Option Addr) (cap : Nat) (hqp : q ≤ p) (hp : p ≤ s.size) (hg : s.size - q < g) (hKq : K.length ≤ q) (_hK0 : 0 < q → 0 < K.length) (hen : en = enI q) (HOV : Hid (over (s.data.toList.drop p) = over (s.data.toList.drop q))) (wr : World) (HL : Hid (Lsb W1 (.slice ad K.length cap) K wr)) (HEQ : Hid (R = preT K (lexW T g (s.data.toList.drop q)))) (Q : Exit → Act → World → Prop) (y1 y9 y10 y11 y12 y13 y14 y15 y16 y17 y18 y19 y20 y21 y22 y23 y24 y25 y26 y27 y28 y29 y30 y31 y32 y33 y34 y35 y36 y37 y38 y39 y40 y41 y42 y43 y44 y45 y46 y47 y48 y49 y50 y51 y52 y53 y54 y55 y56 y57 y58 y59 y60 y61 y62 y63 y64 y65 y66 y67 y68 y69 y70 y71 y72 y73 y74 y75 y76 y77 y78 y79 y80 y81 y82 y83 y84 y85 y86 y87 y88 y89 y90 y91 y92 y93 y94 y95 y96 y97 y98 y99 y100 y101 y102 y103 y104 y105 y106 y107 y108 y109 y110 y111 y112 y113 y114 y115 y116 y117 y118 y119 y120 y121 y122 y123 y124 y125 y126 y127 y128 y129 y130 y131 y132 y133 y134 y135 y136 y137 y138 y139 y140 y141 y142 y143 y144 y145 y146 y147 y148 y149 y150 y151 y152 y153 y154 y155 y156 y157 y158 y159 y160 y161 y162 y163 y164 y165 y166 y167 y168 y169 y170 y171 y172 y173 y174 y175 y176 y177 y178 y179 y180 y181 y182 y183 y184 y185 y186 y187 y188 y189 y190 y191 y192 y193 y194 y195 y196 y197 y198 y199 y200 y201 y202 y203 y204 y205 y206 y207 y208 y209 y210 y211 y212 y213 y214 y215 y216 y217 y218 y219 y220 y221 y222 y223 y224 y225 y226 y227 y228 y229 y230 y231 y232 y233 y234 y235 y236 y237 y238 y239 y240 y241 y242 y243 y244 y245 y246 y247 y248 y249 y250 y251 y252 y253 y254 y255 y256 y257 y258 y259 y260 y261 y262 y263 y264 y265 y266 y267 y268 y269 y270 y271 y272 y273 y274 y275 y276 y277 y278 y279 y280 y281 y282 y283 y284 y285 y286 y287 y288 y289 y290 y291 y292 y293 y294 y295 y296 y297 y298 y299 y300 y301 : Value) (HN : NextOk Q s b0 W1 T R p y1 y14 y15 y16 y17 y18 y19 y20 y21 y286 y287 y288 y289 y290 y291 y292 y293 y294 y295 y296 y297 y298 y299 y300 y301) (HR : RetOk Q s b0 W1 R y1 y14 y15 y16 y17 y18 y19 y20 y21 y286 y287 y288 y289 y290 y291 y292 y293 y294 y295 y296 y297 y298 y299 y300 y301) (hlt : p < s.size) (hblk : blk s[p] = false) (c35 : s[p] ≠ 35) (hnone : ∀ j, j < 17 → isOp (s.data.toList.drop p) j = false) (c36 : s[p] = 36) (hl1 : p + 1 < s.size) (cb : s[p + 1] ≠ 35) (cd : s[p + 1] ≠ 34) : Code.wp Tryd.prog (cL (cL (cL (cR (cR (cR (cR (cR (cR (Tryd.f9.body.getD .skip)))))))))) Q ⟨#[.string s, y1, .slice none 0 0, .pointer (some ⟨b0, 0, none⟩), .slice (some ⟨b0 + 1, 0, none⟩) 17 17, .slice (some ⟨b0 + 2, 0, none⟩) 17 17, .slice ad K.length cap, .int .i64 (p : Nat), .int .i64 en, y9, y10, y11, y12, y13, y14, y15, y16, y17, y18, y19, y20, y21, y22, y23, y24, y25, y26, y27, y28, y29, y30, y31, y32, y33, y34, y35, y36, y37, y38, y39, y40, y41, y42, y43, y44, y45, y46, y47, y48, y49, y50, y51, y52, y53, y54, y55, y56, y57, y58, y59, y60, y61, y62, y63, y64, y65, y66, y67, y68, y69, y70, y71, y72, y73, y74, y75, y76, y77, y78, y79, y80, y81, y82, y83, y84, y85, y86, y87, y88, y89, y90, y91, y92, y93, y94, y95, y96, y97, y98, y99, y100, y101, y102, y103, y104, y105, y106, y107, y108, y109, y110, y111, y112, y113, y114, y115, y116, y117, y118, y119, y120, y121, y122, y123, y124, y125, y126, y127, y128, y129, y130, y131, y132, y133, y134, y135, y136, y137, y138, y139, y140, y141, y142, y143, y144, y145, y146, y147, y148, y149, y150, y151, y152, y153, y154, y155, y156, y157, y158, y159, y160, y161, y162, y163, y164, y165, y166, y167, y168, y169, y170, y171, y172, y173, y174, y175, y176, y177, y178, y179, y180, y181, y182, y183, y184, y185, y186, y187, y188, y189, y190, y191, y192, y193, y194, y195, y196, y197, y198, y199, y200, y201, y202, y203, y204, y205, y206, y207, y208, y209, y210, y211, y212, y213, y214, y215, y216, y217, y218, y219, y220, y221, y222, y223, y224, y225, y226, y227, y228, y229, y230, y231, y232, y233, y234, y235, y236, y237, y238, y239, y240, y241, y242, y243, y244, y245, y246, y247, y248, y249, y250, y251, y252, y253, y254, y255, y256, y257, y258, y259, y260, y261, y262, y263, y264, y265, y266, y267, y268, y269, y270, y271, y272, y273, y274, y275, y276, y277, y278, y279, y280, y281, y282, y283, y284, y285, y286, y287, y288, y289, y290, y291, y292, y293, y294, y295, y296, y297, y298, y299, y300, y301], []⟩ wr := by
  obtain ⟨i0, hi, hz0, hz1, hz2⟩ := info_parts infoTB
  have hlt' : (p : Int) < (s.size : Int) := by omega
  have hs' : (s.size : Int) ≤ 8192 := by omega
  have HEN : Hid (en = enI q) := hen
  
  have d38 : (((s[p]).toNat : Int) == 38) = false := by rw [c36]; rfl
  have d96 : (((s[p]).toNat : Int) == 96) = false := by rw [c36]; rfl
  have d39 : (((s[p]).toNat : Int) == 39) = false := by rw [c36]; rfl
  have d36 : (((s[p]).toNat : Int) == 36) = true := by rw [c36]; rfl
  have C36 : Hid (s[p] = 36) := c36
  clear c36
  have HDL : Hid (∀ gl, dollar p gl (s.data.toList.drop (p + 1)) = dolT 20 p gl (s.data.toList.drop (p + 1))) := fun gl => dollar_var _ _ _ (by rw [head_at s (p + 1) hl1]; exact fun e => cb (Option.some.inj e)) (by rw [head_at s (p + 1) hl1]; exact fun e => cd (Option.some.inj e))
  have hl1' : (p : Int) + 1 < (s.size : Int) := by omega
  have hg0 : 0 ≤ (p : Int) + 1 := by omega
  have htn : ((p : Int) + 1).toNat = p + 1 := by omega
  have f35 : (((s[p + 1]).toNat : Int) == 35) = false := byte_ne _ _ cb
  have f34 : (((s[p + 1]).toNat : Int) == 34) = false := byte_ne _ _ cd
  clear cb cd
  
  have d32 : (((s[p]).toNat : Int) == 32) = false := byte_ne s[p] 32 (by rintro e; rw [e] at hblk; cases hblk)
  have d9 : (((s[p]).toNat : Int) == 9) = false := byte_ne s[p] 9 (by rintro e; rw [e] at hblk; cases hblk)
  have d35 : (((s[p]).toNat : Int) == 35) = false := byte_ne s[p] 35 c35
  obtain ⟨g, rfl⟩ : ∃ g', g = g' + 1 := ⟨g - 1, by omega⟩
  have hN : s.size - ((s.data.toList.drop (p + 1)).length + 1) = p := by rw [len_drop']; omega
  have HOQ : Hid (over (s.data.toList.drop q) = s[p] :: s.data.toList.drop (p + 1)) := by
    unfold Hid
    rw [← HOV.out, drop_cons s p hlt, over_none _ hblk c35]
  obtain ⟨gl, hgl⟩ : ∃ gl, (en == (p : Int)) = gl := ⟨_, rfl⟩
  have HGL : Hid (gl = glueB s.size (s.data.toList.drop q) (s[p] :: s.data.toList.drop (p + 1))) := by
    unfold Hid
    rw [← hgl, hen, glue_is s q p hqp hp, ← drop_cons s p hlt]
  have HB35 : Hid (blk s[p] = false ∧ s[p] ≠ 35) := ⟨hblk, c35⟩
  clear HOV c35 hblk hen
  obtain ⟨wo, hwo⟩ : ∃ wo, wo = wr := ⟨_, rfl⟩
  subst hwo
  show Code.wp _ (Code.seq (Code.seq (Code.region 7 _ _) _) (Code.block 1 _)) _ _ _
  go_upto_region 15 with fail
  obtain ⟨tb, htb⟩ : ∃ tb, tb = wo.heap.size := ⟨_, rfl⟩
  obtain ⟨X, hX⟩ : ∃ X, X = wo.alloc (.cells (mkC 0 p 0 ⟨#[]⟩ gl) 55) := ⟨_, rfl⟩
  have HX : Hid (wo.alloc (.cells #[.int .i64 0, .int .i64 (p : Nat), .int .i64 0, .string ⟨#[]⟩, .bool gl] 55) = X) := hX.symm
  have HM0 : Hid (Mk wo tb 0 p 0 ⟨#[]⟩ gl X) := by rw [hX, htb]; exact Mk.new _ _ _ _ _ _
  rw [HX.out, ← htb]
  have hbt : b0 + 3 ≤ tb := by have := HL.out.below.size; omega
  clear hX HX htb
  have HOT : Hid (∀ m k, k < 17 → (X.drewN m).cell? ⟨b0 + 1, k, none⟩ = some (str ((opsT[k]?).getD []))) := fun m k hk => by
    have h1 : Cel X (b0 + 1) 9 opsTV := (HOT1.out.below HL.out.below (by omega)).below HM0.out.below (by omega)
    exact (Cel.cell (W := X.drewN m) h1 k).trans (ops_at k hk).1
  have HOK : Hid (∀ m k, k < 17 → (X.drewN m).cell? ⟨b0 + 2, k, none⟩ = some (.int .i64 (((opsK[k]?).getD 0 : Nat) : Int))) := fun m k hk => by
    have h1 : Cel X (b0 + 2) 3 opsKV := (HOK1.out.below HL.out.below (by omega)).below HM0.out.below (by omega)
    exact (Cel.cell (W := X.drewN m) h1 k).trans (ops_at k hk).2
  have HF2 : Hid (∀ j, j < 17 → isOp (s.data.toList.drop p) j = false) := hnone
  have HBE : Hid (best 18 (s[p] :: s.data.toList.drop (p + 1)) = 0) := by
    unfold Hid
    rw [← drop_cons s p hlt]
    exact ops_none _ hnone
  have HRW : Hid (R = preT K (aftB T g (writ p gl s[p] (s.data.toList.drop (p + 1))))) := by
    unfold Hid
    rw [HEQ.out, HT.out, lex_writ HOQ.out HBE.out, hN, ← HGL.out]
  clear hnone HEQ
  go_wp2_with fail
  go_loopw [7, 11] (fun v7 v11 w3 => ∃ k m : Nat, v7 = .int .i64 (p : Nat) ∧ v11 = .int .i64 (k : Nat) ∧ k ≤ 17 ∧ w3 = X.drewN m) (fun _ v11 _ => 18 - (intOf v11).toNat)
  case atStart => exact ⟨0, 0, rfl, rfl, Nat.zero_le _, rfl⟩
  case round =>
    obtain ⟨k, m, rfl, rfl, hk, rfl⟩ := hrel
    have HMX : Hid (Mk wo tb 0 p 0 ⟨#[]⟩ gl (X.drewN m)) := HM0.out.drewN m
    have x0 : (X.drewN m).cell? ⟨tb, 0, none⟩ = some (.int .i64 0) := HMX.out.cel.cell 0
    rcases Nat.lt_or_ge k 17 with hlk | hgk
    · have hk17 : (k : Int) < 17 := by omega
      have t0 := HOT.out m k hlk
      have HNO := HF2.out k hlk
      have hol := (sgn_ops k hlk).2.2
      unfold isOp at HNO
      generalize (opsT[k]?).getD [] = tk at t0 HNO hol
      obtain ⟨t, ht⟩ : ∃ t : ByteArray, t = ⟨tk.toArray⟩ := ⟨_, rfl⟩
      have htl : t.size = tk.length := by rw [ht]; rfl
      have htd : tk = t.data.toList := by rw [ht]
      rw [htd] at HNO
      rw [show str tk = .string t by rw [ht]] at t0
      obtain ⟨hol1, hol2⟩ := hol
      rw [← htl] at hol1 hol2
      clear ht htl htd
      obtain ⟨Wm, hWm⟩ : ∃ Wm, Wm = X.drewN m := ⟨_, rfl⟩
      have HWM : Hid (Wm = X.drewN m) := hWm
      rw [← hWm] at t0 x0 ⊢
      clear hWm HMX
      by_cases hkk : p + t.size ≤ s.size
      · have hk' : (p : Int) + (t.size : Int) ≤ (s.size : Int) := by omega
        have hE : ((s.extract p (p + t.size)).toList == t.toList) = false := (pre_yes s t p).trans HNO
        clear HNO
        go_wp2_with fail
        go_quiet (fail)
        go_wp2_with fail
        exact ⟨⟨k + 1, m + nq, rfl, by simp, by omega, by rw [HWM.out, World.drewN_drewN]⟩, by simp [intOf]; omega⟩
      · have hk' : decide ((p : Int) + (t.size : Int) ≤ (s.size : Int)) = false := decide_eq_false (by omega)
        clear HNO
        go_wp2_with fail
        go_quiet (fail)
        go_wp2_with fail
        exact ⟨⟨k + 1, m + nq, rfl, by simp, by omega, by rw [HWM.out, World.drewN_drewN]⟩, by simp [intOf]; omega⟩
    · have hk17 : ¬ (k : Int) < 17 := by omega
      clear hk
      obtain ⟨Y, hY⟩ : ∃ Y, Y = X.drewN m := ⟨_, rfl⟩
      rw [← hY] at HMX x0 ⊢
      clear hY HOT HOK HM0 HF2 hgk
      have HBX : Hid (Below (b0 + 3) W1 Y) := by have h := (HMX.out.lsb HL.out).below; rwa [hz] at h
      have xf0 := HMX.out.cel.frozen 0
      have xf2 := HMX.out.cel.frozen 2
      have xf3 := HMX.out.cel.frozen 3
      have x2 : Y.cell? ⟨tb, 2, none⟩ = some (.int .i64 0) := HMX.out.cel.cell 2
      have x3 : Y.cell? ⟨tb, 3, none⟩ = some (.string ⟨#[]⟩) := HMX.out.cel.cell 3
      obtain ⟨J, hJ⟩ : ∃ J, J = p + 1 := ⟨_, rfl⟩
      have hJs : J ≤ s.size := by omega
      have hpJ : p < J := by omega
      have HRJ : Hid (R = preT K (aftB T g (dolT 20 p gl (s.data.toList.drop J)))) := by
        unfold Hid
        rw [hJ, HRW.out, C36.out, writ_dollar, HDL.out gl]
      clear HRW HDL
      go_upto_region 52 with fail
      generalize (s[p + 1]).toNat = cbv at f35 f34 ⊢
      rw [show ((p : Int) + 1) = (J : Nat) by omega]
      obtain ⟨Z, hZ⟩ : ∃ Z, Z = Y.setCell ⟨tb, 0, none⟩ (.int .i64 20) := ⟨_, rfl⟩
      have HMZ : Hid (Mk wo tb 20 p 0 ⟨#[]⟩ gl Z) := by rw [hZ]; exact HMX.out.setK 20 rfl
      rw [← hZ]
      have HBX : Hid (Below (b0 + 3) W1 Z) := by have h := (HMZ.out.lsb HL.out).below; rwa [hz] at h
      clear hZ HMX x0 xf0 xf2 xf3 x2 x3
      have z0 : Z.cell? ⟨tb, 0, none⟩ = some (.int .i64 20) := HMZ.out.cel.cell 0
      have z2 : Z.cell? ⟨tb, 2, none⟩ = some (.int .i64 0) := HMZ.out.cel.cell 2
      have z3 : Z.cell? ⟨tb, 3, none⟩ = some (.string ⟨#[]⟩) := HMZ.out.cel.cell 3
      have zf0 := HMZ.out.cel.frozen 0
      have zf2 := HMZ.out.cel.frozen 2
      have zf3 := HMZ.out.cel.frozen 3
      have HRUN : Hid _ := runR_any s J Z (by omega)
      clear hJ
      by_cases hnr : nrun (s.data.toList.drop J) = []
      · have hrn : R = preT K (aftB T g (dolT 20 p gl (s.data.toList.drop J))) := HRJ.out
        clear HRUN
        have HRUN : Hid _ := run_no s J Z hnr
        by_cases hlj : J < s.size
        · have hlj' : (J : Int) < (s.size : Int) := by omega
          by_cases h42 : s[J] = 42
          · have f42 : (((s[J]).toNat : Int) == 42) = true := by rw [h42]; rfl
            obtain ⟨a, ha⟩ : ∃ a : ByteArray, a = ⟨#[42]⟩ := ⟨_, rfl⟩
            obtain ⟨JJ, hJJ⟩ : ∃ JJ, JJ = J + 1 := ⟨_, rfl⟩
            have HRR : Hid (R = preT (K ++ [⟨20, p, 0, a.data.toList, gl⟩]) (lexW T g (s.data.toList.drop JJ))) := by
              have h := dol_star hrn hlj h42
              rw [← hJJ] at h
              rw [ha]
              exact h
            have hj1 : p < JJ := by omega
            have hj2 : JJ ≤ s.size := by omega
            clear h42 hrn HRJ hnr HBX
            go_wp2_with fail
            refine Calls.mono HRUN.out ?_
            rintro e w1 ⟨rfl, hw⟩
            obtain rfl := hw.symm
            clear hw HRUN
            go_upto_region 66 with fail
            rw [show ((J : Int) + 1) = (JJ : Nat) by omega]
            obtain ⟨V, hV⟩ : ∃ V, V = Z.setCell ⟨tb, 3, none⟩ (.string ⟨#[42]⟩) := ⟨_, rfl⟩
            have HM : Hid (Mk wo tb 20 p 0 a gl V) := by rw [hV, ha]; exact HMZ.out.setS _
            rw [← hV]
            clear hV z0 z2 z3 zf0 zf2 zf3 ha hJJ
            have HLM : Hid (Lsb W1 (.slice ad K.length cap) K V) := HM.out.lsb HL.out
            have hWs : b0 + 3 ≤ V.heap.size := by have := HLM.out.below.size; omega
            have HTK : Hid (V.ownsRow (b0 + 3) 55 5 (.slice ad K.length cap) K.length (tbCs K)) := by have h := HLM.out.tk; unfold RbOwn at h; rwa [hz] at h
            have m0 : V.cell? ⟨tb, 0, none⟩ = some (.int .i64 (20 : Nat)) := HM.out.cel.cell 0
            have m1 : V.cell? ⟨tb, 1, none⟩ = some (.int .i64 (p : Nat)) := HM.out.cel.cell 1
            have m2 : V.cell? ⟨tb, 2, none⟩ = some (.int .i64 (0 : Nat)) := HM.out.cel.cell 2
            have m3 : V.cell? ⟨tb, 3, none⟩ = some (.string a) := HM.out.cel.cell 3
            have m4 : V.cell? ⟨tb, 4, none⟩ = some (.bool gl) := HM.out.cel.cell 4
            go_wp2_with (at_builtin; refine wpList_append_own_at _ rfl _ _ 28 rfl (b0 + 3) 55 i0 _ 5 48 Tryd.underlying28 hi hz0 hz1 hz2 rfl (by decide) _ _ _ rfl (World.ownsRow.alloc HTK.out _) ⟨V.heap.size, 0, none⟩ 1 1 (tbC ⟨20, p, 0, (a).data.toList, gl⟩) rfl rfl (cells_new _ _ _) (by simp [Value.oneCell']) (by have := maxLen_big; omega) (by omega) (by simp; omega) ?_; intro v6 w6 hown hgrow hx1 hx2; clear hx1 hx2)
            have HL6 : Hid (Lsb W1 v6 (K ++ [⟨20, p, 0, (a).data.toList, gl⟩]) w6) := Lsb.snoc HL.out HM.out (by rw [hz]; exact hown) hgrow
            clear hown hgrow m0 m1 m2 m3 m4
            go_wp2_with fail
            exact HN JJ JJ g _ _ (K ++ [⟨20, p, 0, (a).data.toList, gl⟩]) _ _ (Nat.le_refl _) hj2 (by omega) (by rw [List.length_append]; simp only [List.length_cons, List.length_nil]; omega) (fun _ => by rw [List.length_append]; simp) hj1 (by rw [enI, if_neg (by omega)]) rfl rfl HL6.out HRR.out _ _ _ _ _ _ _ _ _ _ _ _ _ _ _ _ _ _ _ _ _ _ _ _ _ _ _ _ _ _ _ _ _ _ _ _ _ _ _ _ _ _ _ _ _ _ _ _ _ _ _ _ _ _ _ _ _ _ _ _ _ _ _ _ _ _ _ _ _ _ _ _ _ _ _ _ _ _ _ _ _ _ _ _ _ _ _ _ _ _ _ _ _ _ _ _ _ _ _ _ _ _ _ _ _ _ _ _ _ _ _ _ _ _ _ _ _ _ _ _ _ _ _ _ _ _ _ _ _ _ _ _ _ _ _ _ _ _ _ _ _ _ _ _ _ _ _ _ _ _ _ _ _ _ _ _ _ _ _ _ _ _ _ _ _ _ _ _ _ _ _ _ _ _ _ _ _ _ _ _ _ _ _ _ _ _ _ _ _ _ _ _ _ _ _ _ _ _ _ _ _ _ _ _ _ _ _ _ _ _ _ _ _ _ _ _ _ _ _ _ _ _ _ _ _ _ _ _ _ _ _ _ _ _ _ _ _ _ _ _ _ _ _ _ _ _ _ _ _ _ _ _ _ _ _ _ _ _ _ _ _ _ _ _ _ _ _ _ _ 
          · have f42 : (((s[J]).toNat : Int) == 42) = false := byte_ne s[J] 42 h42
            by_cases h49 : 49 ≤ (s[J]).toNat ∧ (s[J]).toNat ≤ 57
            · obtain ⟨h49a, h57a⟩ := h49
              have h49b : (49 : Int) ≤ ((s[J]).toNat : Int) := by omega
              have h57b : ((s[J]).toNat : Int) ≤ 57 := by omega
              have hcn : cnts s[J] = true := by unfold cnts; rw [decide_eq_true h49a, decide_eq_true h57a]; rfl
              obtain ⟨JJ, hJJ⟩ : ∃ JJ, JJ = J + 1 := ⟨_, rfl⟩
              obtain ⟨nn, hnn⟩ : ∃ nn, nn = (s[J]).toNat - 48 := ⟨_, rfl⟩
              have HRR : Hid (R = preT (K ++ [⟨23, p, nn, [], gl⟩]) (lexW T g (s.data.toList.drop JJ))) := by
                have h := dol_num hrn hlj hcn
                rw [← hJJ, ← hnn] at h
                exact h
              have hj1 : p < JJ := by omega
              have hj2 : JJ ≤ s.size := by omega
              have hnw : ((s[J]).toNat : Int) - 48 = (nn : Nat) := by omega
              have hn1 : 0 ≤ ((s[J]).toNat : Int) - 48 := by omega
              have hn2 : ((s[J]).toNat : Int) - 48 < 256 := by omega
              have HHN : Hid (((s[J]).toNat : Int) - 48 = (nn : Nat)) := hnw
              clear h42 hrn HRJ hnr HBX hcn hnn hnw
              go_wp2_with fail
              refine Calls.mono HRUN.out ?_
              rintro e w1 ⟨rfl, hw⟩
              obtain rfl := hw.symm
              clear hw HRUN
              go_upto_region 66 with fail
              rw [show ((J : Int) + 1) = (JJ : Nat) by omega]
              obtain ⟨V, hV⟩ : ∃ V, V = (Z.setCell ⟨tb, 0, none⟩ (.int .i64 23)).setCell ⟨tb, 2, none⟩ (.int .i64 (((s[J]).toNat : Int) - 48)) := ⟨_, rfl⟩
              have HM0' : Hid (Mk wo tb 23 p nn ⟨#[]⟩ gl V) := by rw [hV]; exact (HMZ.out.setK 23 rfl).setN nn HHN.out
              rw [← hV]
              have hemp : (⟨#[]⟩ : ByteArray).data.toList = [] := rfl
              rw [← hemp] at HRR
              clear hemp
              generalize (⟨#[]⟩ : ByteArray) = ea at HM0' HRR
              have HM : Hid (Mk wo tb 23 p nn ea gl V) := HM0'.out
              clear hV z0 z2 z3 zf0 zf2 zf3 hJJ HM0'
              have HLM : Hid (Lsb W1 (.slice ad K.length cap) K V) := HM.out.lsb HL.out
              have hWs : b0 + 3 ≤ V.heap.size := by have := HLM.out.below.size; omega
              have HTK : Hid (V.ownsRow (b0 + 3) 55 5 (.slice ad K.length cap) K.length (tbCs K)) := by have h := HLM.out.tk; unfold RbOwn at h; rwa [hz] at h
              have m0 : V.cell? ⟨tb, 0, none⟩ = some (.int .i64 (23 : Nat)) := HM.out.cel.cell 0
              have m1 : V.cell? ⟨tb, 1, none⟩ = some (.int .i64 (p : Nat)) := HM.out.cel.cell 1
              have m2 : V.cell? ⟨tb, 2, none⟩ = some (.int .i64 (nn : Nat)) := HM.out.cel.cell 2
              have m3 : V.cell? ⟨tb, 3, none⟩ = some (.string ea) := HM.out.cel.cell 3
              have m4 : V.cell? ⟨tb, 4, none⟩ = some (.bool gl) := HM.out.cel.cell 4
              go_wp2_with (at_builtin; refine wpList_append_own_at _ rfl _ _ 28 rfl (b0 + 3) 55 i0 _ 5 48 Tryd.underlying28 hi hz0 hz1 hz2 rfl (by decide) _ _ _ rfl (World.ownsRow.alloc HTK.out _) ⟨V.heap.size, 0, none⟩ 1 1 (tbC ⟨23, p, nn, (ea).data.toList, gl⟩) rfl rfl (cells_new _ _ _) (by simp [Value.oneCell']) (by have := maxLen_big; omega) (by omega) (by simp; omega) ?_; intro v6 w6 hown hgrow hx1 hx2; clear hx1 hx2)
              have HL6 : Hid (Lsb W1 v6 (K ++ [⟨23, p, nn, (ea).data.toList, gl⟩]) w6) := Lsb.snoc HL.out HM.out (by rw [hz]; exact hown) hgrow
              clear hown hgrow m0 m1 m2 m3 m4
              go_wp2_with fail
              exact HN JJ JJ g _ _ (K ++ [⟨23, p, nn, (ea).data.toList, gl⟩]) _ _ (Nat.le_refl _) hj2 (by omega) (by rw [List.length_append]; simp only [List.length_cons, List.length_nil]; omega) (fun _ => by rw [List.length_append]; simp) hj1 (by rw [enI, if_neg (by omega)]) rfl rfl HL6.out HRR.out _ _ _ _ _ _ _ _ _ _ _ _ _ _ _ _ _ _ _ _ _ _ _ _ _ _ _ _ _ _ _ _ _ _ _ _ _ _ _ _ _ _ _ _ _ _ _ _ _ _ _ _ _ _ _ _ _ _ _ _ _ _ _ _ _ _ _ _ _ _ _ _ _ _ _ _ _ _ _ _ _ _ _ _ _ _ _ _ _ _ _ _ _ _ _ _ _ _ _ _ _ _ _ _ _ _ _ _ _ _ _ _ _ _ _ _ _ _ _ _ _ _ _ _ _ _ _ _ _ _ _ _ _ _ _ _ _ _ _ _ _ _ _ _ _ _ _ _ _ _ _ _ _ _ _ _ _ _ _ _ _ _ _ _ _ _ _ _ _ _ _ _ _ _ _ _ _ _ _ _ _ _ _ _ _ _ _ _ _ _ _ _ _ _ _ _ _ _ _ _ _ _ _ _ _ _ _ _ _ _ _ _ _ _ _ _ _ _ _ _ _ _ _ _ _ _ _ _ _ _ _ _ _ _ _ _ _ _ _ _ _ _ _ _ _ _ _ _ _ _ _ _ _ _ _ _ _ _ _ _ _ _ _ _ _ _ _ _ _ 
            · have hcn : cnts s[J] = false := by
                unfold cnts
                rw [Bool.and_eq_false_iff, decide_eq_false_iff_not, decide_eq_false_iff_not]
                omega
              by_cases h49 : 49 ≤ (s[J]).toNat
              · have h49b : (49 : Int) ≤ ((s[J]).toNat : Int) := by omega
                have h57b : ¬ ((s[J]).toNat : Int) ≤ 57 := by omega
                have h57c : decide (((s[J]).toNat : Int) ≤ 57) = false := decide_eq_false (by omega)
                have h57d : decide ((s[J]).toNat ≤ 57) = false := decide_eq_false (by omega)
                have HRR : Hid (R = .error ⟨0, p⟩) := dol_none hrn hnr (fun _ => by rw [head_at s J hlj]; exact hcn) (by rw [head_at s J hlj]; exact fun e => h42 (Option.some.inj e))
                have HPL : Hid _ := placed_any 106 (p : Nat) (by decide) Z
                clear hrn HRJ hnr h42 hcn h49
                go_wp2_with fail
                refine Calls.mono HRUN.out ?_
                rintro e w1 ⟨rfl, hw⟩
                obtain rfl := hw.symm
                clear hw HRUN
                go_wp2_with fail
                refine Calls.mono HPL.out ?_
                rintro e w5 ⟨fb, rfl, hf, hfb, hb5⟩
                have HF5 : Hid (Cel w5 fb 3 #[.int .i64 (p : Nat)]) := hf
                have HB5 : Hid (Below (b0 + 3) W1 w5) := HBX.out.trans (hb5.mono (by have := HBX.out.size; omega))
                have HC5 : Hid (Cel w5 b0 31 #[.int .i64 0, .slice none 0 0]) := HFL.out.below HB5.out (by omega)
                have hfb0 : fb ≠ b0 := fun e => by have := HBX.out.size; omega
                have r0 : w5.cell? ⟨b0, 0, none⟩ = some (.int .i64 0) := HC5.out.cell 0
                have r1 : w5.cell? ⟨b0, 1, none⟩ = some (.slice none 0 0) := HC5.out.cell 1
                have rf0 := HC5.out.frozen 0
                have rf1 := HC5.out.frozen 1
                clear hf hb5 HPL hfb HBX
                go_wp2_with fail
                exact HR ⟨0, p⟩ fb _ HRR.out ((HC5.out.set (j := 0) (.int .i64 106)).set (j := 1) (.slice (some ⟨fb, 0, none⟩) 1 1)) ((HF5.out.other hfb0 _).other hfb0 _) (((HB5.out.mono (Nat.le_add_right b0 3)).setCell (p := ⟨b0, 0, none⟩) (Nat.le_refl _) _).setCell (p := ⟨b0, 1, none⟩) (Nat.le_refl _) _) _ _ _ _ _ _ _ _ _ _ _ _ _ _ _ _ _ _ _ _ _ _ _ _ _ _ _ _ _ _ _ _ _ _ _ _ _ _ _ _ _ _ _ _ _ _ _ _ _ _ _ _ _ _ _ _ _ _ _ _ _ _ _ _ _ _ _ _ _ _ _ _ _ _ _ _ _ _ _ _ _ _ _ _ _ _ _ _ _ _ _ _ _ _ _ _ _ _ _ _ _ _ _ _ _ _ _ _ _ _ _ _ _ _ _ _ _ _ _ _ _ _ _ _ _ _ _ _ _ _ _ _ _ _ _ _ _ _ _ _ _ _ _ _ _ _ _ _ _ _ _ _ _ _ _ _ _ _ _ _ _ _ _ _ _ _ _ _ _ _ _ _ _ _ _ _ _ _ _ _ _ _ _ _ _ _ _ _ _ _ _ _ _ _ _ _ _ _ _ _ _ _ _ _ _ _ _ _ _ _ _ _ _ _ _ _ _ _ _ _ _ _ _ _ _ _ _ _ _ _ _ _ _ _ _ _ _ _ _ _ _ _ _ _ _ _ _ _ _ _ _ _ _ _ _ _ _ _ _ _ _ _ _ _ _ _ _ _ _ _ _ _ 
              · have h49b : ¬ (49 : Int) ≤ ((s[J]).toNat : Int) := by omega
                have h49c : decide ((49 : Int) ≤ ((s[J]).toNat : Int)) = false := decide_eq_false (by omega)
                have h49d : decide (49 ≤ (s[J]).toNat) = false := decide_eq_false (by omega)
                have HRR : Hid (R = .error ⟨0, p⟩) := dol_none hrn hnr (fun _ => by rw [head_at s J hlj]; exact hcn) (by rw [head_at s J hlj]; exact fun e => h42 (Option.some.inj e))
                have HPL : Hid _ := placed_any 106 (p : Nat) (by decide) Z
                clear hrn HRJ hnr h42 hcn h49
                go_wp2_with fail
                refine Calls.mono HRUN.out ?_
                rintro e w1 ⟨rfl, hw⟩
                obtain rfl := hw.symm
                clear hw HRUN
                go_wp2_with fail
                refine Calls.mono HPL.out ?_
                rintro e w5 ⟨fb, rfl, hf, hfb, hb5⟩
                have HF5 : Hid (Cel w5 fb 3 #[.int .i64 (p : Nat)]) := hf
                have HB5 : Hid (Below (b0 + 3) W1 w5) := HBX.out.trans (hb5.mono (by have := HBX.out.size; omega))
                have HC5 : Hid (Cel w5 b0 31 #[.int .i64 0, .slice none 0 0]) := HFL.out.below HB5.out (by omega)
                have hfb0 : fb ≠ b0 := fun e => by have := HBX.out.size; omega
                have r0 : w5.cell? ⟨b0, 0, none⟩ = some (.int .i64 0) := HC5.out.cell 0
                have r1 : w5.cell? ⟨b0, 1, none⟩ = some (.slice none 0 0) := HC5.out.cell 1
                have rf0 := HC5.out.frozen 0
                have rf1 := HC5.out.frozen 1
                clear hf hb5 HPL hfb HBX
                go_wp2_with fail
                exact HR ⟨0, p⟩ fb _ HRR.out ((HC5.out.set (j := 0) (.int .i64 106)).set (j := 1) (.slice (some ⟨fb, 0, none⟩) 1 1)) ((HF5.out.other hfb0 _).other hfb0 _) (((HB5.out.mono (Nat.le_add_right b0 3)).setCell (p := ⟨b0, 0, none⟩) (Nat.le_refl _) _).setCell (p := ⟨b0, 1, none⟩) (Nat.le_refl _) _) _ _ _ _ _ _ _ _ _ _ _ _ _ _ _ _ _ _ _ _ _ _ _ _ _ _ _ _ _ _ _ _ _ _ _ _ _ _ _ _ _ _ _ _ _ _ _ _ _ _ _ _ _ _ _ _ _ _ _ _ _ _ _ _ _ _ _ _ _ _ _ _ _ _ _ _ _ _ _ _ _ _ _ _ _ _ _ _ _ _ _ _ _ _ _ _ _ _ _ _ _ _ _ _ _ _ _ _ _ _ _ _ _ _ _ _ _ _ _ _ _ _ _ _ _ _ _ _ _ _ _ _ _ _ _ _ _ _ _ _ _ _ _ _ _ _ _ _ _ _ _ _ _ _ _ _ _ _ _ _ _ _ _ _ _ _ _ _ _ _ _ _ _ _ _ _ _ _ _ _ _ _ _ _ _ _ _ _ _ _ _ _ _ _ _ _ _ _ _ _ _ _ _ _ _ _ _ _ _ _ _ _ _ _ _ _ _ _ _ _ _ _ _ _ _ _ _ _ _ _ _ _ _ _ _ _ _ _ _ _ _ _ _ _ _ _ _ _ _ _ _ _ _ _ _ _ _ _ _ _ _ _ _ _ _ _ _ _ _ _ _ _ 
        · have hlj' : ¬ (J : Int) < (s.size : Int) := by omega
          have hld : decide ((J : Int) < (s.size : Int)) = false := decide_eq_false hlj'
          have hld2 : decide (J < s.size) = false := decide_eq_false hlj
          have HRR : Hid (R = .error ⟨0, p⟩) := dol_none hrn hnr (fun _ => by rw [head_out s J hlj]; rfl) (by rw [head_out s J hlj]; exact fun e => by cases e)
          have HPL : Hid _ := placed_any 106 (p : Nat) (by decide) Z
          clear hrn HRJ hnr hJs
          go_wp2_with fail
          refine Calls.mono HRUN.out ?_
          rintro e w1 ⟨rfl, hw⟩
          obtain rfl := hw.symm
          clear hw HRUN
          go_wp2_with fail
          refine Calls.mono HPL.out ?_
          rintro e w5 ⟨fb, rfl, hf, hfb, hb5⟩
          have HF5 : Hid (Cel w5 fb 3 #[.int .i64 (p : Nat)]) := hf
          have HB5 : Hid (Below (b0 + 3) W1 w5) := HBX.out.trans (hb5.mono (by have := HBX.out.size; omega))
          have HC5 : Hid (Cel w5 b0 31 #[.int .i64 0, .slice none 0 0]) := HFL.out.below HB5.out (by omega)
          have hfb0 : fb ≠ b0 := fun e => by have := HBX.out.size; omega
          have r0 : w5.cell? ⟨b0, 0, none⟩ = some (.int .i64 0) := HC5.out.cell 0
          have r1 : w5.cell? ⟨b0, 1, none⟩ = some (.slice none 0 0) := HC5.out.cell 1
          have rf0 := HC5.out.frozen 0
          have rf1 := HC5.out.frozen 1
          clear hf hb5 HPL hfb HBX
          go_wp2_with fail
          exact HR ⟨0, p⟩ fb _ HRR.out ((HC5.out.set (j := 0) (.int .i64 106)).set (j := 1) (.slice (some ⟨fb, 0, none⟩) 1 1)) ((HF5.out.other hfb0 _).other hfb0 _) (((HB5.out.mono (Nat.le_add_right b0 3)).setCell (p := ⟨b0, 0, none⟩) (Nat.le_refl _) _).setCell (p := ⟨b0, 1, none⟩) (Nat.le_refl _) _) _ _ _ _ _ _ _ _ _ _ _ _ _ _ _ _ _ _ _ _ _ _ _ _ _ _ _ _ _ _ _ _ _ _ _ _ _ _ _ _ _ _ _ _ _ _ _ _ _ _ _ _ _ _ _ _ _ _ _ _ _ _ _ _ _ _ _ _ _ _ _ _ _ _ _ _ _ _ _ _ _ _ _ _ _ _ _ _ _ _ _ _ _ _ _ _ _ _ _ _ _ _ _ _ _ _ _ _ _ _ _ _ _ _ _ _ _ _ _ _ _ _ _ _ _ _ _ _ _ _ _ _ _ _ _ _ _ _ _ _ _ _ _ _ _ _ _ _ _ _ _ _ _ _ _ _ _ _ _ _ _ _ _ _ _ _ _ _ _ _ _ _ _ _ _ _ _ _ _ _ _ _ _ _ _ _ _ _ _ _ _ _ _ _ _ _ _ _ _ _ _ _ _ _ _ _ _ _ _ _ _ _ _ _ _ _ _ _ _ _ _ _ _ _ _ _ _ _ _ _ _ _ _ _ _ _ _ _ _ _ _ _ _ _ _ _ _ _ _ _ _ _ _ _ _ _ _ _ _ _ _ _ _ _ _ _ _ _ _ _ _ _ 
      · have hnm : (nrun (s.data.toList.drop J)).length ≤ s.size - J := nrun_fits s J
        obtain ⟨M, hM⟩ : ∃ M, M = J + (nrun (s.data.toList.drop J)).length := ⟨_, rfl⟩
        have hlp : 0 < (nrun (s.data.toList.drop J)).length := List.length_pos_iff.2 hnr
        have hJM : J < M := by omega
        have hMs : M ≤ s.size := by omega
        have hJM' : (J : Int) < (M : Int) := by omega
        have hJM2 : (J : Int) ≤ (M : Int) := by omega
        have hMs' : (M : Int) ≤ (s.size : Int) := by omega
        have hsz : (s.extract J M).size = M - J := ext_size s J M hMs
        rw [← hM] at HRUN
        by_cases hl20 : (nrun (s.data.toList.drop J)).length ≤ 20
        · have HRR0 : Hid (R = preT (K ++ [⟨20, p, 0, (s.extract J M).data.toList, gl⟩]) (lexW T g (s.data.toList.drop M))) := by
            exact dol_name HRJ.out hnr hM hl20
          have HS2 : Hid (¬ (20 : Int) < (((s.extract J M).size : Nat) : Int)) := by unfold Hid; omega
          have hj1 : p < M := by omega
          have hj2 := hMs
          clear HRJ hnr hsz hnm hlp hl20 hM HBX
          go_wp2_with fail
          refine Calls.mono HRUN.out ?_
          rintro e w1 ⟨rfl, hw⟩
          obtain rfl := hw.symm
          clear hw HRUN
          go_upto_region 64 with fail
          have hsz2 := HS2.out
          generalize s.extract J M = a at HRR0 hsz2 ⊢
          have hsz3 : decide ((20 : Int) < (a.size : Int)) = false := decide_eq_false (by omega)
          have hsz4 : (a.size : Int) ≤ 20 := by omega
          have HRR : Hid (R = preT (K ++ [⟨20, p, 0, a.data.toList, gl⟩]) (lexW T g (s.data.toList.drop M))) := HRR0.out
          obtain ⟨V, hV⟩ : ∃ V, V = Z.setCell ⟨tb, 3, none⟩ (.string a) := ⟨_, rfl⟩
          have HM : Hid (Mk wo tb 20 p 0 a gl V) := by rw [hV]; exact HMZ.out.setS _
          rw [← hV]
          have v3 : V.cell? ⟨tb, 3, none⟩ = some (.string a) := HM.out.cel.cell 3
          clear hV z0 z2 z3 zf0 zf2 zf3 HRR0 HS2
          go_upto_region 66 with fail
          clear v3
          have HLM : Hid (Lsb W1 (.slice ad K.length cap) K V) := HM.out.lsb HL.out
          have hWs : b0 + 3 ≤ V.heap.size := by have := HLM.out.below.size; omega
          have HTK : Hid (V.ownsRow (b0 + 3) 55 5 (.slice ad K.length cap) K.length (tbCs K)) := by have h := HLM.out.tk; unfold RbOwn at h; rwa [hz] at h
          have m0 : V.cell? ⟨tb, 0, none⟩ = some (.int .i64 (20 : Nat)) := HM.out.cel.cell 0
          have m1 : V.cell? ⟨tb, 1, none⟩ = some (.int .i64 (p : Nat)) := HM.out.cel.cell 1
          have m2 : V.cell? ⟨tb, 2, none⟩ = some (.int .i64 (0 : Nat)) := HM.out.cel.cell 2
          have m3 : V.cell? ⟨tb, 3, none⟩ = some (.string a) := HM.out.cel.cell 3
          have m4 : V.cell? ⟨tb, 4, none⟩ = some (.bool gl) := HM.out.cel.cell 4
          go_wp2_with (at_builtin; refine wpList_append_own_at _ rfl _ _ 28 rfl (b0 + 3) 55 i0 _ 5 48 Tryd.underlying28 hi hz0 hz1 hz2 rfl (by decide) _ _ _ rfl (World.ownsRow.alloc HTK.out _) ⟨V.heap.size, 0, none⟩ 1 1 (tbC ⟨20, p, 0, (a).data.toList, gl⟩) rfl rfl (cells_new _ _ _) (by simp [Value.oneCell']) (by have := maxLen_big; omega) (by omega) (by simp; omega) ?_; intro v6 w6 hown hgrow hx1 hx2; clear hx1 hx2)
          have HL6 : Hid (Lsb W1 v6 (K ++ [⟨20, p, 0, (a).data.toList, gl⟩]) w6) := Lsb.snoc HL.out HM.out (by rw [hz]; exact hown) hgrow
          clear hown hgrow m0 m1 m2 m3 m4
          go_wp2_with fail
          exact HN M M g _ _ (K ++ [⟨20, p, 0, (a).data.toList, gl⟩]) _ _ (Nat.le_refl _) hj2 (by omega) (by rw [List.length_append]; simp only [List.length_cons, List.length_nil]; omega) (fun _ => by rw [List.length_append]; simp) hj1 (by rw [enI, if_neg (by omega)]) rfl rfl HL6.out HRR.out _ _ _ _ _ _ _ _ _ _ _ _ _ _ _ _ _ _ _ _ _ _ _ _ _ _ _ _ _ _ _ _ _ _ _ _ _ _ _ _ _ _ _ _ _ _ _ _ _ _ _ _ _ _ _ _ _ _ _ _ _ _ _ _ _ _ _ _ _ _ _ _ _ _ _ _ _ _ _ _ _ _ _ _ _ _ _ _ _ _ _ _ _ _ _ _ _ _ _ _ _ _ _ _ _ _ _ _ _ _ _ _ _ _ _ _ _ _ _ _ _ _ _ _ _ _ _ _ _ _ _ _ _ _ _ _ _ _ _ _ _ _ _ _ _ _ _ _ _ _ _ _ _ _ _ _ _ _ _ _ _ _ _ _ _ _ _ _ _ _ _ _ _ _ _ _ _ _ _ _ _ _ _ _ _ _ _ _ _ _ _ _ _ _ _ _ _ _ _ _ _ _ _ _ _ _ _ _ _ _ _ _ _ _ _ _ _ _ _ _ _ _ _ _ _ _ _ _ _ _ _ _ _ _ _ _ _ _ _ _ _ _ _ _ _ _ _ _ _ _ _ _ _ _ _ _ _ _ _ _ _ _ _ _ _ _ _ _ _ 
        · have HRR : Hid (R = .error ⟨0, p⟩) := by
            exact dol_long HRJ.out hnr hl20
          have HS2 : Hid ((20 : Int) < (((s.extract J M).size : Nat) : Int)) := by unfold Hid; omega
          have HZS : Hid (∀ a, Mk wo tb 20 p 0 a gl (Z.setCell ⟨tb, 3, none⟩ (.string a))) := fun a => HMZ.out.setS a
          clear HRJ hnr hsz hnm hlp hl20 hM HBX
          go_wp2_with fail
          refine Calls.mono HRUN.out ?_
          rintro e w1 ⟨rfl, hw⟩
          obtain rfl := hw.symm
          clear hw HRUN
          go_upto_region 64 with fail
          have hsz2 := HS2.out
          generalize s.extract J M = a at hsz2 ⊢
          obtain ⟨V, hV⟩ : ∃ V, V = Z.setCell ⟨tb, 3, none⟩ (.string a) := ⟨_, rfl⟩
          have HBX : Hid (Below (b0 + 3) W1 V) := by have h := ((HZS.out a).lsb HL.out).below; rw [← hV, hz] at h; exact h
          have HPL : Hid _ := placed_any 106 (p : Nat) (by decide) V
          have v3 : V.cell? ⟨tb, 3, none⟩ = some (.string a) := by rw [hV]; exact (HZS.out a).cel.cell 3
          rw [← hV]
          clear hV z0 z2 z3 zf0 zf2 zf3 HS2 HZS
          go_wp2_with fail
          refine Calls.mono HPL.out ?_
          rintro e w5 ⟨fb, rfl, hf, hfb, hb5⟩
          have HF5 : Hid (Cel w5 fb 3 #[.int .i64 (p : Nat)]) := hf
          have HB5 : Hid (Below (b0 + 3) W1 w5) := HBX.out.trans (hb5.mono (by have := HBX.out.size; omega))
          have HC5 : Hid (Cel w5 b0 31 #[.int .i64 0, .slice none 0 0]) := HFL.out.below HB5.out (by omega)
          have hfb0 : fb ≠ b0 := fun e => by have := HBX.out.size; omega
          have r0 : w5.cell? ⟨b0, 0, none⟩ = some (.int .i64 0) := HC5.out.cell 0
          have r1 : w5.cell? ⟨b0, 1, none⟩ = some (.slice none 0 0) := HC5.out.cell 1
          have rf0 := HC5.out.frozen 0
          have rf1 := HC5.out.frozen 1
          clear hf hb5 HPL hfb HBX
          go_wp2_with fail
          exact HR ⟨0, p⟩ fb _ HRR.out ((HC5.out.set (j := 0) (.int .i64 106)).set (j := 1) (.slice (some ⟨fb, 0, none⟩) 1 1)) ((HF5.out.other hfb0 _).other hfb0 _) (((HB5.out.mono (Nat.le_add_right b0 3)).setCell (p := ⟨b0, 0, none⟩) (Nat.le_refl _) _).setCell (p := ⟨b0, 1, none⟩) (Nat.le_refl _) _) _ _ _ _ _ _ _ _ _ _ _ _ _ _ _ _ _ _ _ _ _ _ _ _ _ _ _ _ _ _ _ _ _ _ _ _ _ _ _ _ _ _ _ _ _ _ _ _ _ _ _ _ _ _ _ _ _ _ _ _ _ _ _ _ _ _ _ _ _ _ _ _ _ _ _ _ _ _ _ _ _ _ _ _ _ _ _ _ _ _ _ _ _ _ _ _ _ _ _ _ _ _ _ _ _ _ _ _ _ _ _ _ _ _ _ _ _ _ _ _ _ _ _ _ _ _ _ _ _ _ _ _ _ _ _ _ _ _ _ _ _ _ _ _ _ _ _ _ _ _ _ _ _ _ _ _ _ _ _ _ _ _ _ _ _ _ _ _ _ _ _ _ _ _ _ _ _ _ _ _ _ _ _ _ _ _ _ _ _ _ _ _ _ _ _ _ _ _ _ _ _ _ _ _ _ _ _ _ _ _ _ _ _ _ _ _ _ _ _ _ _ _ _ _ _ _ _ _ _ _ _ _ _ _ _ _ _ _ _ _ _ _ _ _ _ _ _ _ _ _ _ _ _ _ _ _ _ _ _ _ _ _ _ _ _ _ _ _ _ _ _ _ 
end Go.Proofs.YtddekcohfbnmbaaDoor
