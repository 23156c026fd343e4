/- The document's own lexer, a round: a quoted text. -/
import Derived.Test.YtddekcohfbnmbaaDoorRb3
namespace Go.Proofs.YtddekcohfbnmbaaDoor
open Go.RowKit
attribute [local go_sem] Oper.semAt_some

set_option maxRecDepth 100000 in
set_option maxHeartbeats 16000000 in
theorem rd_quote (s : ByteArray) (hs : s.size ≤ 8192) (b0 : Nat) (W1 : World) (hz : W1.heap.size = b0 + 3) (HFL : Hid (Cel W1 b0 31 #[.int .i64 0, .slice none 0 0])) (HOT1 : Hid (Cel W1 (b0 + 1) 9 opsTV)) (HOK1 : Hid (Cel W1 (b0 + 2) 3 opsKV)) (T : List UInt8 → Except Er (Tb × List UInt8)) (HT : Hid (T = tokenL s.size)) (R : Except Er (List Tb)) (q p g : Nat) (en : Int) (K : List Tb) (ad : Option Addr) (cap : Nat) (hqp : q ≤ p) (hp : p ≤ s.size) (hg : s.size - q < g) (hKq : K.length ≤ q) (_hK0 : 0 < q → 0 < K.length) (hen : en = enI q) (HOV : Hid (over (s.data.toList.drop p) = over (s.data.toList.drop q))) (wr : World) (HL : Hid (Lsb W1 (.slice ad K.length cap) K wr)) (HEQ : Hid (R = preT K (lexW T g (s.data.toList.drop q)))) (Q : Exit → Act → World → Prop) (y1 y9 y10 y11 y12 y13 y14 y15 y16 y17 y18 y19 y20 y21 y22 y23 y24 y25 y26 y27 y28 y29 y30 y31 y32 y33 y34 y35 y36 y37 y38 y39 y40 y41 y42 y43 y44 y45 y46 y47 y48 y49 y50 y51 y52 y53 y54 y55 y56 y57 y58 y59 y60 y61 y62 y63 y64 y65 y66 y67 y68 y69 y70 y71 y72 y73 y74 y75 y76 y77 y78 y79 y80 y81 y82 y83 y84 y85 y86 y87 y88 y89 y90 y91 y92 y93 y94 y95 y96 y97 y98 y99 y100 y101 y102 y103 y104 y105 y106 y107 y108 y109 y110 y111 y112 y113 y114 y115 y116 y117 y118 y119 y120 y121 y122 y123 y124 y125 y126 y127 y128 y129 y130 y131 y132 y133 y134 y135 y136 y137 y138 y139 y140 y141 y142 y143 y144 y145 y146 y147 y148 y149 y150 y151 y152 y153 y154 y155 y156 y157 y158 y159 y160 y161 y162 y163 y164 y165 y166 y167 y168 y169 y170 y171 y172 y173 y174 y175 y176 y177 y178 y179 y180 y181 y182 y183 y184 y185 y186 y187 y188 y189 y190 y191 y192 y193 y194 y195 y196 y197 y198 y199 y200 y201 y202 y203 y204 y205 y206 y207 y208 y209 y210 y211 y212 y213 y214 y215 y216 y217 y218 y219 y220 y221 y222 y223 y224 y225 y226 y227 y228 y229 y230 y231 y232 y233 y234 y235 y236 y237 y238 y239 y240 y241 y242 y243 y244 y245 y246 y247 y248 y249 y250 y251 y252 y253 y254 y255 y256 y257 y258 y259 y260 y261 y262 y263 y264 y265 y266 y267 y268 y269 y270 y271 y272 y273 y274 y275 y276 y277 y278 y279 y280 y281 y282 y283 y284 y285 y286 y287 y288 y289 y290 y291 y292 y293 y294 y295 y296 y297 y298 y299 y300 y301 : Value) (HN : NextOk Q s b0 W1 T R p y1 y14 y15 y16 y17 y18 y19 y20 y21 y286 y287 y288 y289 y290 y291 y292 y293 y294 y295 y296 y297 y298 y299 y300 y301) (HR : RetOk Q s b0 W1 R y1 y14 y15 y16 y17 y18 y19 y20 y21 y286 y287 y288 y289 y290 y291 y292 y293 y294 y295 y296 y297 y298 y299 y300 y301) (hlt : p < s.size) (hblk : blk s[p] = false) (c35 : s[p] ≠ 35) (hnone : ∀ j, j < 17 → isOp (s.data.toList.drop p) j = false) (hno : ¬ (s[p] = 38 ∨ s[p] = 96)) (c39 : s[p] = 39) : Code.wp Tryd.prog (cL (cL (cL (cR (cR (cR (cR (cR (cR (Tryd.f9.body.getD .skip)))))))))) Q ⟨#[.string s, y1, .slice none 0 0, .pointer (some ⟨b0, 0, none⟩), .slice (some ⟨b0 + 1, 0, none⟩) 17 17, .slice (some ⟨b0 + 2, 0, none⟩) 17 17, .slice ad K.length cap, .int .i64 (p : Nat), .int .i64 en, y9, y10, y11, y12, y13, y14, y15, y16, y17, y18, y19, y20, y21, y22, y23, y24, y25, y26, y27, y28, y29, y30, y31, y32, y33, y34, y35, y36, y37, y38, y39, y40, y41, y42, y43, y44, y45, y46, y47, y48, y49, y50, y51, y52, y53, y54, y55, y56, y57, y58, y59, y60, y61, y62, y63, y64, y65, y66, y67, y68, y69, y70, y71, y72, y73, y74, y75, y76, y77, y78, y79, y80, y81, y82, y83, y84, y85, y86, y87, y88, y89, y90, y91, y92, y93, y94, y95, y96, y97, y98, y99, y100, y101, y102, y103, y104, y105, y106, y107, y108, y109, y110, y111, y112, y113, y114, y115, y116, y117, y118, y119, y120, y121, y122, y123, y124, y125, y126, y127, y128, y129, y130, y131, y132, y133, y134, y135, y136, y137, y138, y139, y140, y141, y142, y143, y144, y145, y146, y147, y148, y149, y150, y151, y152, y153, y154, y155, y156, y157, y158, y159, y160, y161, y162, y163, y164, y165, y166, y167, y168, y169, y170, y171, y172, y173, y174, y175, y176, y177, y178, y179, y180, y181, y182, y183, y184, y185, y186, y187, y188, y189, y190, y191, y192, y193, y194, y195, y196, y197, y198, y199, y200, y201, y202, y203, y204, y205, y206, y207, y208, y209, y210, y211, y212, y213, y214, y215, y216, y217, y218, y219, y220, y221, y222, y223, y224, y225, y226, y227, y228, y229, y230, y231, y232, y233, y234, y235, y236, y237, y238, y239, y240, y241, y242, y243, y244, y245, y246, y247, y248, y249, y250, y251, y252, y253, y254, y255, y256, y257, y258, y259, y260, y261, y262, y263, y264, y265, y266, y267, y268, y269, y270, y271, y272, y273, y274, y275, y276, y277, y278, y279, y280, y281, y282, y283, y284, y285, y286, y287, y288, y289, y290, y291, y292, y293, y294, y295, y296, y297, y298, y299, y300, y301], []⟩ wr := by
  obtain ⟨i0, hi, hz0, hz1, hz2⟩ := info_parts infoTB
  have hlt' : (p : Int) < (s.size : Int) := by omega
  have hs' : (s.size : Int) ≤ 8192 := by omega
  have HEN : Hid (en = enI q) := hen
  have d38 : (((s[p]).toNat : Int) == 38) = false := byte_ne s[p] 38 (fun e => hno (Or.inl e))
  have d96 : (((s[p]).toNat : Int) == 96) = false := byte_ne s[p] 96 (fun e => hno (Or.inr e))
  have HNO2 : Hid (¬ (s[p] = 38 ∨ s[p] = 96)) := hno
  clear hno
  
  have d32 : (((s[p]).toNat : Int) == 32) = false := byte_ne s[p] 32 (by rintro e; rw [e] at hblk; cases hblk)
  have d9 : (((s[p]).toNat : Int) == 9) = false := byte_ne s[p] 9 (by rintro e; rw [e] at hblk; cases hblk)
  have d35 : (((s[p]).toNat : Int) == 35) = false := byte_ne s[p] 35 c35
  obtain ⟨g, rfl⟩ : ∃ g', g = g' + 1 := ⟨g - 1, by omega⟩
  have hN : s.size - ((s.data.toList.drop (p + 1)).length + 1) = p := by rw [len_drop']; omega
  have HOQ : Hid (over (s.data.toList.drop q) = s[p] :: s.data.toList.drop (p + 1)) := by
    unfold Hid
    rw [← HOV.out, drop_cons s p hlt, over_none _ hblk c35]
  obtain ⟨gl, hgl⟩ : ∃ gl, (en == (p : Int)) = gl := ⟨_, rfl⟩
  have HGL : Hid (gl = glueB s.size (s.data.toList.drop q) (s[p] :: s.data.toList.drop (p + 1))) := by
    unfold Hid
    rw [← hgl, hen, glue_is s q p hqp hp, ← drop_cons s p hlt]
  have HB35 : Hid (blk s[p] = false ∧ s[p] ≠ 35) := ⟨hblk, c35⟩
  clear HOV c35 hblk hen
  obtain ⟨wo, hwo⟩ : ∃ wo, wo = wr := ⟨_, rfl⟩
  subst hwo
  show Code.wp _ (Code.seq (Code.seq (Code.region 7 _ _) _) (Code.block 1 _)) _ _ _
  go_upto_region 15 with fail
  obtain ⟨tb, htb⟩ : ∃ tb, tb = wo.heap.size := ⟨_, rfl⟩
  obtain ⟨X, hX⟩ : ∃ X, X = wo.alloc (.cells (mkC 0 p 0 ⟨#[]⟩ gl) 55) := ⟨_, rfl⟩
  have HX : Hid (wo.alloc (.cells #[.int .i64 0, .int .i64 (p : Nat), .int .i64 0, .string ⟨#[]⟩, .bool gl] 55) = X) := hX.symm
  have HM0 : Hid (Mk wo tb 0 p 0 ⟨#[]⟩ gl X) := by rw [hX, htb]; exact Mk.new _ _ _ _ _ _
  rw [HX.out, ← htb]
  have hbt : b0 + 3 ≤ tb := by have := HL.out.below.size; omega
  clear hX HX htb
  have HOT : Hid (∀ m k, k < 17 → (X.drewN m).cell? ⟨b0 + 1, k, none⟩ = some (str ((opsT[k]?).getD []))) := fun m k hk => by
    have h1 : Cel X (b0 + 1) 9 opsTV := (HOT1.out.below HL.out.below (by omega)).below HM0.out.below (by omega)
    exact (Cel.cell (W := X.drewN m) h1 k).trans (ops_at k hk).1
  have HOK : Hid (∀ m k, k < 17 → (X.drewN m).cell? ⟨b0 + 2, k, none⟩ = some (.int .i64 (((opsK[k]?).getD 0 : Nat) : Int))) := fun m k hk => by
    have h1 : Cel X (b0 + 2) 3 opsKV := (HOK1.out.below HL.out.below (by omega)).below HM0.out.below (by omega)
    exact (Cel.cell (W := X.drewN m) h1 k).trans (ops_at k hk).2
  have HF2 : Hid (∀ j, j < 17 → isOp (s.data.toList.drop p) j = false) := hnone
  have HBE : Hid (best 18 (s[p] :: s.data.toList.drop (p + 1)) = 0) := by
    unfold Hid
    rw [← drop_cons s p hlt]
    exact ops_none _ hnone
  have HRW : Hid (R = preT K (aftB T g (writ p gl s[p] (s.data.toList.drop (p + 1))))) := by
    unfold Hid
    rw [HEQ.out, HT.out, lex_writ HOQ.out HBE.out, hN, ← HGL.out]
  clear hnone HEQ
  go_wp2_with fail
  go_loopw [7, 11] (fun v7 v11 w3 => ∃ k m : Nat, v7 = .int .i64 (p : Nat) ∧ v11 = .int .i64 (k : Nat) ∧ k ≤ 17 ∧ w3 = X.drewN m) (fun _ v11 _ => 18 - (intOf v11).toNat)
  case atStart => exact ⟨0, 0, rfl, rfl, Nat.zero_le _, rfl⟩
  case round =>
    obtain ⟨k, m, rfl, rfl, hk, rfl⟩ := hrel
    have HMX : Hid (Mk wo tb 0 p 0 ⟨#[]⟩ gl (X.drewN m)) := HM0.out.drewN m
    have x0 : (X.drewN m).cell? ⟨tb, 0, none⟩ = some (.int .i64 0) := HMX.out.cel.cell 0
    rcases Nat.lt_or_ge k 17 with hlk | hgk
    · have hk17 : (k : Int) < 17 := by omega
      have t0 := HOT.out m k hlk
      have HNO := HF2.out k hlk
      have hol := (sgn_ops k hlk).2.2
      unfold isOp at HNO
      generalize (opsT[k]?).getD [] = tk at t0 HNO hol
      obtain ⟨t, ht⟩ : ∃ t : ByteArray, t = ⟨tk.toArray⟩ := ⟨_, rfl⟩
      have htl : t.size = tk.length := by rw [ht]; rfl
      have htd : tk = t.data.toList := by rw [ht]
      rw [htd] at HNO
      rw [show str tk = .string t by rw [ht]] at t0
      obtain ⟨hol1, hol2⟩ := hol
      rw [← htl] at hol1 hol2
      clear ht htl htd
      obtain ⟨Wm, hWm⟩ : ∃ Wm, Wm = X.drewN m := ⟨_, rfl⟩
      have HWM : Hid (Wm = X.drewN m) := hWm
      rw [← hWm] at t0 x0 ⊢
      clear hWm HMX
      by_cases hkk : p + t.size ≤ s.size
      · have hk' : (p : Int) + (t.size : Int) ≤ (s.size : Int) := by omega
        have hE : ((s.extract p (p + t.size)).toList == t.toList) = false := (pre_yes s t p).trans HNO
        clear HNO
        go_wp2_with fail
        go_quiet (fail)
        go_wp2_with fail
        exact ⟨⟨k + 1, m + nq, rfl, by simp, by omega, by rw [HWM.out, World.drewN_drewN]⟩, by simp [intOf]; omega⟩
      · have hk' : decide ((p : Int) + (t.size : Int) ≤ (s.size : Int)) = false := decide_eq_false (by omega)
        clear HNO
        go_wp2_with fail
        go_quiet (fail)
        go_wp2_with fail
        exact ⟨⟨k + 1, m + nq, rfl, by simp, by omega, by rw [HWM.out, World.drewN_drewN]⟩, by simp [intOf]; omega⟩
    · have hk17 : ¬ (k : Int) < 17 := by omega
      clear hk
      obtain ⟨Y, hY⟩ : ∃ Y, Y = X.drewN m := ⟨_, rfl⟩
      rw [← hY] at HMX x0 ⊢
      clear hY HOT HOK HM0 HF2 hgk
      have HBX : Hid (Below (b0 + 3) W1 Y) := by have h := (HMX.out.lsb HL.out).below; rwa [hz] at h
      have xf0 := HMX.out.cel.frozen 0
      have xf2 := HMX.out.cel.frozen 2
      have xf3 := HMX.out.cel.frozen 3
      have x2 : Y.cell? ⟨tb, 2, none⟩ = some (.int .i64 0) := HMX.out.cel.cell 2
      have x3 : Y.cell? ⟨tb, 3, none⟩ = some (.string ⟨#[]⟩) := HMX.out.cel.cell 3
      have d39 : (((s[p]).toNat : Int) == 39) = true := by rw [c39]; rfl
      have HRQ : Hid (R = preT K (aftB T g (quoR p gl (dqA [] (s.data.toList.drop (p + 1)))))) := by
        unfold Hid
        rw [HRW.out, c39, writ_quote]
      clear HRW c39
      go_upto_region 35 with fail
      obtain ⟨Z, hZ⟩ : ∃ Z, Z = Y.setCell ⟨tb, 0, none⟩ (.int .i64 19) := ⟨_, rfl⟩
      have HMZ : Hid (Mk wo tb 19 p 0 ⟨#[]⟩ gl Z) := by rw [hZ]; exact HMX.out.setK 19 rfl
      rw [← hZ]
      clear hZ HMX x0 xf0 xf2 xf3 x2 x3
      go_wp2_with fail
      go_loopw [2, 7] (fun v2 v7 w4 => ∃ (j : Nat) (a : ByteArray), v2 = .slice none 0 0 ∧ v7 = .int .i64 (j : Nat) ∧ p < j ∧ j ≤ s.size ∧ a.size ≤ j ∧ Hid (Mk wo tb 19 p 0 a gl w4) ∧ Hid (R = preT K (aftB T g (quoR p gl (dqA a.data.toList (s.data.toList.drop j)))))) (fun _ v7 _ => s.size + 1 - (intOf v7).toNat)
      case atStart => exact ⟨p + 1, ⟨#[]⟩, rfl, by simp, by omega, by omega, Nat.zero_le _, HMZ.out, HRQ.out⟩
      case round =>
        obtain ⟨j, a, rfl, rfl, hpj, hj, haj, HM, HRJ⟩ := hrel
        clear HMZ HRQ
        by_cases hlj : j < s.size
        · have hlj' : (j : Int) < (s.size : Int) := by omega
          have hge : ¬ (s.size : Int) ≤ (j : Int) := by omega
          have n3 : wr.cell? ⟨tb, 3, none⟩ = some (.string a) := HM.out.cel.cell 3
          have nf3 := HM.out.cel.frozen 3
          by_cases e39 : s[j] = 39
          · have f39 : (((s[j]).toNat : Int) == 39) = true := by rw [e39]; rfl
            by_cases two : j + 1 < s.size ∧ s[j + 1]! = 39
            ·
              obtain ⟨hl2, e2⟩ := two
              rw [getElem!_pos s (j + 1) hl2] at e2
              have hl2' : (j : Int) + 1 < (s.size : Int) := by omega
              have f2 : (((s[j + 1]).toNat : Int) == 39) = true := by rw [e2]; rfl
              have hge0 : 0 ≤ (j : Int) + 1 := by omega
              have htn : ((j : Int) + 1).toNat = j + 1 := by omega
              have hx1 : ((j : Int) + 1 + 1) ≤ (s.size : Int) := by omega
              have hsz2 : (s.extract (j + 1) (j + 1 + 1)).size ≤ 1 := by rw [ByteArray.size_extract]; omega
              have HR2 : Hid (R = preT K (aftB T g (quoR p gl (dqA (a ++ s.extract (j + 1) (j + 1 + 1)).data.toList (s.data.toList.drop (j + 2)))))) := by
                unfold Hid
                rw [HRJ.out, drop_cons s j hlj, drop_cons s (j + 1) hl2, e39, e2, dqA_two, bytes_snoc a s (j + 1) hl2, e2]
              have HA2 : Hid ((a ++ s.extract (j + 1) (j + 1 + 1)).size ≤ j + 2) := by
                unfold Hid
                rw [ByteArray.size_append]
                omega
              clear e39 e2 HRJ
              go_upto_region 40 with fail
              go_region
              obtain ⟨V, hV⟩ : ∃ V, V = (wr.setCell ⟨tb, 3, none⟩ (.string (a ++ s.extract (j + 1) (j + 1 + 1)))).drew := ⟨_, rfl⟩
              have HMV : Hid (Mk wo tb 19 p 0 (a ++ s.extract (j + 1) (j + 1 + 1)) gl V) := by rw [hV]; exact (HM.out.setS _).drewN 1
              rw [← hV]
              clear hV HM n3 nf3
              go_wp2_with fail
              exact ⟨⟨j + 2, _, rfl, by simp; omega, by omega, by omega, HA2.out, HMV.out, HR2.out⟩, by simp [intOf]; omega⟩
            ·
              have HR2 : Hid (R = preT (K ++ [⟨19, p, 0, a.data.toList, gl⟩]) (lexW T g (s.data.toList.drop (j + 1)))) := by
                unfold Hid
                rw [HRJ.out, drop_cons s j hlj, e39, dqA_stop _ _ ?_]
                · exact preT_pre _ _ _
                · intro e
                  rw [drop_head] at e
                  by_cases hl2 : j + 1 < s.size
                  · rw [text_at s (j + 1) hl2] at e
                    exact two ⟨hl2, by rw [getElem!_pos s (j + 1) hl2]; exact Option.some.inj e⟩
                  · rw [at_none s (j + 1) hl2] at e
                    cases e
              have htwo : (j + 1 < s.size → ¬ s[j + 1]! = 39) := fun h e => two ⟨h, e⟩
              clear e39 HRJ two
              obtain ⟨J, hJ⟩ : ∃ J, J = j + 1 := ⟨_, rfl⟩
              have HRR : Hid (R = preT (K ++ [⟨19, p, 0, a.data.toList, gl⟩]) (lexW T g (s.data.toList.drop J))) := by rw [hJ]; exact HR2.out
              have hj1 : p < J := by omega
              have hj2 : J ≤ s.size := by omega
              clear HR2
              by_cases hl2 : j + 1 < s.size
              · have hl2' : (j : Int) + 1 < (s.size : Int) := by omega
                have e2 := htwo hl2
                rw [getElem!_pos s (j + 1) hl2] at e2
                have f2 : (((s[j + 1]).toNat : Int) == 39) = false := byte_ne _ _ e2
                have hge0 : 0 ≤ (j : Int) + 1 := by omega
                have htn : ((j : Int) + 1).toNat = j + 1 := by omega
                clear e2 htwo
                clear n3 nf3
                go_upto_region 66 with fail
                have HLM : Hid (Lsb W1 (.slice ad K.length cap) K wr) := HM.out.lsb HL.out
                have hWs : b0 + 3 ≤ wr.heap.size := by have := HLM.out.below.size; omega
                have HTK : Hid (wr.ownsRow (b0 + 3) 55 5 (.slice ad K.length cap) K.length (tbCs K)) := by have h := HLM.out.tk; unfold RbOwn at h; rwa [hz] at h
                have m0 : wr.cell? ⟨tb, 0, none⟩ = some (.int .i64 (19 : Nat)) := HM.out.cel.cell 0
                have m1 : wr.cell? ⟨tb, 1, none⟩ = some (.int .i64 (p : Nat)) := HM.out.cel.cell 1
                have m2 : wr.cell? ⟨tb, 2, none⟩ = some (.int .i64 (0 : Nat)) := HM.out.cel.cell 2
                have m3 : wr.cell? ⟨tb, 3, none⟩ = some (.string a) := HM.out.cel.cell 3
                have m4 : wr.cell? ⟨tb, 4, none⟩ = some (.bool gl) := HM.out.cel.cell 4
                go_wp2_with (at_builtin; refine wpList_append_own_at _ rfl _ _ 28 rfl (b0 + 3) 55 i0 _ 5 48 Tryd.underlying28 hi hz0 hz1 hz2 rfl (by decide) _ _ _ rfl (World.ownsRow.alloc HTK.out _) ⟨wr.heap.size, 0, none⟩ 1 1 (tbC ⟨19, p, 0, (a).data.toList, gl⟩) rfl rfl (cells_new _ _ _) (by simp [Value.oneCell']) (by have := maxLen_big; omega) (by omega) (by simp; omega) ?_; intro v6 w6 hown hgrow hx1 hx2; clear hx1 hx2)
                have HL6 : Hid (Lsb W1 v6 (K ++ [⟨19, p, 0, (a).data.toList, gl⟩]) w6) := Lsb.snoc HL.out HM.out (by rw [hz]; exact hown) hgrow
                clear hown hgrow m0 m1 m2 m3 m4
                go_wp2_with fail
                exact HN J J g ((j : Int) + 1) ((j : Int) + 1) (K ++ [⟨19, p, 0, (a).data.toList, gl⟩]) _ _ (Nat.le_refl _) hj2 (by omega) (by rw [List.length_append]; simp only [List.length_cons, List.length_nil]; omega) (fun _ => by rw [List.length_append]; simp) hj1 (by rw [enI, if_neg (by omega), hJ]; simp) (by rw [hJ]; simp) rfl HL6.out HRR.out _ _ _ _ _ _ _ _ _ _ _ _ _ _ _ _ _ _ _ _ _ _ _ _ _ _ _ _ _ _ _ _ _ _ _ _ _ _ _ _ _ _ _ _ _ _ _ _ _ _ _ _ _ _ _ _ _ _ _ _ _ _ _ _ _ _ _ _ _ _ _ _ _ _ _ _ _ _ _ _ _ _ _ _ _ _ _ _ _ _ _ _ _ _ _ _ _ _ _ _ _ _ _ _ _ _ _ _ _ _ _ _ _ _ _ _ _ _ _ _ _ _ _ _ _ _ _ _ _ _ _ _ _ _ _ _ _ _ _ _ _ _ _ _ _ _ _ _ _ _ _ _ _ _ _ _ _ _ _ _ _ _ _ _ _ _ _ _ _ _ _ _ _ _ _ _ _ _ _ _ _ _ _ _ _ _ _ _ _ _ _ _ _ _ _ _ _ _ _ _ _ _ _ _ _ _ _ _ _ _ _ _ _ _ _ _ _ _ _ _ _ _ _ _ _ _ _ _ _ _ _ _ _ _ _ _ _ _ _ _ _ _ _ _ _ _ _ _ _ _ _ _ _ _ _ _ _ _ _ _ _ _ _ _ _ _ _ _ _ 
              · have hl2' : ¬ (j : Int) + 1 < (s.size : Int) := by omega
                clear htwo hl2
                clear n3 nf3
                go_upto_region 66 with fail
                have HLM : Hid (Lsb W1 (.slice ad K.length cap) K wr) := HM.out.lsb HL.out
                have hWs : b0 + 3 ≤ wr.heap.size := by have := HLM.out.below.size; omega
                have HTK : Hid (wr.ownsRow (b0 + 3) 55 5 (.slice ad K.length cap) K.length (tbCs K)) := by have h := HLM.out.tk; unfold RbOwn at h; rwa [hz] at h
                have m0 : wr.cell? ⟨tb, 0, none⟩ = some (.int .i64 (19 : Nat)) := HM.out.cel.cell 0
                have m1 : wr.cell? ⟨tb, 1, none⟩ = some (.int .i64 (p : Nat)) := HM.out.cel.cell 1
                have m2 : wr.cell? ⟨tb, 2, none⟩ = some (.int .i64 (0 : Nat)) := HM.out.cel.cell 2
                have m3 : wr.cell? ⟨tb, 3, none⟩ = some (.string a) := HM.out.cel.cell 3
                have m4 : wr.cell? ⟨tb, 4, none⟩ = some (.bool gl) := HM.out.cel.cell 4
                go_wp2_with (at_builtin; refine wpList_append_own_at _ rfl _ _ 28 rfl (b0 + 3) 55 i0 _ 5 48 Tryd.underlying28 hi hz0 hz1 hz2 rfl (by decide) _ _ _ rfl (World.ownsRow.alloc HTK.out _) ⟨wr.heap.size, 0, none⟩ 1 1 (tbC ⟨19, p, 0, (a).data.toList, gl⟩) rfl rfl (cells_new _ _ _) (by simp [Value.oneCell']) (by have := maxLen_big; omega) (by omega) (by simp; omega) ?_; intro v6 w6 hown hgrow hx1 hx2; clear hx1 hx2)
                have HL6 : Hid (Lsb W1 v6 (K ++ [⟨19, p, 0, (a).data.toList, gl⟩]) w6) := Lsb.snoc HL.out HM.out (by rw [hz]; exact hown) hgrow
                clear hown hgrow m0 m1 m2 m3 m4
                go_wp2_with fail
                exact HN J J g ((j : Int) + 1) ((j : Int) + 1) (K ++ [⟨19, p, 0, (a).data.toList, gl⟩]) _ _ (Nat.le_refl _) hj2 (by omega) (by rw [List.length_append]; simp only [List.length_cons, List.length_nil]; omega) (fun _ => by rw [List.length_append]; simp) hj1 (by rw [enI, if_neg (by omega), hJ]; simp) (by rw [hJ]; simp) rfl HL6.out HRR.out _ _ _ _ _ _ _ _ _ _ _ _ _ _ _ _ _ _ _ _ _ _ _ _ _ _ _ _ _ _ _ _ _ _ _ _ _ _ _ _ _ _ _ _ _ _ _ _ _ _ _ _ _ _ _ _ _ _ _ _ _ _ _ _ _ _ _ _ _ _ _ _ _ _ _ _ _ _ _ _ _ _ _ _ _ _ _ _ _ _ _ _ _ _ _ _ _ _ _ _ _ _ _ _ _ _ _ _ _ _ _ _ _ _ _ _ _ _ _ _ _ _ _ _ _ _ _ _ _ _ _ _ _ _ _ _ _ _ _ _ _ _ _ _ _ _ _ _ _ _ _ _ _ _ _ _ _ _ _ _ _ _ _ _ _ _ _ _ _ _ _ _ _ _ _ _ _ _ _ _ _ _ _ _ _ _ _ _ _ _ _ _ _ _ _ _ _ _ _ _ _ _ _ _ _ _ _ _ _ _ _ _ _ _ _ _ _ _ _ _ _ _ _ _ _ _ _ _ _ _ _ _ _ _ _ _ _ _ _ _ _ _ _ _ _ _ _ _ _ _ _ _ _ _ _ _ _ _ _ _ _ _ _ _ _ _ _ _ _ 
          · have f39 : (((s[j]).toNat : Int) == 39) = false := byte_ne s[j] 39 e39
            have hsz2 : (s.extract j (j + 1)).size ≤ 1 := by rw [ByteArray.size_extract]; omega
            have hx1 : ((j : Int) + 1) ≤ (s.size : Int) := by omega
            have HR2 : Hid (R = preT K (aftB T g (quoR p gl (dqA (a ++ s.extract j (j + 1)).data.toList (s.data.toList.drop (j + 1)))))) := by
              unfold Hid
              rw [HRJ.out, drop_cons s j hlj, dqA_byte _ _ e39, bytes_snoc a s j hlj]
            have HA2 : Hid ((a ++ s.extract j (j + 1)).size ≤ j + 1) := by
              unfold Hid
              rw [ByteArray.size_append]
              omega
            clear e39 HRJ
            go_upto_region 40 with fail
            go_region
            obtain ⟨V, hV⟩ : ∃ V, V = (wr.setCell ⟨tb, 3, none⟩ (.string (a ++ s.extract j (j + 1)))).drew := ⟨_, rfl⟩
            have HMV : Hid (Mk wo tb 19 p 0 (a ++ s.extract j (j + 1)) gl V) := by rw [hV]; exact (HM.out.setS _).drewN 1
            rw [← hV]
            clear hV HM n3 nf3
            go_wp2_with fail
            exact ⟨⟨j + 1, _, rfl, by simp, by omega, by omega, HA2.out, HMV.out, HR2.out⟩, by simp [intOf]; omega⟩
        · have hge : (s.size : Int) ≤ (j : Int) := by omega
          have HRR : Hid (R = .error ⟨2, p⟩) := by
            unfold Hid
            rw [HRJ.out, drop_none s j hlj, dqA_end]
            rfl
          have HBX : Hid (Below (b0 + 3) W1 wr) := by have h := (HM.out.lsb HL.out).below; rwa [hz] at h
          have HPL : Hid _ := placed_any 103 (p : Nat) (by decide) wr
          clear HRJ hlj hj haj
          go_wp2_with fail
          refine Calls.mono HPL.out ?_
          rintro e w5 ⟨fb, rfl, hf, hfb, hb5⟩
          have HF5 : Hid (Cel w5 fb 3 #[.int .i64 (p : Nat)]) := hf
          have HB5 : Hid (Below (b0 + 3) W1 w5) := HBX.out.trans (hb5.mono (by have := HBX.out.size; omega))
          have HC5 : Hid (Cel w5 b0 31 #[.int .i64 0, .slice none 0 0]) := HFL.out.below HB5.out (by omega)
          have hfb0 : fb ≠ b0 := fun e => by have := HBX.out.size; omega
          have r0 : w5.cell? ⟨b0, 0, none⟩ = some (.int .i64 0) := HC5.out.cell 0
          have r1 : w5.cell? ⟨b0, 1, none⟩ = some (.slice none 0 0) := HC5.out.cell 1
          have rf0 := HC5.out.frozen 0
          have rf1 := HC5.out.frozen 1
          clear hf hb5 HPL hfb HBX
          go_wp2_with fail
          exact HR ⟨2, p⟩ fb _ HRR.out ((HC5.out.set (j := 0) (.int .i64 103)).set (j := 1) (.slice (some ⟨fb, 0, none⟩) 1 1)) ((HF5.out.other hfb0 _).other hfb0 _) (((HB5.out.mono (Nat.le_add_right b0 3)).setCell (p := ⟨b0, 0, none⟩) (Nat.le_refl _) _).setCell (p := ⟨b0, 1, none⟩) (Nat.le_refl _) _) _ _ _ _ _ _ _ _ _ _ _ _ _ _ _ _ _ _ _ _ _ _ _ _ _ _ _ _ _ _ _ _ _ _ _ _ _ _ _ _ _ _ _ _ _ _ _ _ _ _ _ _ _ _ _ _ _ _ _ _ _ _ _ _ _ _ _ _ _ _ _ _ _ _ _ _ _ _ _ _ _ _ _ _ _ _ _ _ _ _ _ _ _ _ _ _ _ _ _ _ _ _ _ _ _ _ _ _ _ _ _ _ _ _ _ _ _ _ _ _ _ _ _ _ _ _ _ _ _ _ _ _ _ _ _ _ _ _ _ _ _ _ _ _ _ _ _ _ _ _ _ _ _ _ _ _ _ _ _ _ _ _ _ _ _ _ _ _ _ _ _ _ _ _ _ _ _ _ _ _ _ _ _ _ _ _ _ _ _ _ _ _ _ _ _ _ _ _ _ _ _ _ _ _ _ _ _ _ _ _ _ _ _ _ _ _ _ _ _ _ _ _ _ _ _ _ _ _ _ _ _ _ _ _ _ _ _ _ _ _ _ _ _ _ _ _ _ _ _ _ _ _ _ _ _ _ _ _ _ _ _ _ _ _ _ _ _ _ _ _ _ _ 
end Go.Proofs.YtddekcohfbnmbaaDoor
