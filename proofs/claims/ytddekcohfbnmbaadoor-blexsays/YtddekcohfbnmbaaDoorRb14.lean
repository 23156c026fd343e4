/- The document's own lexer. -/
import Derived.Test.YtddekcohfbnmbaaDoorRb13
namespace Go.Proofs.YtddekcohfbnmbaaDoor
open Go.RowKit
attribute [local go_sem] Oper.semAt_some

set_option maxRecDepth 100000 in
set_option maxHeartbeats 16000000 in
theorem lexB_any (s : ByteArray) (W : World) (hs : s.size ≤ 8192) :
    Calls Tryd.prog 9 #[.string s] W fun e w' => ∃ v c av, e = .returned (.tuple #[v, .agg #[.int .i64 c, av]]) ∧ LexB W (lexL s.data.toList) v c av w' ∧ Below W.heap.size W w' := by
  obtain ⟨i0, hi, hz0, hz1, hz2⟩ := info_parts infoTB
  obtain ⟨b0, hb0⟩ : ∃ b0, b0 = W.heap.size := ⟨_, rfl⟩
  obtain ⟨W0, hW0⟩ : ∃ W0, W0 = W.alloc (.cells #[.int .i64 0, .slice none 0 0] 31) := ⟨_, rfl⟩
  obtain ⟨W1, hW1⟩ : ∃ W1, W1 = (W0.alloc (.cells opsTV 9)).alloc (.cells opsKV 3) := ⟨_, rfl⟩
  have hz' : W0.heap.size = b0 + 1 := by rw [hW0, hb0]; simp
  have hz : W1.heap.size = b0 + 3 := by rw [hW1]; simp; omega
  have HB1 : Hid (Below b0 W W1) := by rw [hW1, hW0, hb0]; exact ((below_new W _).alloc (by simp) _).alloc (by simp; omega) _
  have HFL : Hid (Cel W1 b0 31 #[.int .i64 0, .slice none 0 0]) := by
    rw [hW1, hb0, hW0]
    exact ((Cel.new W _ _).below (below_new _ _) (by simp)).below (below_new _ _) (by simp; omega)
  have HOT1 : Hid (Cel W1 (b0 + 1) 9 opsTV) := by
    rw [hW1, ← hz']
    exact (Cel.new W0 _ _).below (below_new _ _) (by simp)
  have HOK1 : Hid (Cel W1 (b0 + 2) 3 opsKV) := by
    have h1 := Cel.new (W0.alloc (.cells opsTV 9)) 3 opsKV
    rw [show (W0.alloc (.cells opsTV 9)).heap.size = b0 + 2 by simp; omega, ← hW1] at h1
    exact h1
  have HOP : Hid (Calls Tryd.prog 19 #[] W0 fun e w' => e = .returned (.tuple #[.slice (some ⟨b0 + 1, 0, none⟩) 17 17, .slice (some ⟨b0 + 2, 0, none⟩) 17 17]) ∧ w' = W1) := by
    have h1 := operators_any W0
    rw [hz'] at h1
    rw [hW1]
    exact h1
  have HL1 : Hid (Lsb W1 (.slice none 0 0) [] W1) := ⟨RbOwn.nil _ _, Below.refl _ _⟩
  have HW0 : Hid (W.alloc (.cells #[.int .i64 0, .slice none 0 0] 31) = W0) := hW0.symm
  obtain ⟨T, HT⟩ : ∃ T : List UInt8 → Except Er (Tb × List UInt8), Hid (T = tokenL s.size) := ⟨tokenL s.size, by unfold Hid; rfl⟩
  obtain ⟨R, HR⟩ : ∃ R, Hid (lexL s.data.toList = R) := ⟨lexL s.data.toList, by unfold Hid; rfl⟩
  have HRW : Hid (R = lexW T (s.size + 1) s.data.toList) := by
    unfold Hid
    rw [← HR.out, HT.out]
    unfold lexL
    rw [show s.data.toList.length = s.size by simp]
  rw [HR.out]
  have hs' : (s.size : Int) ≤ 8192 := by omega
  have hs2 : ¬ (8192 : Int) < (s.size : Int) := by omega
  have HB0 : Hid (b0 = W.heap.size) := hb0
  clear hW1 hW0 HR hz'
  go_enter Tryd.func9, Tryd.ntmps9
  go_upto_region 3 with fail
  rw [HW0.out, ← hb0]
  clear hb0
  go_wp2_with fail
  refine Calls.mono HOP.out ?_
  rintro e w1 ⟨rfl, hw⟩
  obtain rfl := hw.symm
  clear hw
  go_wp2_with fail
  clear HOP HW0
  go_loopw [2, 6, 7, 8, 9, 10, 11, 12, 13] (fun v2 v6 v7 v8 _ _ _ _ _ wr => ∃ (q p g : Nat) (K : List Tb), v2 = .slice none 0 0 ∧ v7 = .int .i64 (p : Nat) ∧ v8 = .int .i64 (enI q) ∧ q ≤ p ∧ p ≤ s.size ∧ s.size - q < g ∧ K.length ≤ q ∧ (0 < q → 0 < K.length) ∧ Hid (over (s.data.toList.drop p) = over (s.data.toList.drop q)) ∧ Hid (Lsb W1 v6 K wr) ∧ Hid (R = preT K (lexW T g (s.data.toList.drop q)))) (fun _ _ v7 _ _ _ _ _ _ _ => s.size + 1 - (intOf v7).toNat)
  case atStart =>
    refine ⟨0, 0, s.size + 1, [], rfl, rfl, rfl, Nat.le_refl _, Nat.zero_le _, by omega, Nat.zero_le _, fun h => absurd h (by omega), rfl, HL1.out, ?_⟩
    unfold Hid
    rw [HRW.out, List.drop_zero]
    cases lexW T (s.size + 1) s.data.toList <;> rfl
  case round =>
    obtain ⟨q, p, g, K, rfl, rfl, rfl, hqp, hp, hg, hKq, hK0, HOV, HL, HEQ⟩ := hrel
    clear HL1 HRW
    obtain ⟨ad, cap, rfl⟩ := HL.out.tk.form
    refine round_all s hs b0 W1 hz HFL HOT1 HOK1 T HT R q p g (enI q) K ad cap hqp hp hg hKq hK0 rfl HOV wr HL HEQ _ _ _ _ _ _ _ _ _ _ _ _ _ _ _ _ _ _ _ _ _ _ _ _ _ _ _ _ _ _ _ _ _ _ _ _ _ _ _ _ _ _ _ _ _ _ _ _ _ _ _ _ _ _ _ _ _ _ _ _ _ _ _ _ _ _ _ _ _ _ _ _ _ _ _ _ _ _ _ _ _ _ _ _ _ _ _ _ _ _ _ _ _ _ _ _ _ _ _ _ _ _ _ _ _ _ _ _ _ _ _ _ _ _ _ _ _ _ _ _ _ _ _ _ _ _ _ _ _ _ _ _ _ _ _ _ _ _ _ _ _ _ _ _ _ _ _ _ _ _ _ _ _ _ _ _ _ _ _ _ _ _ _ _ _ _ _ _ _ _ _ _ _ _ _ _ _ _ _ _ _ _ _ _ _ _ _ _ _ _ _ _ _ _ _ _ _ _ _ _ _ _ _ _ _ _ _ _ _ _ _ _ _ _ _ _ _ _ _ _ _ _ _ _ _ _ _ _ _ _ _ _ _ _ _ _ _ _ _ _ _ _ _ _ _ _ _ _ _ _ _ _ _ _ _ _ _ _ _ _ _ _ _ _ _ _ _ _ _ _ _ _ _ _ _ _ _ _ _ _ _ _ _ _ _ _ _ _ _ _ _ _ _ _ _  ?hn ?hr ?hx
    case hn =>
      intro q' p' g' en' pi' K' v' w' h1 h2 h3 h4 h5 h6 h7 h8 h9 h10 h11 z9 z10 z11 z12 z13 z22 z23 z24 z25 z26 z27 z28 z29 z30 z31 z32 z33 z34 z35 z36 z37 z38 z39 z40 z41 z42 z43 z44 z45 z46 z47 z48 z49 z50 z51 z52 z53 z54 z55 z56 z57 z58 z59 z60 z61 z62 z63 z64 z65 z66 z67 z68 z69 z70 z71 z72 z73 z74 z75 z76 z77 z78 z79 z80 z81 z82 z83 z84 z85 z86 z87 z88 z89 z90 z91 z92 z93 z94 z95 z96 z97 z98 z99 z100 z101 z102 z103 z104 z105 z106 z107 z108 z109 z110 z111 z112 z113 z114 z115 z116 z117 z118 z119 z120 z121 z122 z123 z124 z125 z126 z127 z128 z129 z130 z131 z132 z133 z134 z135 z136 z137 z138 z139 z140 z141 z142 z143 z144 z145 z146 z147 z148 z149 z150 z151 z152 z153 z154 z155 z156 z157 z158 z159 z160 z161 z162 z163 z164 z165 z166 z167 z168 z169 z170 z171 z172 z173 z174 z175 z176 z177 z178 z179 z180 z181 z182 z183 z184 z185 z186 z187 z188 z189 z190 z191 z192 z193 z194 z195 z196 z197 z198 z199 z200 z201 z202 z203 z204 z205 z206 z207 z208 z209 z210 z211 z212 z213 z214 z215 z216 z217 z218 z219 z220 z221 z222 z223 z224 z225 z226 z227 z228 z229 z230 z231 z232 z233 z234 z235 z236 z237 z238 z239 z240 z241 z242 z243 z244 z245 z246 z247 z248 z249 z250 z251 z252 z253 z254 z255 z256 z257 z258 z259 z260 z261 z262 z263 z264 z265 z266 z267 z268 z269 z270 z271 z272 z273 z274 z275 z276 z277 z278 z279 z280 z281 z282 z283 z284 z285
      go_roundw
      case rel =>
        (repeat apply Exists.intro)
        exact ⟨⟨q', p', g', K', rfl, by rw [h8], by rw [h7], h1, h2, h3, h4, h5, h9, h10, h11⟩, rfl⟩
      case measure =>
        subst h8
        show s.size + 1 - ((p' : Nat) : Int).toNat < s.size + 1 - ((p : Nat) : Int).toNat
        omega
    case hr =>
      intro x fb w' h1 h2 h3 h4 z6 z7 z8 z9 z10 z11 z12 z13 z22 z23 z24 z25 z26 z27 z28 z29 z30 z31 z32 z33 z34 z35 z36 z37 z38 z39 z40 z41 z42 z43 z44 z45 z46 z47 z48 z49 z50 z51 z52 z53 z54 z55 z56 z57 z58 z59 z60 z61 z62 z63 z64 z65 z66 z67 z68 z69 z70 z71 z72 z73 z74 z75 z76 z77 z78 z79 z80 z81 z82 z83 z84 z85 z86 z87 z88 z89 z90 z91 z92 z93 z94 z95 z96 z97 z98 z99 z100 z101 z102 z103 z104 z105 z106 z107 z108 z109 z110 z111 z112 z113 z114 z115 z116 z117 z118 z119 z120 z121 z122 z123 z124 z125 z126 z127 z128 z129 z130 z131 z132 z133 z134 z135 z136 z137 z138 z139 z140 z141 z142 z143 z144 z145 z146 z147 z148 z149 z150 z151 z152 z153 z154 z155 z156 z157 z158 z159 z160 z161 z162 z163 z164 z165 z166 z167 z168 z169 z170 z171 z172 z173 z174 z175 z176 z177 z178 z179 z180 z181 z182 z183 z184 z185 z186 z187 z188 z189 z190 z191 z192 z193 z194 z195 z196 z197 z198 z199 z200 z201 z202 z203 z204 z205 z206 z207 z208 z209 z210 z211 z212 z213 z214 z215 z216 z217 z218 z219 z220 z221 z222 z223 z224 z225 z226 z227 z228 z229 z230 z231 z232 z233 z234 z235 z236 z237 z238 z239 z240 z241 z242 z243 z244 z245 z246 z247 z248 z249 z250 z251 z252 z253 z254 z255 z256 z257 z258 z259 z260 z261 z262 z263 z264 z265 z266 z267 z268 z269 z270 z271 z272 z273 z274 z275 z276 z277 z278 z279 z280 z281 z282 z283 z284 z285
      simp only [Exit.then, Exit.inBlock]
      refine bodyPost_ret (results_flt (p := 3) (u := 2) rfl _ _ b0 _ rfl h2 rfl) rfl ?_
      rw [h1]
      refine ⟨_, _, _, rfl, ⟨rfl, rfl, fb, rfl, h3⟩, ?_⟩
      rw [← HB0.out]
      exact HB1.out.trans h4
    case hx =>
      intro hge
      intro z22 z23 z24 z25 z26 z27 z28 z29 z30 z31 z32 z33 z34 z35 z36 z37 z38 z39 z40 z41 z42 z43 z44 z45 z46 z47 z48 z49 z50 z51 z52 z53 z54 z55 z56 z57 z58 z59 z60 z61 z62 z63 z64 z65 z66 z67 z68 z69 z70 z71 z72 z73 z74 z75 z76 z77 z78 z79 z80 z81 z82 z83 z84 z85 z86 z87 z88 z89 z90 z91 z92 z93 z94 z95 z96 z97 z98 z99 z100 z101 z102 z103 z104 z105 z106 z107 z108 z109 z110 z111 z112 z113 z114 z115 z116 z117 z118 z119 z120 z121 z122 z123 z124 z125 z126 z127 z128 z129 z130 z131 z132 z133 z134 z135 z136 z137 z138 z139 z140 z141 z142 z143 z144 z145 z146 z147 z148 z149 z150 z151 z152 z153 z154 z155 z156 z157 z158 z159 z160 z161 z162 z163 z164 z165 z166 z167 z168 z169 z170 z171 z172 z173 z174 z175 z176 z177 z178 z179 z180 z181 z182 z183 z184 z185 z186 z187 z188 z189 z190 z191 z192 z193 z194 z195 z196 z197 z198 z199 z200 z201 z202 z203 z204 z205 z206 z207 z208 z209 z210 z211 z212 z213 z214 z215 z216 z217 z218 z219 z220 z221 z222 z223 z224 z225 z226 z227 z228 z229 z230 z231 z232 z233 z234 z235 z236 z237 z238 z239 z240 z241 z242 z243 z244 z245 z246 z247 z248 z249 z250 z251 z252 z253 z254 z255 z256 z257 z258 z259 z260 z261 z262 z263 z264 z265 z266 z267 z268 z269 z270 z271 z272 z273 z274 z275 z276 z277 z278 z279 z280 z281 z282 z283 z284 z285
      rename_i QQ KK hKK
      refine hKK _ _ ?_
      obtain ⟨gl, hgl⟩ : ∃ gl, (enI q == (s.size : Int)) = gl := ⟨_, rfl⟩
      have HRR : Hid (R = .ok (K ++ [⟨0, s.size, 0, [], gl⟩])) := by
        unfold Hid
        obtain ⟨g', rfl⟩ : ∃ g', g = g' + 1 := ⟨g - 1, by omega⟩
        have hov : over (s.data.toList.drop q) = [] := by rw [← HOV.out, drop_none s p (by omega)]; rfl
        rw [HEQ.out, HT.out, lex_end hov, ← hgl, glue_is s q s.size (by omega) (Nat.le_refl _), drop_none s s.size (by omega)]
        rfl
      have hXs : b0 + 3 ≤ wr.heap.size := by have := HL.out.below.size; omega
      have HTK : Hid (wr.ownsRow (b0 + 3) 55 5 (.slice ad K.length cap) K.length (tbCs K)) := by have h := HL.out.tk; unfold RbOwn at h; rwa [hz] at h
      have HBL : Hid (Below (b0 + 3) W1 wr) := by have h := HL.out.below; rwa [hz] at h
      have hKL : K.length ≤ 8192 := by omega
      have HK1 : Hid (gl = true → 0 < K.length) := by
        unfold Hid
        intro e
        rw [e, beq_iff_eq] at hgl
        refine hK0 ?_
        unfold enI at hgl
        split at hgl <;> omega
      have HGL : Hid ((enI q == (s.size : Int)) = gl) := hgl
      clear HOV HEQ hK0 hKq hg hqp hp hge hKK HOT1 HOK1 HT hgl
      generalize enI q = en at HGL ⊢
      cases gl
      · have hgl := HGL.out
        clear HGL HK1
        go_wp2_with (at_builtin; refine wpList_append_own_at _ rfl _ _ 28 rfl (b0 + 3) 55 i0 _ 5 48 Tryd.underlying28 hi hz0 hz1 hz2 rfl (by decide) _ _ _ rfl (World.ownsRow.alloc HTK.out _) ⟨wr.heap.size, 0, none⟩ 1 1 (tbC ⟨0, s.size, 0, [], false⟩) rfl rfl (cells_new _ _ _) (by simp [Value.oneCell']) (by have := maxLen_big; omega) (by omega) (by simp; omega) ?_; intro v6 w6 hown hgrow hx1 hx2; clear hx1 hx2)
        have hb6 : Below (b0 + 3) wr w6 := grown_own (by simp; omega) ((Below.refl _ wr).alloc (by omega) _) (World.ownsRow.alloc HTK.out _) hgrow
        have HK6 : Hid (RbOwn w6 (b0 + 3) v6 (K ++ [⟨0, s.size, 0, [], false⟩])) := by
          have h := hown
          unfold Hid RbOwn
          rw [tbCs, List.flatMap_append, List.length_append]
          exact h
        have HN6 : Hid _ := none_any w6
        have HU6 : Hid (Below (b0 + 3) W1 w6) := HBL.out.trans hb6
        have HC6 : Hid (Cel w6 b0 31 #[.int .i64 0, .slice none 0 0]) := HFL.out.below HU6.out (by omega)
        have hz6 : b0 + 3 ≤ w6.heap.size := Nat.le_trans hXs hb6.size
        clear hown hgrow hb6
        refine Calls.mono HN6.out ?_
        rintro e w7 ⟨rfl, hb7⟩
        have HC7 : Hid (Cel w7 b0 31 #[.int .i64 0, .slice none 0 0]) := HC6.out.below hb7 (by omega)
        have HK7 : Hid (RbOwn w7 (b0 + 3) v6 (K ++ [⟨0, s.size, 0, [], false⟩])) := HK6.out.below hb7
        have HU7 : Hid (Below b0 W1 w7) := (HU6.out.mono (by omega)).trans (hb7.mono (by omega))
        have r0 : w7.cell? ⟨b0, 0, none⟩ = some (.int .i64 0) := HC7.out.cell 0
        have r1 : w7.cell? ⟨b0, 1, none⟩ = some (.slice none 0 0) := HC7.out.cell 1
        have rf0 := HC7.out.frozen 0
        have rf1 := HC7.out.frozen 1
        clear hb7 HN6 HK6 HC6 HU6
        go_wp2_with fail
        refine bodyPost_ret (results_flt (p := 3) (u := 2) rfl _ _ b0 _ rfl ((HC7.out.set (j := 0) (.int .i64 0)).set (j := 1) (.slice none 0 0)) rfl) rfl ?_
        rw [HRR.out]
        have hT7 : Turn (fun g => g = b0) w7 ((w7.setCell ⟨b0, 0, none⟩ (.int .i64 0)).setCell ⟨b0, 1, none⟩ (.slice none 0 0)) := Turn.setCell (S := fun g => g = b0) (p := ⟨b0, 1, none⟩) (Turn.setCell (S := fun g => g = b0) (p := ⟨b0, 0, none⟩) (Turn.refl _ w7) (fun _ => rfl) _) (fun _ => rfl) _
        refine ⟨_, _, _, rfl, ⟨rfl, rfl, ?_⟩, ?_⟩
        · rw [← HB0.out]
          exact (HK7.out.turn hT7 (fun i e => by omega)).lower (by omega)
        · rw [← HB0.out]
          exact ((HB1.out.trans HU7.out).setCell (p := ⟨b0, 0, none⟩) (Nat.le_refl _) _).setCell (p := ⟨b0, 1, none⟩) (Nat.le_refl _) _
      · have hgl := HGL.out
        have hk1 : 0 < K.length := HK1.out rfl
        have hk0 : (0 : Int) < (K.length : Int) := by omega
        have hk2 : decide ((0 : Int) < (K.length : Int)) = true := decide_eq_true hk0
        have hk3 : decide (0 < K.length) = true := decide_eq_true hk1
        clear HGL HK1
        go_wp2_with (at_builtin; refine wpList_append_own_at _ rfl _ _ 28 rfl (b0 + 3) 55 i0 _ 5 48 Tryd.underlying28 hi hz0 hz1 hz2 rfl (by decide) _ _ _ rfl (World.ownsRow.alloc HTK.out _) ⟨wr.heap.size, 0, none⟩ 1 1 (tbC ⟨0, s.size, 0, [], true⟩) rfl rfl (cells_new _ _ _) (by simp [Value.oneCell']) (by have := maxLen_big; omega) (by omega) (by simp; omega) ?_; intro v6 w6 hown hgrow hx1 hx2; clear hx1 hx2)
        have hb6 : Below (b0 + 3) wr w6 := grown_own (by simp; omega) ((Below.refl _ wr).alloc (by omega) _) (World.ownsRow.alloc HTK.out _) hgrow
        have HK6 : Hid (RbOwn w6 (b0 + 3) v6 (K ++ [⟨0, s.size, 0, [], true⟩])) := by
          have h := hown
          unfold Hid RbOwn
          rw [tbCs, List.flatMap_append, List.length_append]
          exact h
        have HN6 : Hid _ := none_any w6
        have HU6 : Hid (Below (b0 + 3) W1 w6) := HBL.out.trans hb6
        have HC6 : Hid (Cel w6 b0 31 #[.int .i64 0, .slice none 0 0]) := HFL.out.below HU6.out (by omega)
        have hz6 : b0 + 3 ≤ w6.heap.size := Nat.le_trans hXs hb6.size
        clear hown hgrow hb6
        refine Calls.mono HN6.out ?_
        rintro e w7 ⟨rfl, hb7⟩
        have HC7 : Hid (Cel w7 b0 31 #[.int .i64 0, .slice none 0 0]) := HC6.out.below hb7 (by omega)
        have HK7 : Hid (RbOwn w7 (b0 + 3) v6 (K ++ [⟨0, s.size, 0, [], true⟩])) := HK6.out.below hb7
        have HU7 : Hid (Below b0 W1 w7) := (HU6.out.mono (by omega)).trans (hb7.mono (by omega))
        have r0 : w7.cell? ⟨b0, 0, none⟩ = some (.int .i64 0) := HC7.out.cell 0
        have r1 : w7.cell? ⟨b0, 1, none⟩ = some (.slice none 0 0) := HC7.out.cell 1
        have rf0 := HC7.out.frozen 0
        have rf1 := HC7.out.frozen 1
        clear hb7 HN6 HK6 HC6 HU6
        go_wp2_with fail
        refine bodyPost_ret (results_flt (p := 3) (u := 2) rfl _ _ b0 _ rfl ((HC7.out.set (j := 0) (.int .i64 0)).set (j := 1) (.slice none 0 0)) rfl) rfl ?_
        rw [HRR.out]
        have hT7 : Turn (fun g => g = b0) w7 ((w7.setCell ⟨b0, 0, none⟩ (.int .i64 0)).setCell ⟨b0, 1, none⟩ (.slice none 0 0)) := Turn.setCell (S := fun g => g = b0) (p := ⟨b0, 1, none⟩) (Turn.setCell (S := fun g => g = b0) (p := ⟨b0, 0, none⟩) (Turn.refl _ w7) (fun _ => rfl) _) (fun _ => rfl) _
        refine ⟨_, _, _, rfl, ⟨rfl, rfl, ?_⟩, ?_⟩
        · rw [← HB0.out]
          exact (HK7.out.turn hT7 (fun i e => by omega)).lower (by omega)
        · rw [← HB0.out]
          exact ((HB1.out.trans HU7.out).setCell (p := ⟨b0, 0, none⟩) (Nat.le_refl _) _).setCell (p := ⟨b0, 1, none⟩) (Nat.le_refl _) _
end Go.Proofs.YtddekcohfbnmbaaDoor
