/- The statement on one's own memory, walked. -/
import Derived.Test.YtdajacodfnidfaaDoorOwn2
namespace Go.Proofs.YtdajacodfnidfaaDoor
open Go.RowKit Go.Shelf

set_option maxRecDepth 100000 in
set_option maxHeartbeats 8000000 in
theorem own_main (va vb : Value) (A B : List (List UInt8)) (w : World) (a : Addr) (hA : Tx w va A) (hB : Tx w vb B)
    (hz : ∀ l ∈ [A, B], l.length < 140737488355328) (hzz : ∀ l ∈ [A, B], ∀ s ∈ l, s.length ≤ 140737488355328) (hE : Eb w a) (h20 : ¬ A.length > 20) (h20b : ¬ B.length > 20) (hli : lightB [A, B] = true) :
    Calls Tryd.prog 5 #[va, vb] w fun e w' => e = .returned (.bool true) ∧ Below w.heap.size w w' := by
  obtain ⟨i0, hi0, hz0, hz1, hz2⟩ := info_parts info9
  have HA : Hid (∀ W, Below w.heap.size w W → Tx W va A) := fun W h => hA.below h (Nat.le_refl _)
  have HB : Hid (∀ W, Below w.heap.size w W → Tx W vb B) := fun W h => hB.below h (Nat.le_refl _)
  have HE : Hid (∀ W, Below w.heap.size w W → Eb W a) := fun W h => hE.below h hE.pos
  have HZ : Hid (∀ l ∈ [A, B], l.length < 140737488355328) := hz
  have HZZ : Hid (∀ l ∈ [A, B], ∀ s ∈ l, s.length ≤ 140737488355328) := hzz
  obtain ⟨ada, capa, rfl⟩ := hA.form
  obtain ⟨adb, capb, rfl⟩ := hB.form
  have hli2 := (lightB_iff _).1 hli
  have OA : Hid (Ok A) := ⟨by omega, fun s hs => by have h1 := sumL_mem A s hs; have h2 := sumLs_mem [A, B] A (by simp); have := hli2.2; omega⟩
  have OB : Hid (Ok B) := ⟨by omega, fun s hs => by have h1 := sumL_mem B s hs; have h2 := sumLs_mem [A, B] B (by simp); have := hli2.2; omega⟩
  have HLB : Hid _ := hli
  clear hA hB hE hz hzz hli hli2
  go_enter Tryd.func5, Tryd.ntmps5
  go_wp2_with fail
  refine (first_any _ a (HE.out _ (Below.refl _ _))).mono ?_
  rintro e w1 ⟨rfl, hb1⟩
  go_wp2_with fail
  have HLI : Hid _ := light_any _ [A, B] _ (Tss.two w1 _ _ A B (HA.out _ hb1) (HB.out _ hb1)) (by simp) HZ.out HZZ.out
  rw [HLB.out] at HLI
  refine Calls.mono HLI.out ?_
  rintro e w2 ⟨rfl, hw2⟩
  have hb2' : Below w1.heap.size w1 w2 := by rw [hw2]; exact below_new _ _
  have hb2 := hb1.trans (hb2'.mono hb1.size)
  clear hw2 hb2' hb1 HLI HLB
  go_wp2_with fail
  refine (texts_any _ A w2 (HA.out _ hb2) (by omega)).mono ?_
  rintro e w3 ⟨v3, rfl, ho3, hb3'⟩
  have hb3 := hb2.trans (hb3'.mono hb2.size)
  have hB3 : w2.heap.size ≤ (w3.alloc (.cells #[.string ⟨#[98, 101, 104, 105, 110, 100]⟩] 9)).heap.size := Nat.le_trans hb3'.size (below_new _ _).size
  go_wp2_with (at_builtin; refine wpList_append_own _ rfl _ _ 22 rfl w2.heap.size 9 i0 (.string ⟨#[]⟩) 1 16 Tryd.underlying22 hi0 hz0 hz1 hz2 rfl (by decide) _ _ _ rfl (ho3.alloc _) ⟨w3.heap.size, 0, none⟩ 1 1 (txV [[98, 101, 104, 105, 110, 100]]) rfl rfl (Tx.cells (Tx.one w3 [98, 101, 104, 105, 110, 100])) (txV_one _) (by have := maxLen_big; omega) (by omega) hB3 ?_; intro v4 w4 hown4 hgrow4 _; obtain ⟨gx, capx, rfl, hcx, hgx, htx, hcb⟩ := behind_row hown4)
  have hba3 : Below w2.heap.size w2 (w3.alloc (.cells #[.string ⟨#[98, 101, 104, 105, 110, 100]⟩] 9)) := hb3'.alloc hb3'.size _
  have b24 : Below w2.heap.size w2 w4 := grown_own hB3 hba3 (ho3.alloc _) hgrow4
  have hb4 := hb2.trans (b24.mono hb2.size)
  clear hgrow4 hown4 hba3 ho3 hb3' hB3 hb3
  refine (texts_any _ B w4 (HB.out _ hb4) (by omega)).mono ?_
  rintro e w5 ⟨v5, rfl, ho5, b45⟩
  have hb5 := hb4.trans (b45.mono hb4.size)
  have t5 := Tx.owned ho5
  have HX : Hid (∀ W, Below w5.heap.size w5 W → Tx W (.slice (some ⟨gx, 0, none⟩) A.length capx) A ∧ W.cell? ⟨gx, A.length, none⟩ = some (.string ⟨#[98, 101, 104, 105, 110, 100]⟩)) := fun W hW =>
    have h1 := b45.trans (hW.mono b45.size)
    ⟨htx.below h1 (Nat.le_refl _), (h1.cell (p := ⟨gx, A.length, none⟩) hgx).trans hcb⟩
  have HY : Hid (∀ W, Below w5.heap.size w5 W → Tx W v5 B) := fun W hW => t5.below hW (Nat.le_refl _)
  obtain ⟨ad5, cap5, rfl⟩ := t5.form
  clear t5 ho5 htx hcb hgx b24 hb4 b45
  go_wp2_with fail
  go_loopw [8] (fun v8 wr => ∃ r : Nat, v8 = .int .i64 r ∧ r ≤ 2 ∧ Below w5.heap.size w5 wr) (fun v8 _ => 2 - (intOf v8).toNat)
  case atStart => exact ⟨0, rfl, by omega, Below.refl _ _⟩
  case round =>
    obtain ⟨r, rfl, hr, hbr⟩ := hrel
    have hbr0 := hb5.trans (hbr.mono hb5.size)
    by_cases hr2 : r < 2
    · go_wp2_with fail
      refine (catZ2 wr a _ _ A B (HX.out _ hbr).1 (HY.out _ hbr) OA.out OB.out (HE.out _ hbr0)).mono ?_
      rintro e w6 ⟨v6, n6, e6, rfl, z6, hn6, b6⟩
      have hbr6 := hbr.trans (b6.mono hbr.size)
      have hb60 := hb5.trans (hbr6.mono hb5.size)
      go_wp2_with fail
      refine (joinZ1 w6 a _ A (HX.out _ hbr6).1 OA.out (HE.out _ hb60)).mono ?_
      rintro e w7 ⟨v7, n7, e7, rfl, z7, hn7, b7⟩
      have hbr7 := hbr6.trans (b7.mono hbr6.size)
      have hb70 := hb5.trans (hbr7.mono hb5.size)
      go_wp2_with fail
      refine (catZ1 w7 a _ A (HX.out _ hbr7).1 OA.out (HE.out _ hb70)).mono ?_
      rintro e w8 ⟨v8, n8, e8, rfl, z8, hn8, b8⟩
      have hbr8 := hbr7.trans (b8.mono hbr7.size)
      go_wp2_with fail
      refine (pickZ w8 _ A (HX.out _ hbr8).1 (by omega)).mono ?_
      rintro e w9 ⟨v9, n9, rfl, z9, hn9, b9⟩
      have hbr9 := hbr8.trans (b9.mono hbr8.size)
      have b79 := b8.trans (b9.mono b8.size)
      have b69 := b7.trans (b79.mono b7.size)
      have Z6 : Hid (Zone w9 wr.heap.size w6.heap.size v6 n6) := z6.below b69
      have Z7 : Hid (Zone w9 w6.heap.size w7.heap.size v7 n7) := z7.below b79
      have Z8 : Hid (Zone w9 w7.heap.size w8.heap.size v8 n8) := z8.below b9
      have Z9 : Hid (Zone w9 w8.heap.size w9.heap.size v9 n9) := z9
      have s1 : w5.heap.size ≤ wr.heap.size := hbr.size
      have s2 : wr.heap.size ≤ w6.heap.size := b6.size
      have s3 : w6.heap.size ≤ w7.heap.size := b7.size
      have s4 : w7.heap.size ≤ w8.heap.size := b8.size
      have s5 : w8.heap.size ≤ w9.heap.size := b9.size
      clear z6 z7 z8 z9 b6 b7 b8 b9 b79 b69 hbr6 hbr7 hbr8 hb60 hb70
      have HAL : Hid (∀ W : World, Tx (W.alloc (.cells #[.string ⟨#[109, 111, 114, 101]⟩] 9)) (.slice (some ⟨W.heap.size, 0, none⟩) 1 1) [[109, 111, 114, 101]]) := fun W => Tx.one W [109, 111, 114, 101]
      go_wp2_with (first
        | (at_builtin; obtain ⟨xs6, ho6, hk6⟩ := Z6.out; refine wpList_append_own_at _ rfl _ _ 22 rfl wr.heap.size 9 i0 (.string ⟨#[]⟩) 1 16 Tryd.underlying22 hi0 hz0 hz1 hz2 rfl (by decide) v6 n6 xs6 rfl (ho6.alloc _) ⟨w9.heap.size, 0, none⟩ 1 1 (txV [[109, 111, 114, 101]]) rfl rfl (Tx.cells (HAL.out w9)) (txV_one _) (by have := maxLen_big; omega) (by omega) (by have h1 := (below_new w9 (.cells #[.string ⟨#[109, 111, 114, 101]⟩] 9)).size; have h2 : w9.heap.size ≤ w9.heap.size := Nat.le_refl _; omega) ?_; intro y6 w10 hy6 hgr6 hnil6 hat6; have ST6 : Hid _ := app_step (w5 := w5) (H := w9.heap.size) [] [(w6.heap.size, w7.heap.size, v7, n7), (w7.heap.size, w8.heap.size, v8, n8), (w8.heap.size, w9.heap.size, v9, n9)] Z6.out (by omega) (by omega) (by omega) (Nat.le_refl _) hn6 (hbr9) (fun r hr => by simp at hr) (fun p hp => by simp only [List.mem_cons, List.not_mem_nil, or_false] at hp; rcases hp with rfl | rfl | rfl <;> first | exact ⟨Z7.out, Nat.le_refl _⟩ | exact ⟨Z8.out, s3⟩ | exact ⟨Z9.out, Nat.le_trans s3 s4⟩) hy6 hgr6 hnil6 hat6; have Y76 : Hid (Zone w10 w6.heap.size w7.heap.size v7 n7) := ST6.out.2.1 (w6.heap.size, w7.heap.size, v7, n7) (by simp); have Y86 : Hid (Zone w10 w7.heap.size w8.heap.size v8 n8) := ST6.out.2.1 (w7.heap.size, w8.heap.size, v8, n8) (by simp); have Y96 : Hid (Zone w10 w8.heap.size w9.heap.size v9 n9) := ST6.out.2.1 (w8.heap.size, w9.heap.size, v9, n9) (by simp); clear hy6 hgr6 hnil6 hat6 ho6 hk6; obtain ⟨g6, m6, k6, cur6, rfl, hgB6, hgc6, hgs6⟩ := (ST6.out.1 y6 (by simp)).1; clear hgB6 hgc6 hgs6)
        | (at_builtin; obtain ⟨xs7, ho7, hk7⟩ := Y76.out; refine wpList_append_own_at _ rfl _ _ 22 rfl w6.heap.size 9 i0 (.string ⟨#[]⟩) 1 16 Tryd.underlying22 hi0 hz0 hz1 hz2 rfl (by decide) v7 n7 xs7 rfl (ho7.alloc _) ⟨w10.heap.size, 0, none⟩ 1 1 (txV [[109, 111, 114, 101]]) rfl rfl (Tx.cells (HAL.out w10)) (txV_one _) (by have := maxLen_big; omega) (by omega) (by have h1 := (below_new w10 (.cells #[.string ⟨#[109, 111, 114, 101]⟩] 9)).size; have h2 : w9.heap.size ≤ w10.heap.size := ST6.out.2.2.2; omega) ?_; intro y7 w11 hy7 hgr7 hnil7 hat7; have ST7 : Hid _ := app_step (w5 := w5) (H := w9.heap.size) _ [(w7.heap.size, w8.heap.size, v8, n8), (w8.heap.size, w9.heap.size, v9, n9)] Y76.out (by omega) (by omega) (by omega) (ST6.out.2.2.2) hn7 (ST6.out.2.2.1) ST6.out.1 (fun p hp => by simp only [List.mem_cons, List.not_mem_nil, or_false] at hp; rcases hp with rfl | rfl <;> first | exact ⟨Y86.out, Nat.le_refl _⟩ | exact ⟨Y96.out, s4⟩) hy7 hgr7 hnil7 hat7; have Y87 : Hid (Zone w11 w7.heap.size w8.heap.size v8 n8) := ST7.out.2.1 (w7.heap.size, w8.heap.size, v8, n8) (by simp); have Y97 : Hid (Zone w11 w8.heap.size w9.heap.size v9 n9) := ST7.out.2.1 (w8.heap.size, w9.heap.size, v9, n9) (by simp); clear hy7 hgr7 hnil7 hat7 ho7 hk7; obtain ⟨g7, m7, k7, cur7, rfl, hgB7, hgc7, hgs7⟩ := (ST7.out.1 y7 (by simp)).1; clear hgB7 hgc7 hgs7)
        | (at_builtin; obtain ⟨xs8, ho8, hk8⟩ := Y87.out; refine wpList_append_own_at _ rfl _ _ 22 rfl w7.heap.size 9 i0 (.string ⟨#[]⟩) 1 16 Tryd.underlying22 hi0 hz0 hz1 hz2 rfl (by decide) v8 n8 xs8 rfl (ho8.alloc _) ⟨w11.heap.size, 0, none⟩ 1 1 (txV [[109, 111, 114, 101]]) rfl rfl (Tx.cells (HAL.out w11)) (txV_one _) (by have := maxLen_big; omega) (by omega) (by have h1 := (below_new w11 (.cells #[.string ⟨#[109, 111, 114, 101]⟩] 9)).size; have h2 : w9.heap.size ≤ w11.heap.size := ST7.out.2.2.2; omega) ?_; intro y8 w12 hy8 hgr8 hnil8 hat8; have ST8 : Hid _ := app_step (w5 := w5) (H := w9.heap.size) _ [(w8.heap.size, w9.heap.size, v9, n9)] Y87.out (by omega) (by omega) (by omega) (ST7.out.2.2.2) hn8 (ST7.out.2.2.1) ST7.out.1 (fun p hp => by simp only [List.mem_cons, List.not_mem_nil, or_false] at hp; subst hp; exact ⟨Y97.out, Nat.le_refl _⟩) hy8 hgr8 hnil8 hat8; have Y98 : Hid (Zone w12 w8.heap.size w9.heap.size v9 n9) := ST8.out.2.1 (w8.heap.size, w9.heap.size, v9, n9) (by simp); clear hy8 hgr8 hnil8 hat8 ho8 hk8; obtain ⟨g8, m8, k8, cur8, rfl, hgB8, hgc8, hgs8⟩ := (ST8.out.1 y8 (by simp)).1; clear hgB8 hgc8 hgs8)
        | (at_builtin; obtain ⟨xs9, ho9, hk9⟩ := Y98.out; refine wpList_append_own_at _ rfl _ _ 22 rfl w8.heap.size 9 i0 (.string ⟨#[]⟩) 1 16 Tryd.underlying22 hi0 hz0 hz1 hz2 rfl (by decide) v9 n9 xs9 rfl (ho9.alloc _) ⟨w12.heap.size, 0, none⟩ 1 1 (txV [[109, 111, 114, 101]]) rfl rfl (Tx.cells (HAL.out w12)) (txV_one _) (by have := maxLen_big; omega) (by omega) (by have h1 := (below_new w12 (.cells #[.string ⟨#[109, 111, 114, 101]⟩] 9)).size; have h2 : w9.heap.size ≤ w12.heap.size := ST8.out.2.2.2; omega) ?_; intro y9 w13 hy9 hgr9 hnil9 hat9; have ST9 : Hid _ := app_step (w5 := w5) (H := w9.heap.size) _ [] Y98.out (by omega) (by omega) (by omega) (ST8.out.2.2.2) hn9 (ST8.out.2.2.1) ST8.out.1 (fun p hp => by simp at hp) hy9 hgr9 hnil9 hat9; clear hy9 hgr9 hnil9 hat9 ho9 hk9; obtain ⟨g9, m9, k9, cur9, rfl, hgB9, hgc9, hgs9⟩ := (ST9.out.1 y9 (by simp)).1; clear hgB9 hgc9 hgs9))
      obtain ⟨vs, HVS⟩ : ∃ vs, Hid (vs = [Value.slice (some ⟨g6, 0, none⟩) m6 k6, .slice (some ⟨g7, 0, none⟩) m7 k7, .slice (some ⟨g8, 0, none⟩) m8 k8, .slice (some ⟨g9, 0, none⟩) m9 k9]) := ⟨_, rfl⟩
      have HSP : Hid (Spoil w5.heap.size w13.heap.size w5 vs (w13.alloc (.cells #[.slice (some ⟨g6, 0, none⟩) m6 k6, .slice (some ⟨g7, 0, none⟩) m7 k7, .slice (some ⟨g8, 0, none⟩) m8 k8, .slice (some ⟨g9, 0, none⟩) m9 k9] 22))) := by
        unfold Hid
        rw [HVS.out]
        refine ⟨fun v hv => (ST9.out.1 v hv).1.alloc _, Cel.new w13 22 _, ST9.out.2.2.1.alloc (Nat.le_trans s1 (Nat.le_trans s2 (Nat.le_trans s3 (Nat.le_trans s4 (Nat.le_trans s5 ST9.out.2.2.2))))) _⟩
      have HLV : Hid (vs.length = 4) := by unfold Hid; rw [HVS.out]; rfl
      clear ST6 ST7 ST8 ST9 Y76 Y86 Y96 Y87 Y97 Y98 Z6 Z7 Z8 Z9 HVS HAL
      go_loopw [88] (fun v88 wz => ∃ k : Nat, v88 = .int .i64 k ∧ k ≤ 4 ∧ Hid (Spoil w5.heap.size w13.heap.size w5 vs wz)) (fun v88 _ => 4 - (intOf v88).toNat)
      case atStart => exact ⟨0, rfl, by omega, HSP.out⟩
      case round =>
        obtain ⟨k, rfl, hk, HK⟩ := hrel
        by_cases hk4 : k < 4
        · obtain ⟨u, hu⟩ : ∃ u, vs[k]? = some u := ⟨_, List.getElem?_eq_getElem (by rw [HLV.out]; exact hk4)⟩
          have hum := List.mem_of_getElem? hu
          obtain ⟨g, n, cp, cur, rfl, hgB, hgc, hns, hnc, hn32⟩ := HK.out.1 u hum
          have c0 : wr.cell? ⟨w13.heap.size, k, none⟩ = some (.slice (some ⟨g, 0, none⟩) n cp) := by
            rw [HK.out.2.1.cell k]
            simpa using hu
          have HUM : Hid _ := hum
          clear hu hum hgc hns cur
          go_wp2_with fail
          go_loopw [18] (fun v18 wq => ∃ i : Nat, v18 = .int .i64 i ∧ i ≤ n ∧ Hid (Spoil w5.heap.size w13.heap.size w5 vs wq)) (fun v18 _ => n - (intOf v18).toNat)
          case atStart => exact ⟨0, rfl, by omega, HK.out⟩
          case round =>
            obtain ⟨i, rfl, hi, HI⟩ := hrel
            by_cases hin : i < n
            · obtain ⟨g', n', cp', cur, hv, _, hgc, hns, _, _⟩ := HI.out.1 _ HUM.out
              cases hv
              have c1 : wr.cell? ⟨g, i, none⟩ = some cur[i] := by
                rw [Cel.cell (show Cel wr g 9 cur from hgc) i]
                exact Array.getElem?_eq_getElem (by omega)
              have f1 : wr.frozen? ⟨g, i, none⟩ = false := Cel.frozen (show Cel wr g 9 cur from hgc) i
              have HSE : Hid (∀ x, Spoil w5.heap.size w13.heap.size w5 vs (wr.setCell ⟨g, i, none⟩ x)) := fun x => HI.out.set hgB hgc x
              clear hgc
              go_wp2_with fail
              exact ⟨⟨i + 1, by simp, by omega, HSE.out _⟩, by simp [intOf]; omega⟩
            · have hiz : i = n := by omega
              subst hiz
              go_wp2_with fail
              go_roundw
              case rel => exact ⟨k + 1, by simp, by omega, HI.out⟩
              case measure => simp [intOf]; omega
        · have hkz : k = 4 := by omega
          subst hkz
          go_wp2_with fail
          go_roundw
          case rel => exact ⟨r + 1, by simp, by omega, HK.out.2.2⟩
          case measure => simp [intOf]; omega
    · have hrz : r = 2 := by omega
      subst hrz
      go_wp2_with fail
      refine (same_any wr _ _ A A (HX.out _ hbr).1 (HA.out _ hbr0) OA.out OA.out rfl).mono ?_
      rintro e w6 ⟨rfl, b6⟩
      have hbr6 := hbr.trans (b6.mono hbr.size)
      have hb60 := hb5.trans (hbr6.mono hb5.size)
      go_wp2_with fail
      refine (same_any w6 _ _ B B (HY.out _ hbr6) (HB.out _ hb60) OB.out OB.out rfl).mono ?_
      rintro e w7 ⟨rfl, b7⟩
      have hbr7 := hbr6.trans (b7.mono hbr6.size)
      have c7 := (HX.out _ hbr7).2
      have c7' : w7.cell? ⟨gx, 0 + A.length, none⟩ = some (.string ⟨#[98, 101, 104, 105, 110, 100]⟩) := by rw [Nat.zero_add]; exact c7
      go_wp2_with fail
      go_ret
      exact ⟨rfl, hb5.trans (hbr7.mono hb5.size)⟩
end Go.Proofs.YtdajacodfnidfaaDoor
