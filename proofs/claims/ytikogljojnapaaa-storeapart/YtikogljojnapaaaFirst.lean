/- The chapter's examples. -/
import Derived.Test.YtikogljojnapaaaSW
namespace Go.Proofs.Ytikogljojnapaaa
open Go.RowKit

theorem little {n : Nat} (h : n < 4294967296) : n * 16 ≤ big := by
  unfold big
  omega
abbrev xab : List Txt := [[97], [98]]
abbrev x12 : List Txt := [[49], [50]]
def V0 : Vps := newM []
def V1 : Vps := putM V0 [120] xab
def V2 : Vps := swpP V1 [120] false []
def V3 : Vps := putM V2 star x12
set_option maxRecDepth 100000 in
set_option maxHeartbeats 4000000 in
theorem first_any (W : World) : Calls Try.prog 6 #[] W fun e w' => e = .returned (.bool true) ∧ Below W.heap.size W w' := by
  have l1 : xab.length * 16 ≤ big := little (by decide)
  have l2 : x12.length * 16 ≤ big := little (by decide)
  have l0 : ([] : List Txt).length * 16 ≤ big := little (by decide)
  have hx : (hasM V1 [120] = true ∧ getM V1 [120] [] = xab) ∧ hasM V2 [120] = false ∧ hasM V3 star = true ∧ getM V3 star [] = x12 ∧ V0.length = 1 ∧ V1.length = 2 ∧ V2.length = 1 := by decide
  have HL : Hid (xab.length * 16 ≤ big ∧ x12.length * 16 ≤ big ∧ ([] : List Txt).length * 16 ≤ big) := ⟨l1, l2, l0⟩
  obtain ⟨⟨hx1, hx2⟩, hx3, hx4, hx5, hx6, hx7, hx8⟩ := hx
  have HX : Hid ((hasM V1 [120] = true ∧ getM V1 [120] [] = xab) ∧ hasM V2 [120] = false ∧ hasM V3 star = true ∧ getM V3 star [] = x12 ∧ V0.length = 1 ∧ V1.length = 2 ∧ V2.length = 1) := ⟨⟨hx1, hx2⟩, hx3, hx4, hx5, hx6, hx7, hx8⟩
  clear l1 l2 l0 hx1 hx2 hx3 hx4 hx5 hx6 hx7 hx8
  go_enter Try.func6, Try.ntmps6
  go_wp2_with fail
  refine (newS _ [] W (VaAt.nil W) (by decide) (fun p hp => by simp at hp)).mono ?_
  rintro e w1 ⟨sb, vb, fb, rfl, h1, _, hb1⟩
  have H1 : Hid (SW w1 W.heap.size sb vb fb V0 []) := h1
  have hz1 := hb1.size
  clear h1
  go_wp2_with fail
  have b2 := below_new w1 (.cells #[.string ⟨#[97]⟩, .string ⟨#[98]⟩] 9)
  refine (setS (H1.out.below b2) (Nat.le_trans hz1 b2.size) [120] (by decide) _ xab (Tx.two w1 [97] [98]) HL.out.1 (by rw [HX.out.2.2.2.2.1]; decide)).mono ?_
  rintro e w2 ⟨rfl, h2, t2⟩
  have H2 : Hid (SW w2 W.heap.size sb vb fb V1 []) := h2
  have hb2 : Below W.heap.size W w2 := (hb1.trans (b2.mono hz1)).trans ((H1.out.below b2).tur t2 (Nat.le_trans hz1 b2.size))
  have hz2 := hb2.size
  clear h2 t2 b2
  go_wp2_with fail
  refine (getS H2.out [120] (by decide)).mono ?_
  rintro e w3 ⟨va, rfl, ha, b3⟩
  rw [HX.out.1.2] at ha
  rw [HX.out.1.1]
  have HA3 : Hid (w3.ownsRow w2.heap.size 9 1 va 2 (txV xab)) := ha
  have hb3 := hb2.trans (b3.mono hz2)
  have H3 : Hid (SW w3 W.heap.size sb vb fb V1 []) := H2.out.below b3
  have hz3 := hb3.size
  clear ha b3
  go_wp2_with fail
  refine (swapS H3.out hz3 [120] (by decide) false _ [] (Tx.nil w3) HL.out.2.2 (by rw [HX.out.2.2.2.2.2.1]; decide)).mono ?_
  rintro e w4 ⟨vb', rfl, hbb, h4, t4⟩
  rw [HX.out.1.2] at hbb
  rw [HX.out.1.1]
  have HB4 : Hid (w4.ownsRow w3.heap.size 9 1 vb' 2 (txV xab)) := hbb
  have HA4 : Hid (w4.ownsRow w2.heap.size 9 1 va 2 (txV xab)) := H3.out.row t4 HA3.out
  have H4 : Hid (SW w4 W.heap.size sb vb fb V2 []) := h4
  have hb4 := hb3.trans (H3.out.tur t4 hz3)
  have hz4 := hb4.size
  clear hbb h4 t4
  go_wp2_with fail
  refine (getS H4.out [120] (by decide)).mono ?_
  rintro e w5 ⟨vc', rfl, _, b5⟩
  rw [HX.out.2.1]
  have hb5 := hb4.trans (b5.mono hz4)
  have hz5 := hb5.size
  have H5 : Hid (SW w5 W.heap.size sb vb fb V2 []) := H4.out.below b5
  have HB5 : Hid (w5.ownsRow w3.heap.size 9 1 vb' 2 (txV xab)) := owns_turn HB4.out (Turn.ofBelow (S := fun _ => False) b5) (fun _ _ h => h)
  have HA5 : Hid (w5.ownsRow w2.heap.size 9 1 va 2 (txV xab)) := owns_turn HA4.out (Turn.ofBelow (S := fun _ => False) b5) (fun _ _ h => h)
  clear b5
  go_wp2_with fail
  have b6 := below_new w5 (.cells #[.string ⟨#[49]⟩, .string ⟨#[50]⟩] 9)
  refine (setArgsS (H5.out.below b6) (Nat.le_trans hz5 b6.size) _ x12 (Tx.two w5 [49] [50]) HL.out.2.1 (by rw [HX.out.2.2.2.2.2.2]; decide)).mono ?_
  rintro e w6 ⟨vd, rfl, _, h6, t6⟩
  have H6 : Hid (SW w6 W.heap.size sb vb fb V3 []) := h6
  have HB6 : Hid (w6.ownsRow w3.heap.size 9 1 vb' 2 (txV xab)) := (H5.out.below b6).row t6 (owns_turn HB5.out (Turn.ofBelow (S := fun _ => False) b6) (fun _ _ h => h))
  have HA6 : Hid (w6.ownsRow w2.heap.size 9 1 va 2 (txV xab)) := (H5.out.below b6).row t6 (owns_turn HA5.out (Turn.ofBelow (S := fun _ => False) b6) (fun _ _ h => h))
  have hb6 := (hb5.trans (b6.mono hz5)).trans ((H5.out.below b6).tur t6 (Nat.le_trans hz5 b6.size))
  have hz6 := hb6.size
  clear h6 t6 b6
  go_wp2_with fail
  refine (getS H6.out star (by decide)).mono ?_
  rintro e w7 ⟨vc, rfl, hc, b7⟩
  rw [HX.out.2.2.2.1] at hc
  rw [HX.out.2.2.1]
  have HC7 : Hid (w7.ownsRow w6.heap.size 9 1 vc 2 (txV x12)) := hc
  have HB7 : Hid (w7.ownsRow w3.heap.size 9 1 vb' 2 (txV xab)) := owns_turn HB6.out (Turn.ofBelow (S := fun _ => False) b7) (fun _ _ h => h)
  have HA7 : Hid (w7.ownsRow w2.heap.size 9 1 va 2 (txV xab)) := owns_turn HA6.out (Turn.ofBelow (S := fun _ => False) b7) (fun _ _ h => h)
  have hb7 := hb6.trans (b7.mono hz6)
  have hz7 := hb7.size
  obtain ⟨ada, capa, rfl⟩ := owns_slice HA7.out
  obtain ⟨adb, capb, rfl⟩ := owns_slice HB7.out
  obtain ⟨adc, capc, rfl⟩ := owns_slice HC7.out
  clear hc b7
  have TX : Hid (∀ W', Below w7.heap.size w7 W' → Tx W' (.slice ada 2 capa) xab ∧ Tx W' (.slice adb 2 capb) xab ∧ Tx W' (.slice adc 2 capc) x12) := fun W' hb =>
    ⟨(Tx.owned (ps := xab) HA7.out).below hb (Nat.le_refl _), (Tx.owned (ps := xab) HB7.out).below hb (Nat.le_refl _), (Tx.owned (ps := x12) HC7.out).below hb (Nat.le_refl _)⟩
  go_wp2_with fail
  have b8 := below_new w7 (.cells #[.string ⟨#[97]⟩, .string ⟨#[98]⟩] 9)
  refine (sameTexts_any _ _ xab xab _ (TX.out _ b8).1 (Tx.two w7 [97] [98]) (by decide) (by decide)).mono ?_
  rintro e w8 ⟨rfl, b8'⟩
  have B8 : Below w7.heap.size w7 w8 := b8.trans (b8'.mono b8.size)
  clear b8 b8'
  rw [show decide (xab = xab) = true by decide]
  go_wp2_with fail
  refine (sameTexts_any _ _ xab xab _ (TX.out _ B8).2.1 (TX.out _ B8).1 (by decide) (by decide)).mono ?_
  rintro e w9 ⟨rfl, b9'⟩
  have B9 : Below w7.heap.size w7 w9 := B8.trans (b9'.mono B8.size)
  rw [show decide (xab = xab) = true by decide]
  go_wp2_with fail
  have b10 := below_new w9 (.cells #[.string ⟨#[49]⟩, .string ⟨#[50]⟩] 9)
  have B10 := B9.trans (b10.mono B9.size)
  refine (sameTexts_any _ _ x12 x12 _ (TX.out _ B10).2.2 (Tx.two w9 [49] [50]) (by decide) (by decide)).mono ?_
  rintro e w11 ⟨rfl, b11⟩
  have B11 := B10.trans (b11.mono B10.size)
  rw [show decide (x12 = x12) = true by decide]
  go_wp2_with fail
  go_ret
  exact ⟨rfl, hb7.trans (B11.mono hz7)⟩
end Go.Proofs.Ytikogljojnapaaa
