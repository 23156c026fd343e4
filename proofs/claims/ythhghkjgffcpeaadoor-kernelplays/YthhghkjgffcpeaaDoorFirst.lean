/- The chapter's examples. -/
import Derived.Test.YthhghkjgffcpeaaDoorKW
namespace Go.Proofs.YthhghkjgffcpeaaDoor
open Go.RowKit Go.Shelf

theorem RowAt.new (W : World) (t k : Nat) (cs : List Value) : RowAt (W.alloc (.cells cs.toArray t)) (.slice (some ⟨W.heap.size, 0, none⟩) 1 1) k [cs] := by
  refine .inr ⟨W.heap.size, 0, 1, rfl, Nat.le_refl _, (Cel.new W t cs.toArray).lt, fun j c hj i u hu => ?_⟩
  cases j with
  | succ j => simp at hj
  | zero =>
    simp at hj
    subst hj
    rw [show 0 + 0 * k + i = i by omega, (Cel.new W t cs.toArray).cell i]
    simpa using hu
def row0 : Rw := ⟨[117, 112], [], true, true, true, [58], 0⟩
def ev1 : Ev := ⟨1, 0, [117, 112], [104, 105], [[97]]⟩
def ev2 : Ev := ⟨1, 127, [110, 111], [], []⟩
def ev3 : Ev := ⟨2, 1, [102], [], []⟩
def ev4 : Ev := ⟨2, 4, [103], [], []⟩
def ev5 : Ev := ⟨2, 2, [103], [], []⟩
def ev6 : Ev := ⟨3, 0, [103], [121], []⟩
theorem fx0 : putAll [([102], [120])] = [([102], [120])] := by decide
theorem fx1 : openF [([102], [120])] [102] 1 = [([102], [120])] := by decide
theorem fx2 : openF [([102], [120])] [103] 1 = [([102], [120])] := by decide
theorem fx3 : openF [([102], [120])] [103] 2 = [([102], [120]), ([103], [])] := by decide
theorem fx4 : writeF [([102], [120]), ([103], [])] [103] [121] = [([102], [120]), ([103], [121])] := by decide
theorem ex9 (a : Addr) : errR (writeB [([102], [120]), ([103], [])] [103] [121]) a = .nilIface := by
  rw [show writeB [([102], [120]), ([103], [])] [103] [121] = true by decide]
  rfl
theorem may0 : mayR [([102], [120])] [row0] = none := by decide
theorem sml0 : Sml [([102], [120])] [row0] [] := ⟨by decide, by decide, by decide, by decide, by decide, by decide⟩
theorem sml1 : Sml [([102], [120])] [row0] [ev1] := ⟨by decide, by decide, by decide, by decide, by decide, by decide⟩
theorem sml2 : Sml [([102], [120])] [row0] [ev1, ev2] := ⟨by decide, by decide, by decide, by decide, by decide, by decide⟩
theorem sml3 : Sml [([102], [120])] [row0] [ev1, ev2, ev3] := ⟨by decide, by decide, by decide, by decide, by decide, by decide⟩
theorem sml4 : Sml [([102], [120])] [row0] [ev1, ev2, ev3, ev4] := ⟨by decide, by decide, by decide, by decide, by decide, by decide⟩
theorem sml5 : Sml [([102], [120]), ([103], [])] [row0] [ev1, ev2, ev3, ev4, ev5] := ⟨by decide, by decide, by decide, by decide, by decide, by decide⟩
theorem sml6 : Sml [([102], [120]), ([103], [121])] [row0] [ev1, ev2, ev3, ev4, ev5, ev6] := ⟨by decide, by decide, by decide, by decide, by decide, by decide⟩
theorem Tx.one (W : World) (s : Txt) : Tx (W.alloc (.cells #[.string ⟨s.toArray⟩] 9)) (.slice (some ⟨W.heap.size, 0, none⟩) 1 1) [s] := by
  refine .inr ⟨⟨W.heap.size, 0, none⟩, 1, rfl, Nat.le_refl _, fun _ => ⟨W.heap.size, 0, rfl, by simp, fun k p hp => ?_⟩⟩
  have hc := (Cel.new W 9 #[.string ⟨s.toArray⟩]).cell k
  rw [Nat.zero_add, hc]
  cases k with
  | zero => simp at hp; subst hp; rfl
  | succ k => simp at hp
theorem FlAt.two (W : World) (p q : Txt × Txt) : FlAt (W.alloc (.cells #[str p.1, str p.2, str q.1, str q.2] 73)) (.slice (some ⟨W.heap.size, 0, none⟩) 2 2) [p, q] := by
  refine .inr ⟨W.heap.size, 0, 2, rfl, Nat.le_refl _, (Cel.new W 73 _).lt, fun j c hj i u hu => ?_⟩
  rw [(Cel.new W 73 #[str p.1, str p.2, str q.1, str q.2]).cell (0 + j * 2 + i)]
  match j, i with
  | 0, 0 => simp at hj; subst hj; simpa using hu
  | 0, 1 => simp at hj; subst hj; simpa using hu
  | 0, i + 2 => simp at hj; subst hj; simp at hu
  | 1, 0 => simp at hj; subst hj; simpa using hu
  | 1, 1 => simp at hj; subst hj; simpa using hu
  | 1, i + 2 => simp at hj; subst hj; simp at hu
  | j + 2, i => simp at hj

set_option maxRecDepth 100000 in
set_option maxHeartbeats 8000000 in
theorem first_any (ea : Nat → Addr) (W : World) (hE : Ers W ea) :
    Calls Tryd.prog 9 #[] W fun e w' => e = .returned (.bool true) ∧ Below W.heap.size W w' := by
  have HE : Hid (∀ W', Below W.heap.size W W' → Ers W' ea) := fun W' hb => hE.below hb (Nat.le_refl _)
  clear hE
  have hb2 : Below W.heap.size W ((W.alloc (.cells #[.string ⟨#[102]⟩, .string ⟨#[120]⟩] 73)).alloc (.cells #[.string ⟨#[117, 112]⟩, .slice none 0 0, .bool true, .bool true, .bool true, .string ⟨#[58]⟩, .int .i64 0] 77)) := (below_new W _).alloc (below_new W _).size _
  have HF : Hid (FlAt ((W.alloc (.cells #[.string ⟨#[102]⟩, .string ⟨#[120]⟩] 73)).alloc (.cells #[.string ⟨#[117, 112]⟩, .slice none 0 0, .bool true, .bool true, .bool true, .string ⟨#[58]⟩, .int .i64 0] 77)) (.slice (some ⟨W.heap.size, 0, none⟩) 1 1) [([102], [120])]) := (RowAt.new W 73 2 [str [102], str [120]]).below (below_new _ _) (Nat.le_refl _)
  have HR : Hid (RwAt ((W.alloc (.cells #[.string ⟨#[102]⟩, .string ⟨#[120]⟩] 73)).alloc (.cells #[.string ⟨#[117, 112]⟩, .slice none 0 0, .bool true, .bool true, .bool true, .string ⟨#[58]⟩, .int .i64 0] 77)) (.slice (some ⟨W.heap.size + 1, 0, none⟩) 1 1) [(row0, .slice none 0 0)]) := by
    have h := RowAt.new (W.alloc (.cells #[.string ⟨#[102]⟩, .string ⟨#[120]⟩] 73)) 77 7 [str [117, 112], .slice none 0 0, .bool true, .bool true, .bool true, str [58], .int .i64 0]
    rw [show (W.alloc (.cells #[.string ⟨#[102]⟩, .string ⟨#[120]⟩] 73)).heap.size = W.heap.size + 1 by simp] at h
    exact ⟨h, fun p hp => by simp at hp; subst hp; exact Tx.nil _⟩
  go_enter Tryd.func9, Tryd.ntmps9
  go_wp2_with fail
  refine (KW.new _ _ [([102], [120])] [(row0, .slice none 0 0)] ea _ HF.out HR.out (by decide) (by decide) (HE.out _ hb2) may0).mono ?_
  rintro e w3 ⟨kb, rfl, K3, b3⟩
  rw [fx0] at K3
  have K3 : KW w3 _ kb [([102], [120])] [row0] [] := K3
  have hb3 := hb2.trans (b3.mono hb2.size)
  obtain ⟨B, hB⟩ : ∃ B, B = ((W.alloc (.cells #[.string ⟨#[102]⟩, .string ⟨#[120]⟩] 73)).alloc (.cells #[.string ⟨#[117, 112]⟩, .slice none 0 0, .bool true, .bool true, .bool true, .string ⟨#[58]⟩, .int .i64 0] 77)).heap.size := ⟨_, rfl⟩
  rw [← hB] at K3
  have hWB : W.heap.size ≤ B := by rw [hB]; exact hb2.size
  have hB3 : B ≤ w3.heap.size := by rw [hB]; exact b3.size
  have HK3 : Hid (KW w3 B kb [([102], [120])] [row0] []) := K3
  clear K3 b3 hb2 HF HR hB
  go_wp2_with fail
  have b4' := below_new w3 (.cells #[.string ⟨#[97]⟩] 9)
  refine (KW.exec [117, 112] [104, 105] [[97]] _ (some row0) rfl (HK3.out.below b4') sml0 (Nat.le_trans hB3 b4'.size) (Tx.one w3 [97]) (by decide) (by decide)).mono ?_
  rintro e w4 ⟨rfl, K4, b4⟩
  have HK4 : Hid (KW w4 B kb [([102], [120])] [row0] [ev1]) := K4
  have hb4 := hb3.trans ((b4'.mono (Nat.le_trans hWB hB3)).trans (b4.mono hWB))
  have hB4 : B ≤ w4.heap.size := Nat.le_trans (Nat.le_trans hB3 b4'.size) b4.size
  clear K4 b4 b4' hb3 HK3 hB3
  go_wp2_with fail
  refine (KW.exec [110, 111] [104, 105] [] _ none rfl HK4.out sml1 hB4 (Tx.nil _) (by decide) (by decide)).mono ?_
  rintro e w5 ⟨rfl, K5, b5⟩
  have HK5 : Hid (KW w5 B kb [([102], [120])] [row0] [ev1, ev2]) := K5
  have hb5 := hb4.trans (b5.mono hWB)
  have hB5 : B ≤ w5.heap.size := Nat.le_trans hB4 b5.size
  clear K5 b5 hb4 HK4 hB4
  go_wp2_with fail
  refine (KW.open [102] 1 HK5.out sml2 hB5 (by decide)).mono ?_
  rintro e w6 ⟨rfl, K6, b6⟩
  rw [fx1] at K6
  have HK6 : Hid (KW w6 B kb [([102], [120])] [row0] [ev1, ev2, ev3]) := K6
  have hb6 := hb5.trans (b6.mono hWB)
  have hB6 : B ≤ w6.heap.size := Nat.le_trans hB5 b6.size
  clear K6 b6 hb5 HK5 hB5
  go_wp2_with fail
  refine (KW.open [103] 1 HK6.out sml3 hB6 (by decide)).mono ?_
  rintro e w7 ⟨rfl, K7, b7⟩
  rw [fx2] at K7
  have HK7 : Hid (KW w7 B kb [([102], [120])] [row0] [ev1, ev2, ev3, ev4]) := K7
  have hb7 := hb6.trans (b7.mono hWB)
  have hB7 : B ≤ w7.heap.size := Nat.le_trans hB6 b7.size
  clear K7 b7 hb6 HK6 hB6
  go_wp2_with fail
  refine (KW.open [103] 2 HK7.out sml4 hB7 (by decide)).mono ?_
  rintro e w8 ⟨rfl, K8, b8⟩
  rw [fx3] at K8
  have HK8 : Hid (KW w8 B kb [([102], [120]), ([103], [])] [row0] [ev1, ev2, ev3, ev4, ev5]) := K8
  have hb8 := hb7.trans (b8.mono hWB)
  have hB8 : B ≤ w8.heap.size := Nat.le_trans hB7 b8.size
  clear K8 b8 hb7 HK7 hB7
  go_wp2_with fail
  refine (KW.write [103] [121] (ea 0) HK8.out sml5 hB8 (by decide) (by decide) (HE.out _ hb8 0 (by decide))).mono ?_
  rintro e w9 ⟨rfl, K9, b9⟩
  rw [fx4] at K9
  rw [ex9]
  have HK9 : Hid (KW w9 B kb [([102], [120]), ([103], [121])] [row0] [ev1, ev2, ev3, ev4, ev5, ev6]) := K9
  have hb9 := hb8.trans (b9.mono hWB)
  clear K9 b9 hb8 HK8 hB8
  go_wp2_with fail
  refine (KW.files HK9.out sml6).mono ?_
  rintro e wa ⟨va, rfl, oa, ba⟩
  obtain ⟨ada, capa, rfl⟩ := owns_slice oa
  have HKa := HK9.out.below ba
  have hba := hb9.trans (ba.mono hb9.size)
  have HFa : Hid (FlAt wa (.slice ada 2 capa) [([102], [120]), ([103], [121])]) := FlAt.owned oa
  have HKA : Hid (KW wa B kb [([102], [120]), ([103], [121])] [row0] [ev1, ev2, ev3, ev4, ev5, ev6]) := HKa
  clear oa ba HK9 HKa hb9
  go_wp2_with fail
  have bb' := below_new wa (.cells #[.string ⟨#[102]⟩, .string ⟨#[120]⟩, .string ⟨#[103]⟩, .string ⟨#[121]⟩] 73)
  refine (sameFiles_any _ _ [([102], [120]), ([103], [121])] [([102], [120]), ([103], [121])] _ (HFa.out.below bb' (Nat.le_refl _)) (FlAt.two wa ([102], [120]) ([103], [121])) (by decide) (by decide)).mono ?_
  rintro e wb ⟨rfl, bb⟩
  have HKB : Hid (KW wb B kb [([102], [120]), ([103], [121])] [row0] [ev1, ev2, ev3, ev4, ev5, ev6]) := (HKA.out.below bb').below bb
  have hbb := hba.trans ((bb'.trans (bb.mono bb'.size)).mono hba.size)
  rw [show decide (([([102], [120]), ([103], [121])] : Fls) = [([102], [120]), ([103], [121])]) = true from decide_eq_true rfl]
  clear bb' bb HKA hba HFa
  go_wp2_with fail
  refine (KW.len HKB.out).mono ?_
  rintro e wc ⟨rfl, hw⟩
  subst hw
  go_wp2_with fail
  refine (KW.reads [117, 112] [] _ (some row0) rfl HKB.out sml6 (Tx.nil _) (by decide)).mono ?_
  rintro e wd ⟨rfl, bd⟩
  have HKD : Hid (KW wd B kb [([102], [120]), ([103], [121])] [row0] [ev1, ev2, ev3, ev4, ev5, ev6]) := HKB.out.below bd
  have hbd := hbb.trans (bd.mono hbb.size)
  clear bd HKB hbb
  go_wp2_with fail
  refine (KW.reads [110, 111] [] _ none rfl HKD.out sml6 (Tx.nil _) (by decide)).mono ?_
  rintro e we ⟨rfl, be⟩
  have hbe := hbd.trans (be.mono hbd.size)
  clear be HKD hbd
  go_wp2_with fail
  go_ret
  exact ⟨rfl, hbe⟩
end Go.Proofs.YthhghkjgffcpeaaDoor
