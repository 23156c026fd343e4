/- Is a list a word's tree? -/
import Derived.Test.YtaildeglikhkaaaGreatDoorNewAll
namespace Go.Proofs.YtaildeglikhkaaaGreatDoor
open Go.RowKit
attribute [local go_sem] Oper.semAt_some

def fineB : Rs → Bool
  | .fine => true
  | _ => false
/-- Is it a word's tree: one that a Set may have? -/
def isWordL (X : List Nd) : Bool := fineB (checkL (newN 22 0 [120] [X]))
set_option maxHeartbeats 2000000 in
theorem isWord_any (v : Value) (X : List Nd) (W : World) (ea : Nat → Addr) (hE : Ers W ea) (hN : NdAt W v X) (hl : X.length < 2147483648) (hok : ∀ x ∈ X, NdOk x) :
    Calls Tryz.prog 38 #[v] W fun e w' => e = .returned (.bool (isWordL X)) ∧ Below W.heap.size W w' := by
  obtain ⟨ad, cap, rfl⟩ := hN.form
  unfold isWordL
  have hb1 : Below W.heap.size W (W.alloc (.cells #[.slice ad X.length cap] 22)) := (Below.refl _ W).alloc (Nat.le_refl _) _
  have HKD : Hid (KdAt (W.alloc (.cells #[.slice ad X.length cap] 22)) (.slice (some ⟨W.heap.size, 0, none⟩) 1 1) [(.slice ad X.length cap, X)]) :=
    KdAt.of_cells (t := 22) rfl (Cel.new W 22 _) (fun p hp => by rw [List.mem_singleton.1 hp]; exact hN.below hb1 (Nat.le_refl _)) (Nat.le_refl _)
  have HE : Hid (∀ W', Below W.heap.size W W' → Ers W' ea) := fun W' hb => hE.below hb
  have HB1 : Hid (Below W.heap.size W (W.alloc (.cells #[.slice ad X.length cap] 22))) := hb1
  have hkl : kidL [(.slice ad X.length cap, X)] = X := by simp [kidL]
  have HNW : Hid (Calls Tryz.prog 20 #[.int .i64 22, .int .i64 0, .string ⟨#[120]⟩, .slice (some ⟨W.heap.size, 0, none⟩) 1 1] (W.alloc (.cells #[.slice ad X.length cap] 22)) fun e w' => ∃ v', e = .returned v' ∧ NdOwn w' (W.alloc (.cells #[.slice ad X.length cap] 22)).heap.size v' (newN 22 0 [120] [X]) ∧ Below (W.alloc (.cells #[.slice ad X.length cap] 22)).heap.size (W.alloc (.cells #[.slice ad X.length cap] 22)) w') :=
    new_own 22 0 [120] _ [(.slice ad X.length cap, X)] _ HKD.out (by simp) (by rw [hkl]; omega)
  have HCK : Hid (∀ W' v', Below W.heap.size W W' → NdAt W' v' (newN 22 0 [120] [X]) → Calls Tryz.prog 17 #[v'] W' fun e w' => ∃ u, e = .returned u ∧ ErrIs w' ea u (checkL (newN 22 0 [120] [X])) ∧ Below W'.heap.size W' w') := fun W' v' hb h =>
    check_any v' _ W' ea (HE.out W' hb) h (by simp [newN]; omega) (fun x hx => by
      simp only [newN, List.flatten_cons, List.flatten_nil, List.append_nil, List.mem_cons] at hx
      rcases hx with rfl | hx
      · exact ⟨by simp, by simp⟩
      · exact hok x hx)
  generalize checkL (newN 22 0 [120] [X]) = R at HCK ⊢
  clear hE hN hok hb1 HKD
  go_enter Tryz.func38, Tryz.ntmps38
  go_wp2_with fail
  refine Calls.mono HNW.out ?_
  rintro e w2 ⟨v2, rfl, ho2, hb2⟩
  have hbw2 : Below W.heap.size W w2 := HB1.out.trans (hb2.mono HB1.out.size)
  have HC2 : Hid (Calls Tryz.prog 17 #[v2] w2 fun e w' => ∃ u, e = .returned u ∧ ErrIs w' ea u R ∧ Below w2.heap.size w2 w') := HCK.out w2 v2 hbw2 ho2.at
  obtain ⟨ad2, cap2, rfl⟩ := ho2.at.form
  clear HNW HCK ho2 hb2
  go_wp2_with fail
  refine Calls.mono HC2.out ?_
  rintro e w3 ⟨u3, rfl, hu3, hb3⟩
  have hbw3 : Below W.heap.size W w3 := hbw2.trans (hb3.mono hbw2.size)
  clear HC2
  cases R with
  | fine =>
    obtain rfl := hu3
    go_wp2_with fail
    go_ret
    exact ⟨rfl, hbw3⟩
  | many =>
    obtain rfl := hu3
    go_wp2_with fail
    go_ret
    exact ⟨rfl, hbw3⟩
  | node i =>
    obtain ⟨q, rfl, _⟩ := hu3
    go_wp2_with fail
    go_ret
    exact ⟨rfl, hbw3⟩
  | nest i =>
    obtain ⟨q, rfl, _⟩ := hu3
    go_wp2_with fail
    go_ret
    exact ⟨rfl, hbw3⟩
end Go.Proofs.YtaildeglikhkaaaGreatDoor
