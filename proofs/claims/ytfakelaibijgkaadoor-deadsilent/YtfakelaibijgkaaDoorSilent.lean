/- DeadSilent: a word is Silent just if no Sub is in it. -/
import Derived.Test.YtfakelaibijgkaaDoorDe11
namespace Go.Proofs.YtfakelaibijgkaaDoor
open Go.RowKit
attribute [local go_sem] Oper.semAt_some

set_option maxRecDepth 100000 in
set_option maxHeartbeats 4000000 in
theorem silent_law (v : Value) (X : List Nd) (W : World) (ea : Nat → Addr) (hE : Ers W ea) (hN : NdAt W v X) (hok : ∀ x ∈ X, NdOk x) :
    Calls Tryd.prog 6 #[v] W fun e w' => e = .returned (.bool true) ∧ Below W.heap.size W w' := by
  have HE : Hid (∀ w, Below W.heap.size W w → Ers w ea) := fun w hb => hE.below hb
  have HN : Hid (∀ w, Below W.heap.size W w → NdAt w v X) := fun w hb => hN.below hb (Nat.le_refl _)
  have HF : Hid _ := first_any W ea hE
  have HOK : Hid (∀ x ∈ X, NdOk x) := hok
  obtain ⟨ad, cap, rfl⟩ := hN.form
  clear hE hN hok
  by_cases hl : X.length ≤ 60
  · have hl' : ¬ (60 : Int) < (X.length : Int) := by omega
    go_enter Tryd.func6, Tryd.ntmps6
    go_wp2_with fail
    refine Calls.mono HF.out ?_
    rintro e w1 ⟨rfl, hb1⟩
    have HB1 : Hid (Below W.heap.size W w1) := hb1
    have HC2 : Hid _ := new_cells 22 0 [120] [(.slice ad X.length cap, X)] 1 #[.slice ad X.length cap] w1 rfl rfl (fun p hp => by rw [List.mem_singleton] at hp; subst hp; exact HN.out _ hb1) (by simp) (by simp [kidL]; omega)
    clear hb1 HF
    go_wp2_with fail
    refine Calls.mono HC2.out ?_
    rintro e w2 ⟨a2, c2, rfl, ho2, hb2⟩
    have HB2 : Hid (Below W.heap.size W w2) := HB1.out.trans (hb2.mono HB1.out.size)
    have HCK : Hid _ := check_any _ _ w2 ea (HE.out _ HB2.out) ho2.at (by rw [List.map_cons, List.map_nil, new_len]; simp; omega) (fun x hx => by
      rcases List.mem_cons.1 hx with rfl | hx
      · exact ⟨by simp, by simp⟩
      · simp at hx
        exact HOK.out x hx)
    obtain ⟨S, hS⟩ : ∃ S, S = newN 22 0 [120] ([(Value.slice ad X.length cap, X)].map Prod.snd) := ⟨_, rfl⟩
    rw [← hS] at HCK ⊢
    clear hb2 HC2 hS ho2
    go_wp2_with fail
    refine Calls.mono HCK.out ?_
    rintro e w3 ⟨u, rfl, hu, hb3⟩
    have HB3 : Hid (Below W.heap.size W w3) := HB2.out.trans (hb3.mono HB2.out.size)
    clear HCK hb3
    cases hck : checkL S with
    | many =>
      rw [hck] at hu
      obtain rfl := hu
      clear hck
      go_wp2_with fail
      go_ret
      exact ⟨rfl, HB3.out⟩
    | node i =>
      rw [hck] at hu
      obtain ⟨q, rfl, _⟩ := hu
      clear hck
      go_wp2_with fail
      go_ret
      exact ⟨rfl, HB3.out⟩
    | nest i =>
      rw [hck] at hu
      obtain ⟨q, rfl, _⟩ := hu
      clear hck
      go_wp2_with fail
      go_ret
      exact ⟨rfl, HB3.out⟩
    | fine =>
      rw [hck] at hu
      obtain rfl := hu
      clear hck
      obtain ⟨r, hr⟩ : ∃ r, r = hasSub X := ⟨_, rfl⟩
      have HSI : Hid _ := silent_any _ X w3 (HN.out _ HB3.out) (by omega)
      rw [← hr] at HSI
      have HHas : Hid (∀ w, Below W.heap.size W w → Calls Tryd.prog 19 #[.slice ad X.length cap, .slice (some ⟨w.heap.size, 0, none⟩) 1 1] (w.alloc (.cells #[.int .i64 12] 3)) fun e w' => e = .returned (.bool r) ∧ Below w.heap.size w w') := fun w hb => by
        have hbn := below_new w (.cells #[.int .i64 12] 3)
        have hbm := hb.trans (hbn.mono hb.size)
        have := has_any w.heap.size 12 (.slice ad X.length cap) X (w.alloc (.cells #[.int .i64 12] 3)) (HN.out _ hbm) ((Cel.new w _ _).cell 0) (by simp) (by omega)
        rw [show (X.any fun x => x.kind == 12) = r from hr.symm] at this
        refine this.mono ?_
        rintro e w' ⟨rfl, h2⟩
        exact ⟨rfl, hbn.trans (h2.mono hbn.size)⟩
      clear hr
      go_wp2_with fail
      refine Calls.mono HSI.out ?_
      rintro e w4 ⟨rfl, hb4⟩
      have HB4 : Hid (Below W.heap.size W w4) := HB3.out.trans (hb4.mono HB3.out.size)
      have HH4 : Hid _ := HHas.out w4 HB4.out
      clear HHas HSI hb4
      go_wp2_with fail
      refine Calls.mono HH4.out ?_
      rintro e w5 ⟨rfl, hb5⟩
      have HB5 : Hid (Below W.heap.size W w5) := HB4.out.trans (hb5.mono HB4.out.size)
      clear HH4 hb5
      cases r <;> (go_wp2_with fail; go_ret; exact ⟨rfl, HB5.out⟩)
  · have hl' : (60 : Int) < (X.length : Int) := by omega
    go_enter Tryd.func6, Tryd.ntmps6
    go_wp2_with fail
    refine Calls.mono HF.out ?_
    rintro e w1 ⟨rfl, hb1⟩
    have HB1 : Hid (Below W.heap.size W w1) := hb1
    clear hb1 HF
    go_wp2_with fail
    go_ret
    exact ⟨rfl, HB1.out⟩
end Go.Proofs.YtfakelaibijgkaaDoor
