/- The document's kernel: New. -/
import Derived.Test.YthhghkjgffcpeaaDoorRK2
namespace Go.Proofs.YthhghkjgffcpeaaDoor
open Go.RowKit Go.Shelf

theorem Rk.made (W : World) (rv : Value) : Rk (W.alloc (.cells #[.slice none 0 0, rv, .slice none 0 0] 60)) (fun i => i = W.heap.size) W.heap.size (.slice none 0 0) rv (.slice none 0 0) [] [] := {
  xc := Cel.new W 60 _
  fr := ⟨rfl, .inl ⟨rfl, rfl⟩⟩
  er := ⟨rfl, .inl ⟨rfl, rfl⟩⟩
  xt := fun p hp => by simp at hp
  Kx := rfl
  Kf := fun b hb => by simp [Value.ownBlock] at hb
  Kt := fun b hb => by simp [Value.ownBlock] at hb
  lt := fun i hi => by subst hi; simp }
set_option maxRecDepth 100000 in
set_option maxHeartbeats 2000000 in
theorem rnew_any (fv rv : Value) (Fl : Fls) (n : Nat) (W : World) (hf : FlAt W fv Fl) (hr : ∃ ad cap, rv = .slice ad n cap) (hFl : Fl.length ≤ 50) :
    Calls Tryd.prog 15 #[wV fv rv] W fun e w' => ∃ xb fv' K', e = .returned (xP xb) ∧ Rk w' K' xb fv' rv (.slice none 0 0) (putAll Fl) [] ∧ (∀ i, K' i → W.heap.size ≤ i) ∧ Below W.heap.size W w' := by
  have HF : Hid (∀ W', Below W.heap.size W W' → FlAt W' fv Fl) := fun W' hb => hf.below hb (Nat.le_refl _)
  obtain ⟨adf, capf, rfl⟩ := hf.form
  obtain ⟨adr, capr, rfl⟩ := hr
  clear hf
  have hb1 : Below W.heap.size W (W.alloc (.cells #[.slice adf Fl.length capf, .slice adr n capr] 25)) := below_new W _
  have hb2 := hb1.alloc hb1.size (.cells #[.slice none 0 0, .slice adr n capr, .slice none 0 0] 60)
  have hsz : (W.alloc (.cells #[.slice adf Fl.length capf, .slice adr n capr] 25)).heap.size = W.heap.size + 1 := by simp
  have HK : Hid (Rk ((W.alloc (.cells #[.slice adf Fl.length capf, .slice adr n capr] 25)).alloc (.cells #[.slice none 0 0, .slice adr n capr, .slice none 0 0] 60)) (fun i => i = W.heap.size + 1) (W.heap.size + 1) (.slice none 0 0) (.slice adr n capr) (.slice none 0 0) [] []) := by
    have := Rk.made (W.alloc (.cells #[.slice adf Fl.length capf, .slice adr n capr] 25)) (.slice adr n capr)
    rw [hsz] at this
    exact this
  have HC : Hid (Cel ((W.alloc (.cells #[.slice adf Fl.length capf, .slice adr n capr] 25)).alloc (.cells #[.slice none 0 0, .slice adr n capr, .slice none 0 0] 60)) W.heap.size 25 #[.slice adf Fl.length capf, .slice adr n capr]) := (Cel.new W 25 _).below (below_new _ _) (by simp)
  have HB : Hid (Below W.heap.size W ((W.alloc (.cells #[.slice adf Fl.length capf, .slice adr n capr] 25)).alloc (.cells #[.slice none 0 0, .slice adr n capr, .slice none 0 0] 60))) := hb2
  clear hb1 hb2 hsz
  go_enter Tryd.func15, Tryd.ntmps15
  go_wp2_with fail
  go_loopw [4] (fun v4 wr => ∃ (k : Nat) (K : Nat → Prop) (fv' : Value), v4 = .int .i64 k ∧ k ≤ Fl.length ∧ Hid (Rk wr K (W.heap.size + 1) fv' (.slice adr n capr) (.slice none 0 0) (putAll (Fl.take k)) []) ∧ Hid (∀ i, K i → W.heap.size + 1 ≤ i) ∧ Hid (Below W.heap.size W wr) ∧ Hid (Cel wr W.heap.size 25 #[.slice adf Fl.length capf, .slice adr n capr])) (fun v4 _ => Fl.length - (intOf v4).toNat)
  case atStart => exact ⟨0, _, _, rfl, Nat.zero_le _, HK.out, fun i hi => by subst hi; exact Nat.le_refl _, HB.out, HC.out⟩
  case round =>
    obtain ⟨k, K, fv', rfl, hk, HR, HKB, HBr, HCr⟩ := hrel
    have d0 := HCr.out.cell 0
    by_cases hkl : k < Fl.length
    · obtain ⟨p, hp⟩ : ∃ p, Fl[k]? = some p := ⟨_, List.getElem?_eq_getElem hkl⟩
      obtain ⟨g, o, cap', hv, _, _, x0, x1⟩ := (HF.out _ HBr.out).at hp
      cases hv
      obtain ⟨pn, pd⟩ := p
      have HP : Hid (putAll (Fl.take (k + 1)) = putF (putAll (Fl.take k)) pn pd) := by
        unfold Hid
        rw [List.take_add_one, hp]
        exact putAll_snoc (Fl.take k) (pn, pd)
      have HLn : Hid ((putAll (Fl.take k)).length < 60000) := by
        have := putAll_length Fl k
        unfold Hid
        omega
      clear hp
      go_wp2_with fail
      refine (rput_any HR.out pn pd HLn.out (ris_putAll _)).mono ?_
      rintro e w2 ⟨rfl, fv2, K2, h1, h2⟩
      rw [← HP.out] at h1
      have H1 : Hid (Rk w2 K2 (W.heap.size + 1) fv2 (.slice adr n capr) (.slice none 0 0) (putAll (Fl.take (k + 1))) []) := h1
      have H2 : Hid (∀ i, K2 i → W.heap.size + 1 ≤ i) := fun i hi => (h2.2 i hi).elim (HKB.out i) (fun h => Nat.le_trans (show W.heap.size + 1 ≤ wr.heap.size from HCr.out.lt) h)
      have H3 : Hid (Below W.heap.size W w2) := HBr.out.trans (h2.1.below (fun i hi => Nat.le_of_succ_le (HKB.out i hi)) HBr.out.size)
      have H4 : Hid (Cel w2 W.heap.size 25 #[.slice (some ⟨g, o, none⟩) Fl.length capf, .slice adr n capr]) := HCr.out.turn h2.1 (fun h => by have := HKB.out _ h; omega)
      clear h1 h2 d0 x0 x1
      go_wp2_with fail
      exact ⟨⟨k + 1, K2, fv2, by simp, by omega, H1.out, H2.out, H3.out, H4.out⟩, by simp [intOf]; omega⟩
    · have hkz : k = Fl.length := by omega
      subst hkz
      rw [List.take_length] at HR
      go_wp2_with fail
      go_ret
      exact ⟨_, fv', K, rfl, HR.out, fun i hi => Nat.le_of_succ_le (HKB.out i hi), HBr.out⟩
end Go.Proofs.YthhghkjgffcpeaaDoor
