/- gather, Cat. -/
import Derived.Test.YtdajacodfnidfaaDoorLists
namespace Go.Proofs.YtdajacodfnidfaaDoor
open Go.RowKit Go.Shelf

/-- The value is a slice of these lists. -/
def Tss (W : World) (v : Value) (ls : List (List (List UInt8))) : Prop :=
  ∃ (g o : Nat) (ad : Option Addr) (cap : Nat), v = .slice ad ls.length cap ∧ ls.length ≤ cap ∧ (ls ≠ [] → ad = some ⟨g, o, none⟩ ∧ g < W.heap.size) ∧
    ∀ k l, ls[k]? = some l → ∃ vl, W.cell? ⟨g, o + k, none⟩ = some vl ∧ Tx W vl l
theorem Tss.below {W W' : World} {v : Value} {ls : List (List (List UInt8))} {B : Nat} (h : Tss W v ls) (hb : Below B W W') (hB : W.heap.size ≤ B) : Tss W' v ls := by
  obtain ⟨g, o, ad, cap, h1, h2, h3, h4⟩ := h
  refine ⟨g, o, ad, cap, h1, h2, fun hne => ⟨(h3 hne).1, Nat.lt_of_lt_of_le (h3 hne).2 hb.size⟩, fun k l hl => ?_⟩
  have hg := (h3 (fun e => by rw [e] at hl; simp at hl)).2
  obtain ⟨vl, h5, h6⟩ := h4 k l hl
  exact ⟨vl, (hb.cell (p := ⟨g, o + k, none⟩) (by show g < B; omega)).trans h5, h6.below hb hB⟩

/-- The list, new; or too big. -/
def GotL (B : Nat) (a : Addr) (r : Option (List (List UInt8))) (e : Ending) (w' : World) : Prop :=
  match r with
  | some l => ∃ v', e = .returned (.tuple #[v', .nilIface]) ∧ w'.ownsRow B 9 1 v' l.length (txV l)
  | none => e = .returned (.tuple #[.slice none 0 0, bigV a])
/-- As it is, if it is not too big. -/
def bound (l : List (List UInt8)) : Option (List (List UInt8)) := if fitsB l then some l else none

theorem cat1_any (v : Value) (w : World) : Calls Tryd.prog 25 #[v] w fun e w' => e = .returned v ∧ w' = w := by
  go_enter Tryd.func25, Tryd.ntmps25
  go_wp2
  go_ret
  exact ⟨rfl, rfl⟩

set_option maxRecDepth 100000 in
set_option maxHeartbeats 4000000 in
theorem gatherL_any (v : Value) (ls : List (List (List UInt8))) (w : World) (a : Addr) (h : Tss w v ls) (hls : ls.length < 4294967296) (hz : ∀ l ∈ ls, l.length < 4294967296) (hE : Eb w a) :
    Calls Tryd.prog 24 #[v, .func (.func 25) #[] #[]] w fun e w' => GotL w.heap.size a (bound (gatAll id ls)) e w' ∧ Below w.heap.size w w' := by
  have HE : Hid (Eb w a) := hE
  have HZ : Hid (∀ l ∈ ls, l.length < 4294967296) := hz
  have HT : Hid (Tss w v ls) := h
  obtain ⟨g, o, ad, cap, rfl, hcap, hne, hce⟩ := h
  have HN : Hid (ls ≠ [] → ad = some ⟨g, o, none⟩ ∧ g < w.heap.size) := hne
  have HC : Hid (∀ k l, ls[k]? = some l → ∃ vl, w.cell? ⟨g, o + k, none⟩ = some vl ∧ Tx w vl l) := hce
  clear hne hce hz hE
  go_enter Tryd.func24, Tryd.ntmps24
  go_wp2_with fail
  go_loopw [6, 12] (fun v6 v12 wr => ∃ k : Nat, v12 = .int .i64 k ∧ k ≤ ls.length ∧ Hid (fitsB (gat id ls k) = true) ∧ Hid (wr.ownsRow w.heap.size 9 1 v6 (gat id ls k).length (txV (gat id ls k))) ∧ Below w.heap.size w wr) (fun _ v12 _ => ls.length - (intOf v12).toNat)
  case atStart => exact ⟨0, rfl, by omega, by rw [gat_zero]; exact fits_nil, by rw [gat_zero]; exact ⟨rfl, .inl ⟨rfl, rfl⟩⟩, Below.refl _ _⟩
  case round =>
    obtain ⟨k, rfl, hk, HF, HO, hbr⟩ := hrel
    by_cases hkl : k < ls.length
    · obtain ⟨l, hl⟩ : ∃ l, ls[k]? = some l := ⟨_, List.getElem?_eq_getElem hkl⟩
      obtain ⟨rfl, hg⟩ := HN.out (fun e => by rw [e] at hkl; simp at hkl)
      obtain ⟨vl, hc, htx⟩ := HC.out k l hl
      have c0 := (hbr.cell (p := ⟨g, o + k, none⟩) hg).trans hc
      have HTX : Hid (Tx wr vl l) := htx.below hbr (Nat.le_refl _)
      have HLL : Hid (l.length < 4294967296) := HZ.out l (List.mem_of_getElem? hl)
      have HS : Hid (gat id ls (k + 1) = gat id ls k ++ l) := gat_succ id ls k l hl
      obtain ⟨adl, capl, rfl⟩ := htx.form
      clear hc htx hl
      go_wp2_with fail
      refine (cat1_any _ _).mono ?_
      rintro e w1 ⟨rfl, hw1⟩
      obtain rfl := hw1.symm
      go_wp2_with fail
      cases hq : fitsB (gat id ls k ++ l)
      · refine (add_no _ _ (gat id ls k) l _ a (own_form HO.out) HTX.out HLL.out HF.out hq (Eb.below HE.out hbr (Eb.pos HE.out))).mono ?_
        rintro e w2 ⟨rfl, hb2⟩
        go_wp2_with fail
        go_ret2
        have hno : bound (gatAll id ls) = none := by
          unfold bound
          rw [gat_fits id ls (k + 1) (by rw [HS.out]; exact hq)]
          rfl
        rw [hno]
        exact ⟨rfl, hbr.trans (hb2.mono hbr.size)⟩
      · refine (add_yes w.heap.size _ _ (gat id ls k) l _ hbr.size HO.out HTX.out HF.out hq).mono ?_
        rintro e w2 ⟨v2, rfl, ho2, hb2⟩
        have HO2 : Hid _ := ho2
        have HQ : Hid _ := hq
        clear ho2 hq
        go_wp2_with fail
        exact ⟨⟨k + 1, by simp, by omega, by rw [HS.out]; exact HQ.out, by rw [HS.out]; exact HO2.out, hbr.trans hb2⟩, by simp [intOf]; omega⟩
    · have hkz : k = ls.length := by omega
      subst hkz
      go_wp2_with fail
      go_ret2
      have hyes : bound (gatAll id ls) = some (gatAll id ls) := by
        unfold bound
        rw [← gat_all, HF.out]
        rfl
      rw [hyes]
      refine ⟨⟨_, rfl, ?_⟩, hbr⟩
      rw [← gat_all]
      exact HO.out

set_option maxHeartbeats 1000000 in
theorem cat_any (v : Value) (ls : List (List (List UInt8))) (w : World) (a : Addr) (h : Tss w v ls) (hls : ls.length < 4294967296) (hz : ∀ l ∈ ls, l.length < 4294967296) (hE : Eb w a) :
    Calls Tryd.prog 10 #[v] w fun e w' => GotL w.heap.size a (bound (gatAll id ls)) e w' ∧ Below w.heap.size w w' := by
  have HC : Hid _ := gatherL_any v ls w a h hls hz hE
  clear h hE hz
  cases hb : bound (gatAll id ls) with
  | none =>
    rw [hb] at HC
    go_enter Tryd.func10, Tryd.ntmps10
    go_wp2_with fail
    refine Calls.mono HC.out ?_
    rintro e w1 ⟨rfl, hb1⟩
    go_wp2_with fail
    go_ret2
    exact ⟨rfl, hb1⟩
  | some l =>
    rw [hb] at HC
    go_enter Tryd.func10, Tryd.ntmps10
    go_wp2_with fail
    refine Calls.mono HC.out ?_
    rintro e w1 ⟨⟨v1, rfl, ho⟩, hb1⟩
    go_wp2_with fail
    go_ret2
    exact ⟨⟨_, rfl, ho⟩, hb1⟩
end Go.Proofs.YtdajacodfnidfaaDoor
