/- Files are opened and written. -/
import Derived.Test.YthhghkjgffcpeaaDoorMark
namespace Go.Proofs.YthhghkjgffcpeaaDoor
open Go.RowKit

variable {W : World} {K : Nat → Prop} {kb mb : Nat} {ev rv : Value} {F : Fls} {Y : List (Rw × Value)} {X : List (Ev × Value)}

theorem look_no (h : W.ownsMap Tryd.prog 9 flE mb F.length (dF F)) (k : Txt) (hk : k.length < 4294967296) :
    (Instr.lookup 55 (.map (some mb)) (str k) false).run Tryd.prog W = .ok (.agg #[str (namF F k), str (datF F k)]) W := by
  obtain ⟨v, ps, h1, h2⟩ := h.lookup key9 Tryd.underlying55 (Tryd.zeroValue73 W) (flE_mk [] []) (keyOf9 k (by have := maxLen_big; omega))
  rw [dF_at] at h2
  rw [h1, flE_inv h2]
theorem look_ok (h : W.ownsMap Tryd.prog 9 flE mb F.length (dF F)) (k : Txt) (hk : k.length < 4294967296) :
    (Instr.lookup 55 (.map (some mb)) (str k) true).run Tryd.prog W = .ok (.tuple #[.agg #[str (namF F k), str (datF F k)], .bool (hasF F k)]) W := by
  obtain ⟨v, ps, h1, h2⟩ := h.look_ok key9 Tryd.underlying55 (Tryd.zeroValue73 W) (flE_mk [] []) (keyOf9 k (by have := maxLen_big; omega))
  rw [dF_at] at h2
  rw [dF_has] at h1
  rw [h1, flE_inv h2]

def openD (F : Fls) (f : Txt) (m : Int) : Txt := if m = 1 then datF F f else []
def openB (F : Fls) (f : Txt) (m : Int) : Bool := if m = 1 then hasF F f else m == 2 || m == 3
def openF (F : Fls) (f : Txt) (m : Int) : Fls := if m = 2 then putF F f [] else if m = 3 then putF F f (datF F f) else F
def openE (F : Fls) (f : Txt) (m : Int) : List Ev := if m = 1 then [⟨2, if hasF F f then 1 else 4, f, [], []⟩] else if m = 2 ∨ m = 3 then [⟨2, m, f, [], []⟩] else []
theorem dat_none (F : Fls) (k : Txt) (h : hasF F k = false) : datF F k = [] := by
  unfold hasF at h
  unfold datF
  rw [List.find?_eq_none.2 (by simpa using h)]

/-- A block that is not the kernel's stays. -/
theorem Stp.cel {W' : World} {K' : Nat → Prop} {b t : Nat} {cs : Array Value} (h : Stp W K W' K') (hc : Cel W b t cs) (hn : ¬ K b) : Cel W' b t cs := hc.turn h.1 hn

set_option maxRecDepth 100000 in
set_option maxHeartbeats 2000000 in
theorem open_any (f : Txt) (m : Int) (h : Kern W K kb mb ev rv F Y X) (hX : X.length < 4294967296) (hF : F.length < 4294967296) (hf : f.length < 4294967296) :
    Calls Tryd.prog 20 #[kP kb, str f, .int .i64 m] W fun r w' => r = .returned (.tuple #[str (openD F f m), .bool (openB F f m)]) ∧ ∃ ev' X' K', Kern w' K' kb mb ev' rv (openF F f m) Y (X ++ X') ∧ X'.map Prod.fst = openE F f m ∧ Stp W K w' K' := by
  have hlk := look_ok h.fm f hf
  have c1 := h.kc.cell 1
  have HH : Hid (Kern (W.alloc (.cells #[str (namF F f), str (datF F f)] 73)) K kb mb ev rv F Y X) := h.below (below_new _ _)
  have HS : Hid (Stp W K (W.alloc (.cells #[str (namF F f), str (datF F f)] 73)) K) := Stp.ofBelow (below_new _ _)
  have HN : Hid (¬ K W.heap.size) := fun hk => Nat.lt_irrefl _ (h.lt _ hk)
  have CB : Hid (Cel (W.alloc (.cells #[str (namF F f), str (datF F f)] 73)) W.heap.size 73 #[str (namF F f), str (datF F f)]) := Cel.new W 73 _
  have HF : Hid (F.length < 4294967296) := hF
  clear h hF
  by_cases h1 : m = 1
  · subst h1
    cases hh : hasF F f with
    | false =>
      have e1 : openD F f 1 = [] := by simp [openD, dat_none F f hh]
      have e2 : openB F f 1 = false := by simp [openB, hh]
      have e3 : openF F f 1 = F := by simp [openF]
      have e4 : openE F f 1 = [⟨2, 4, f, [], []⟩] := by simp [openE, hh]
      rw [e1, e2, e3, e4]
      rw [hh] at hlk
      clear e1 e2 e3 e4 hh
      go_enter Tryd.func20, Tryd.ntmps20
      go_wp2_with fail
      refine (note_any ⟨2, 4, f, [], []⟩ (.slice none 0 0) HH.out hX (Tx.nil _) (Nat.zero_lt_succ _)).mono ?_
      rintro e w2 ⟨rfl, ev', lv', K', k1, k2⟩
      go_wp2_with fail
      go_ret2
      exact ⟨rfl, ev', [(_, lv')], K', k1, rfl, HS.out.trans k2⟩
    | true =>
      have e1 : openD F f 1 = datF F f := by simp [openD]
      have e2 : openB F f 1 = true := by simp [openB, hh]
      have e3 : openF F f 1 = F := by simp [openF]
      have e4 : openE F f 1 = [⟨2, 1, f, [], []⟩] := by simp [openE, hh]
      rw [e1, e2, e3, e4]
      rw [hh] at hlk
      clear e1 e2 e3 e4 hh
      go_enter Tryd.func20, Tryd.ntmps20
      go_wp2_with fail
      refine (note_any ⟨2, 1, f, [], []⟩ (.slice none 0 0) HH.out hX (Tx.nil _) (Nat.zero_lt_succ _)).mono ?_
      rintro e w2 ⟨rfl, ev', lv', K', k1, k2⟩
      have b1 := (k2.cel CB.out HN.out).cell 1
      go_wp2_with fail
      go_ret2
      exact ⟨rfl, ev', [(_, lv')], K', k1, rfl, HS.out.trans k2⟩
  · by_cases h2 : m = 2
    · subst h2
      have e1 : openD F f 2 = [] := by simp [openD]
      have e2 : openB F f 2 = true := by simp [openB]
      have e3 : openF F f 2 = putF F f [] := by simp [openF]
      have e4 : openE F f 2 = [⟨2, 2, f, [], []⟩] := by simp [openE]
      rw [e1, e2, e3, e4]
      clear e1 e2 e3 e4
      go_enter Tryd.func20, Tryd.ntmps20
      go_wp2_with fail
      refine (keep_any f [] hf HH.out HF.out).mono ?_
      rintro e w2 ⟨rfl, k1, k2⟩
      go_wp2_with fail
      refine (note_any ⟨2, 2, f, [], []⟩ (.slice none 0 0) k1 hX (Tx.nil _) (Nat.zero_lt_succ _)).mono ?_
      rintro e w3 ⟨rfl, ev', lv', K', k3, k4⟩
      go_wp2_with fail
      go_ret2
      exact ⟨rfl, ev', [(_, lv')], K', k3, rfl, HS.out.trans (k2.trans k4)⟩
    · by_cases h3 : m = 3
      · subst h3
        have e1 : openD F f 3 = [] := by simp [openD]
        have e2 : openB F f 3 = true := by simp [openB]
        have e3 : openF F f 3 = putF F f (datF F f) := by simp [openF]
        have e4 : openE F f 3 = [⟨2, 3, f, [], []⟩] := by simp [openE]
        rw [e1, e2, e3, e4]
        clear e1 e2 e3 e4
        go_enter Tryd.func20, Tryd.ntmps20
        go_wp2_with fail
        refine (keep_any f (datF F f) hf HH.out HF.out).mono ?_
        rintro e w2 ⟨rfl, k1, k2⟩
        go_wp2_with fail
        refine (note_any ⟨2, 3, f, [], []⟩ (.slice none 0 0) k1 hX (Tx.nil _) (Nat.zero_lt_succ _)).mono ?_
        rintro e w3 ⟨rfl, ev', lv', K', k3, k4⟩
        go_wp2_with fail
        go_ret2
        exact ⟨rfl, ev', [(_, lv')], K', k3, rfl, HS.out.trans (k2.trans k4)⟩
      · have e1 : openD F f m = [] := by simp [openD, h1]
        have e2 : openB F f m = false := by simp [openB, h1, h2, h3]
        have e3 : openF F f m = F := by simp [openF, h2, h3]
        have e4 : openE F f m = [] := by simp [openE, h1, h2, h3]
        rw [e1, e2, e3, e4]
        clear e1 e2 e3 e4
        have d1 : (m == 1) = false := by simpa using h1
        have d2 : (m == 2) = false := by simpa using h2
        have d3 : (m == 3) = false := by simpa using h3
        go_enter Tryd.func20, Tryd.ntmps20
        go_wp2_with fail
        go_ret2
        exact ⟨rfl, ev, [], K, by rw [List.append_nil]; exact HH.out, rfl, HS.out⟩
end Go.Proofs.YthhghkjgffcpeaaDoor
