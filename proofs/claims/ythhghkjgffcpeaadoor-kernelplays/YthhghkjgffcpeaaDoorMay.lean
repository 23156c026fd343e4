/- Which worlds may be: files and rows, one by one. -/
import Derived.Test.YthhghkjgffcpeaaDoorFiles
import Derived.Test.YthhghkjgffcpeaaDoorShelf2
import Derived.Test.YthhghkjgffcpeaaDoorShelf4
namespace Go.Proofs.YthhghkjgffcpeaaDoor
open Go.RowKit Go.Shelf

def longT (s : Txt) : Bool := decide (2000 < s.length)
def noNm (s : Txt) : Bool := s.isEmpty || longT s
theorem str_size (l : Txt) : (⟨l.toArray⟩ : ByteArray).size = l.length := by show l.toArray.size = _; simp

set_option maxHeartbeats 1000000 in
theorem tooLong_any (s : Txt) (W : World) : Calls Tryd.prog 69 #[str s] W fun e w' => e = .returned (.bool (longT s)) ∧ w' = W := by
  go_enter Tryd.func69, Tryd.ntmps69
  go_wp2
  go_ret
  exact ⟨ret_bool (decide_eq_decide.2 (by omega)), rfl⟩
theorem tooLong_at (w : World) : PredAt Tryd.prog 69 #[] (fun l : Txt => Value.string ⟨l.toArray⟩) longT w := by
  intro W x _
  unfold FnGives
  have hsz := str_size x
  go_enter Tryd.func69, Tryd.ntmps69
  go_wp2
  go_ret
  exact ⟨ret_bool (decide_eq_decide.2 (by omega)), 0, rfl⟩
set_option maxHeartbeats 1000000 in
theorem noName_any (s : Txt) (W : World) : Calls Tryd.prog 67 #[str s] W fun e w' => e = .returned (.bool (noNm s)) ∧ w' = W := by
  cases s with
  | nil =>
    go_enter Tryd.func67, Tryd.ntmps67
    go_wp2
    go_ret
    exact ⟨rfl, rfl⟩
  | cons c r =>
    obtain ⟨s, hs⟩ : ∃ s, s = c :: r := ⟨_, rfl⟩
    rw [← hs]
    have h1 : (s == []) = false := by rw [hs]; rfl
    have h2 : s.isEmpty = false := by rw [hs]; rfl
    have h3 : noNm s = longT s := by unfold noNm; rw [h2]; rfl
    have h4 : s ≠ [] := by rw [hs]; simp
    have H3 : Hid _ := h3
    clear hs h2 h3
    go_enter Tryd.func67, Tryd.ntmps67
    go_wp2_with fail
    refine (tooLong_any s W).mono ?_
    rintro e w1 ⟨rfl, hw⟩
    subst hw
    go_wp2_with fail
    go_ret
    exact ⟨by rw [H3.out]; rfl, rfl⟩
theorem longs_any (v : Value) (ns : List Txt) (w : World) (h : Tx w v ns) (hl : ns.length < 4294967296) :
    Calls Tryd.prog 70 #[v, .func (.func 69) #[] #[]] w fun e w' => e = .returned (.bool (ns.any longT)) ∧ Below w.heap.size w w' := by
  by_cases hne : ns = []
  · subst hne
    obtain ⟨ad, cap, rfl⟩ := h.form
    exact (Tryd.slices_ContainsFunc_empty (α := Txt) ad cap _ w).mono fun e w' ⟨he, hw⟩ => ⟨he, by rw [hw]; exact Below.refl _ _⟩
  · obtain ⟨g, o, cap, rfl, h1, h2, h3⟩ := h.inRow hne
    refine (Tryd.slices_ContainsFunc (fun l : Txt => Value.string ⟨l.toArray⟩) longT 69 #[] (enters_of Tryd.func69 (by kernel_rfl) rfl) g o ns.length cap ns w (tooLong_at w) (Nat.le_refl _) (by omega) ?_).mono ?_
    · intro j hj
      rw [getElem!_pos ns j hj]
      exact h3 j _ (List.getElem?_eq_getElem hj)
    · rintro e w' ⟨rfl, q, rfl⟩
      refine ⟨?_, below_drewN w q⟩
      rw [List.take_length]

/-- A row as the library's contract wants it. -/
abbrev Rz := Rw × Option Addr × Nat
abbrev rzC (z : Rz) : List Value := rwC z.1 (.slice z.2.1 z.1.args.length z.2.2)
theorem inhRz : Nonempty (Inhabited Rz) := ⟨⟨(noRow, none, 0)⟩⟩
theorem rz_of : ∀ (Y : List (Rw × Value)), (∀ p ∈ Y, ∃ ad cap, p.2 = .slice ad p.1.args.length cap) → ∃ Z : List Rz, Y = Z.map fun z => (z.1, Value.slice z.2.1 z.1.args.length z.2.2)
  | [], _ => ⟨[], rfl⟩
  | p :: Y, h => by
    obtain ⟨Z, hZ⟩ := rz_of Y (fun q hq => h q (by simp [hq]))
    obtain ⟨ad, cap, hp⟩ := h p (by simp)
    refine ⟨(p.1, ad, cap) :: Z, ?_⟩
    rw [List.map_cons, ← hZ]
    obtain ⟨r, v⟩ := p
    simp only at hp
    rw [hp]
def manyB (r : Rw) : Bool := decide (100 < r.args.length)
set_option maxHeartbeats 1000000 in
theorem manyArgs_at (w : World) : PredBelow Tryd.prog 45 #[] (fun z : Rz => .agg (rzC z).toArray) (fun z => manyB z.1) w := by
  intro W z hb
  obtain ⟨⟨nm, ars, an, re, co, ou, st⟩, ad, cap⟩ := z
  show Calls Tryd.prog 45 #[.agg #[str nm, .slice ad ars.length cap, .bool an, .bool re, .bool co, str ou, .int .i64 st]] W _
  have hba := hb.alloc hb.size (.cells #[str nm, .slice ad ars.length cap, .bool an, .bool re, .bool co, str ou, .int .i64 st] 77)
  have HBA : Hid _ := hba
  clear hba hb
  go_enter Tryd.func45, Tryd.ntmps45
  go_wp2_with fail
  go_ret
  exact ⟨ret_bool (decide_eq_decide.2 (by dsimp only; omega)), HBA.out⟩
set_option maxHeartbeats 1000000 in
theorem empty44 (ad : Option Addr) (cap : Nat) (f : Value) (w : World) : Calls Tryd.prog 44 #[.slice ad 0 cap, f] w fun e w' => e = .returned (.bool false) ∧ w' = w := by
  have h65 : Calls Tryd.prog 65 #[.slice ad 0 cap, f] w fun e w' => e = .returned (.int .i64 (-1)) ∧ w' = w := by
    go_enter Tryd.func65, Tryd.ntmps65
    go_wp2_with fail
    go_loopw [8] (fun v8 wr => v8 = .int .i64 0 ∧ wr = w) (fun _ _ => 0)
    case atStart => exact ⟨rfl, rfl⟩
    case round =>
      obtain ⟨rfl, rfl⟩ := hrel
      go_wp2_with fail
      go_ret
      exact ⟨rfl, rfl⟩
  have H : Hid _ := h65
  clear h65
  go_enter Tryd.func44, Tryd.ntmps44
  go_wp2_with fail
  refine Calls.mono H.out ?_
  rintro e w1 ⟨rfl, hw⟩
  subst hw
  go_wp2_with fail
  go_ret
  exact ⟨rfl, rfl⟩
set_option maxHeartbeats 1000000 in
theorem empty68 (ad : Option Addr) (cap : Nat) (f : Value) (w : World) : Calls Tryd.prog 68 #[.slice ad 0 cap, f] w fun e w' => e = .returned (.bool false) ∧ w' = w := by
  have h65 : Calls Tryd.prog 79 #[.slice ad 0 cap, f] w fun e w' => e = .returned (.int .i64 (-1)) ∧ w' = w := by
    go_enter Tryd.func79, Tryd.ntmps79
    go_wp2_with fail
    go_loopw [8] (fun v8 wr => v8 = .int .i64 0 ∧ wr = w) (fun _ _ => 0)
    case atStart => exact ⟨rfl, rfl⟩
    case round =>
      obtain ⟨rfl, rfl⟩ := hrel
      go_wp2_with fail
      go_ret
      exact ⟨rfl, rfl⟩
  have H : Hid _ := h65
  clear h65
  go_enter Tryd.func68, Tryd.ntmps68
  go_wp2_with fail
  refine Calls.mono H.out ?_
  rintro e w1 ⟨rfl, hw⟩
  subst hw
  go_wp2_with fail
  go_ret
  exact ⟨rfl, rfl⟩
theorem many_any (v : Value) (Y : List (Rw × Value)) (w : World) (h : RwAt w v Y) (hl : Y.length < 4294967296) :
    Calls Tryd.prog 44 #[v, .func (.func 45) #[] #[]] w fun e w' => e = .returned (.bool ((Y.map Prod.fst).any manyB)) ∧ Below w.heap.size w w' := by
  obtain ⟨_⟩ := inhRz
  obtain ⟨Z, rfl⟩ := rz_of Y (fun p hp => (h.2 p hp).form)
  rcases h.1 with ⟨h0, ad, cap, rfl⟩ | ⟨g, o, cap, hv, h2, h3, h4⟩
  · have hZ : Z = [] := by simpa using h0
    subst hZ
    exact (empty44 ad cap _ w).mono fun e w' ⟨he, hw⟩ => ⟨he, by rw [hw]; exact Below.refl _ _⟩
  · obtain rfl : v = .slice (some ⟨g, o, none⟩) Z.length cap := by rw [hv]; simp
    refine (AnyQ.slices_ContainsFunc Tryd.cf44 7 Tryd.isAgg77 Tryd.sizeOf77 rzC (fun _ => rfl) (fun z => manyB z.1) 45 #[] (enters_of Tryd.func45 (by kernel_rfl) rfl) g o Z.length cap Z w (manyArgs_at w) (Nat.le_refl _) (by simp at hl; omega) h3 ?_).mono ?_
    · intro j hj i u hu
      refine h4 j (rzC Z[j]!) ?_ i u hu
      rw [getElem!_pos Z j hj, List.getElem?_map, List.getElem?_map, List.getElem?_eq_getElem hj]
      rfl
    · rintro e w' ⟨rfl, hb⟩
      refine ⟨ret_bool ?_, hb⟩
      rw [List.take_length, List.map_map, List.any_map]
      rfl
end Go.Proofs.YthhghkjgffcpeaaDoor
