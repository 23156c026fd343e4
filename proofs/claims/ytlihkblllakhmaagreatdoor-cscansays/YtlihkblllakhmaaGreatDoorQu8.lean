/- Quote. -/
import Derived.Test.YtlihkblllakhmaaGreatDoorQu7
namespace Go.Proofs.YtlihkblllakhmaaGreatDoor
open Go.RowKit
attribute [local go_sem] Oper.semAt_some

set_option maxRecDepth 100000 in
set_option maxHeartbeats 2000000 in
theorem replacer_any (W : World) (B q g cap : Nat) (hq : Cel W q 112 (rcells 0 0 .nilIface (.slice (some ⟨g, 0, none⟩) 8 cap))) (hx : ∀ j u, reps[j]? = some u → W.cell? ((⟨g, 0, none⟩ : Addr).add j) = some u) (hg : g ≠ q) (hB : B ≤ q) (s : ByteArray) (hs : s.size < 1073741824) :
    Calls Tryz.prog 32 #[.pointer (some ⟨q, 0, none⟩), .string s] W fun e w' => e = .returned (str (escP s.data.toList)) ∧ Below B W w' := by
  have HO : Hid _ := once_built W q g cap hq hx hg
  have hBW : B ≤ W.heap.size := Nat.le_trans hB (Nat.le_of_lt hq.lt)
  clear hq hx
  go_enter Tryz.func32, Tryz.ntmps32
  go_wp2_with fail
  refine Calls.mono HO.out ?_
  rintro e w1 ⟨rfl, b, cs, tr, hc, hR, hb, hT⟩
  have HR : Hid _ := replace_any w1 b cs W.heap.size tr hR hb s hs
  have c3 := hc.cell 3
  simp [rcells] at c3
  have HB : Hid (Below B W w1) := hT.below (fun i hi => by rw [hi]; exact hB) hBW
  have HS : Hid (B ≤ w1.heap.size) := Nat.le_trans hBW hT.size
  clear HO hR hc hT
  have hm : ∀ w : World, (method 332 150 (.pointer (some ⟨b, 0, none⟩)) "Replace").run Tryz.prog w = .ok (149, .pointer (some ⟨b, 0, none⟩)) w := fun _ => by kernel_rfl
  go_wp2_with fail
  refine Calls.mono HR.out ?_
  rintro e w2 ⟨rfl, hb2⟩
  have H2 : Hid (Below w1.heap.size w1 w2) := hb2
  clear hb2
  go_wp2_with fail
  go_ret
  exact ⟨rfl, HB.out.trans (Below.mono H2.out HS.out)⟩

/-- A word that is read as the text. -/
def quoteB (l : List UInt8) : List UInt8 := if readsB (l ++ [32]) l then l else 34 :: (escP l ++ [34])
theorem blank_bytes (s : ByteArray) : (s ++ ⟨#[32]⟩ : ByteArray) = ⟨(s.data.toList ++ [32]).toArray⟩ := by
  apply ByteArray.ext
  apply Array.toList_inj.1
  simp
theorem quote_bytes (l : List UInt8) : (⟨#[34]⟩ ++ ⟨l.toArray⟩ ++ ⟨#[34]⟩ : ByteArray) = ⟨(34 :: (l ++ [34])).toArray⟩ := by
  apply ByteArray.ext
  simp
set_option maxRecDepth 100000 in
set_option maxHeartbeats 4000000 in
theorem quote_any (s : ByteArray) (W : World) (ea : Nat → Addr) (hE : Env W ea) (hW : (ea 64).block ≤ W.heap.size) (hs : s.size < 1073741824) :
    Calls Tryz.prog 15 #[.string s] W fun e w' => e = .returned (str (quoteB s.data.toList)) ∧ Below W.heap.size W w' := by
  obtain ⟨B, HBB⟩ : ∃ B, Hid ((s ++ ⟨#[32]⟩ : ByteArray) = B) := ⟨_, rfl⟩
  have HR : Hid _ := reads_any B s W ea hE hW
  have HD : Hid (B.data.toList = s.data.toList ++ [32]) := by unfold Hid; rw [← HBB.out, blank_bytes]
  have hb1 : ¬ 9223372036854775807 < s.size + 1 := by omega
  clear hE
  unfold quoteB
  cases hr : readsB (s.data.toList ++ [32]) s.data.toList with
  | true =>
    rw [HD.out, hr] at HR
    rw [if_pos rfl]
    clear hr HD
    go_enter Tryz.func15, Tryz.ntmps15
    go_wp2_with fail
    rw [HBB.out]
    refine Calls.mono HR.out ?_
    rintro e w1 ⟨rfl, hb⟩
    have HB : Hid (Below W.heap.size W w1) := hb
    clear hb HR
    go_wp2_with fail
    go_ret
    exact ⟨congrArg Ending.returned (show Value.string s = str s.data.toList by simp [str]), HB.out⟩
  | false =>
    rw [HD.out, hr] at HR
    rw [if_neg (by simp)]
    clear hr HD
    go_enter Tryz.func15, Tryz.ntmps15
    go_wp2_with fail
    rw [HBB.out]
    refine Calls.mono HR.out ?_
    rintro e w1 ⟨rfl, hb⟩
    have HB : Hid (Below W.heap.size W w1) := hb
    clear hb HR
    have HX : Hid (∀ j u, reps[j]? = some u → (w1.alloc (.cells reps.toArray 9)).cell? ((⟨w1.heap.size, 0, none⟩ : Addr).add j) = some u) := cells_new w1 reps 9
    have HN : Hid _ := newReplacer_any (w1.alloc (.cells reps.toArray 9)) w1.heap.size reps rfl HX.out (by simp [reps, Value.oneCell'])
    have HE : Hid ((escP s.data.toList).length ≤ 2 * s.size) := by
      unfold Hid
      rw [escP_len, Array.length_toList]
      have : s.data.toList.countP isE ≤ s.size := List.countP_le_length
      show s.size + _ ≤ _
      omega
    go_wp2_with fail
    refine Calls.mono HN.out ?_
    rintro e w2 ⟨q, ad, cap, rfl, hq, hc, ho, hb⟩
    have hs2 : w1.heap.size ≤ (w1.alloc (.cells reps.toArray 9)).heap.size := by simp
    have hb2 : Below w1.heap.size w1 w2 := (below_new w1 _).trans (Below.mono hb hs2)
    obtain ⟨g, rfl, hg⟩ : ∃ g, ad = some ⟨g, 0, none⟩ ∧ ∀ j u, reps[j]? = some u → w2.cell? ((⟨g, 0, none⟩ : Addr).add j) = some u := by
      rcases ho.2 with ⟨_, h0⟩ | ⟨g, cap', cur, hv, _⟩
      · simp at h0
      · cases hv
        exact ⟨g, rfl, ho.cells rfl⟩
    have hgq : g ≠ q := fun e => owns_apart hc ho (by decide) (by rw [e]; rfl)
    have HP : Hid _ := replacer_any w2 w1.heap.size q g cap hc hg hgq (Nat.le_trans hs2 hq) s hs
    have HB2 : Hid (Below w1.heap.size w1 w2) := hb2
    clear hc ho hb hb2 hg HN HX
    go_wp2_with fail
    refine Calls.mono HP.out ?_
    rintro e w3 ⟨rfl, hb3⟩
    have HB3 : Hid (Below w1.heap.size w2 w3) := hb3
    clear hb3 HP
    obtain ⟨Z, hZ⟩ : ∃ Z : ByteArray, Z = ⟨(escP s.data.toList).toArray⟩ := ⟨_, rfl⟩
    have hz : Z.size ≤ 2 * s.size := by
      rw [hZ]
      exact HE.out
    have HZ : Hid ((⟨#[34]⟩ ++ Z ++ ⟨#[34]⟩ : ByteArray) = ⟨(34 :: (escP s.data.toList ++ [34])).toArray⟩) := by
      unfold Hid
      rw [hZ, quote_bytes]
    rw [show str (escP s.data.toList) = .string Z from by rw [hZ]]
    have hz1 : ¬ 9223372036854775807 < 1 + Z.size := by omega
    have hz2 : ¬ 9223372036854775807 < 1 + Z.size + 1 := by omega
    clear hZ hz HE
    go_wp2_with fail
    go_ret
    refine ⟨congrArg (fun x => Ending.returned (.string x)) HZ.out, HB.out.trans (Below.mono (HB2.out.trans HB3.out) HB.out.size)⟩
end Go.Proofs.YtlihkblllakhmaaGreatDoor
