/- A run of a program over its parts, and what its result shows, item by item. -/
import Derived.Test.YtfafhjglcaikoaaGreatDoorR35
import Derived.Test.YtfafhjglcaikoaaGreatDoorR41
import Derived.Test.YtfafhjglcaikoaaGreatDoorR43
namespace Go.Proofs.YtfafhjglcaikoaaGreatDoor
open Go.RowKit
attribute [local go_sem] Oper.semAt_some

variable {W W' : World} {ea : Nat → Addr}
/-- A run without an error comes back. -/
def PlainC (ea : Nat → Addr) (w : World) (st : Int) (s : Sh) (e : Ending) (w' : World) : Prop :=
  ∃ ta tn tc va vn vc fa fn fc, e = .returned (.tuple #[.agg #[.int .i64 st, .nilIface, .slice ta tn tc, .slice va vn vc, .slice fa fn fc, .int .i64 (s.st : Nat)], .bool true]) ∧
    Hid (Box ea w.heap.size (w'.alloc (.cells #[.int .i64 st, .nilIface, .slice ta tn tc, .slice va vn vc, .slice fa fn fc, .int .i64 (s.st : Nat)] 54)) w'.heap.size st .ok s) ∧
    Hid (Below w.heap.size w (w'.alloc (.cells #[.int .i64 st, .nilIface, .slice ta tn tc, .slice va vn vc, .slice fa fn fc, .int .i64 (s.st : Nat)] 54)))
theorem plain_mem {X : List Nd} {Fl : Fls} {st dp n : Nat} {inp : Txt} {r : Cr} (v fv : Value) (w : World) (hE : ErX w ea) (h17 : 17 ≤ w.heap.size) (hn : NdAt w v X) (hl : X.length ≤ 1000) (hs : SmN X) (hc : checkL X = .fine) (hf : FlAt w fv Fl) (hFl : Fl.length < 4294967296) (hN : ∀ p ∈ Fl, p.1.length < 4294967296) (hm : mayR Fl [] = none) (h1 : st ≤ 1500) (h2 : dp ≤ 25) (h3 : inp.length ≤ 2000) (hev : (ev n).1 X (start Fl st dp inp) = some r) (hr : Okr r.1) (hx : r.2.2 = .ok) :
    Calls Tryz.prog 18 #[v, wV fv (.slice none 0 0), oV st dp inp] w (PlainC ea w r.2.1 r.1) := by
  have hfin : finR r.1 r.2.1 r.2.2 = (r.2.1, .ok) := by rw [hx]; exact if_neg (by simp)
  refine Calls.mono (plain9_any (ea := ea) v fv r.2.1 .ok r.1 st dp inp (by obtain ⟨a, c, h⟩ := hf.form; exact ⟨a, _, c, h⟩) (by obtain ⟨a, c, h⟩ := hn.form; exact ⟨a, _, c, h⟩) (fun w2 hb => ?_)) ?_
  · refine Calls.mono (run_any (ea := ea) v fv X Fl st dp n inp r (hE.below (Nat.le_refl _) hb) (Nat.le_trans h17 hb.size) (hn.below hb (Nat.le_refl _)) (by omega) (fun x hx => ok_small x (hs x hx).1 (hs x hx).2) hc (hf.below hb (Nat.le_refl _)) hFl hN hm h1 h2 h3 hev hr) ?_
    rintro e w' ⟨u, p1, p2, p3⟩
    rw [hfin] at p2
    exact ⟨u, p1, p2, p3⟩
  · rintro e w' ⟨u, p1, p2, p3⟩
    obtain ⟨tv, vv, fv', X', Y', q1, q2, q3, q4, q5, q6⟩ := p2
    obtain ⟨a1, c1, e1⟩ := owns_slice q2.1
    obtain ⟨a2, c2, e2⟩ := owns_slice q4.1
    obtain ⟨a3, c3, e3⟩ := owns_slice q6
    subst e1 e2 e3 q1
    exact ⟨a1, _, c1, a2, _, c2, a3, _, c3, p1, box_new (x := .ok) ⟨_, _, _, X', Y', rfl, q2, q3, q4, q5, q6⟩ p3.size, p3.alloc p3.size _⟩
theorem okr_mk {v : Txt} {F : Vps} (hF : FI v F) (hv : v.length ≤ 1000) (E : List Ev) (st : Nat) (hd : Txt) (h1 : E.length ≤ 1000) (h2 : ∀ q ∈ E, q.l.length ≤ 1000) : Okr (mkS F E st hd) := by
  refine okr_of ?_
  have h3 : (E.all fun q => decide (q.l.length ≤ 1000)) = true := by
    rw [List.all_eq_true]
    exact fun q hq => decide_eq_true (h2 q hq)
  have h4 : (F.all fun p => decide (p.1.length ≤ 1000)) = true := by
    rcases hF with rfl | ⟨x, rfl⟩
    · rfl
    · show (decide (star.length ≤ 1000) && (decide (v.length ≤ 1000) && true)) = true
      rw [decide_eq_true hv]
      rfl
  have h5 : decide (E.length ≤ 1000) = true := decide_eq_true h1
  have h6 : decide (F.length ≤ 1000) = true := decide_eq_true (by have := hF.len; omega)
  unfold smallR
  simp only [Bool.and_eq_true]
  exact ⟨⟨⟨⟨⟨h5, h3⟩, rfl⟩, rfl⟩, h6⟩, h4⟩
/-- An event of a result's trace. -/
theorem Box.event {B b : Nat} {st : Int} {x : Xr} {s : Sh} (h : Box ea B W b st x s) :
    ∃ ta tc, W.cell? ⟨b, 2, none⟩ = some (.slice ta s.E.length tc) ∧ ∀ i q, s.E[i]? = some q → ∃ g o v, ta = some ⟨g, o, none⟩ ∧ W.cell? ⟨g, o + i * 5, none⟩ = some (.int .i64 q.kind) ∧ W.cell? ⟨g, o + i * 5 + 2, none⟩ = some (str q.a) ∧ W.cell? ⟨g, o + i * 5 + 3, none⟩ = some (str q.b) ∧ W.cell? ⟨g, o + i * 5 + 4, none⟩ = some v ∧ Tx W v q.l := by
  obtain ⟨ta, tc, va, vc, fa, fc, X, Y, hc, hX, hXe, -⟩ := h.seen
  refine ⟨ta, tc, hc.cell 2, fun i q hq => ?_⟩
  rw [← hXe, List.getElem?_map, Option.map_eq_some_iff] at hq
  obtain ⟨p, hp, rfl⟩ := hq
  obtain ⟨g, o, cap, hv, -, k0, -, k2, k3, k4⟩ := hX.at.at hp
  simp only [Value.slice.injEq] at hv
  exact ⟨g, o, p.2, hv.1, k0, k2, k3, k4, hX.at.2 p (List.mem_of_getElem? hp)⟩
end Go.Proofs.YtfafhjglcaikoaaGreatDoor
