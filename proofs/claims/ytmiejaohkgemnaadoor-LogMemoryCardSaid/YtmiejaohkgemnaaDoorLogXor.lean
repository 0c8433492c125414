/-
  Rows of a call's own whose bytes are turned, one by one. Plain lemmas; no statement.
-/
import Derived.Test.YtmiejaohkgemnaaDoorLogKeep
namespace Go.Proofs.YtmiejaohkgemnaaDoor
open Go.RowKit
set_option linter.unusedVariables false
set_option maxRecDepth 100000

/-- a row of some bytes of the call's own, all in G -/
def XRow (G : Nat → Prop) (w : World) (base : Nat) (u : Value) : Prop :=
  ∃ A m c xs, u = .slice A m c ∧ w.ownsRow base 5 1 (.slice A m c) m xs ∧ (∀ x ∈ xs, ∃ z : Int, x = .int .u8 z) ∧ (∀ i, (Value.slice A m c).ownBlock = some i → G i) ∧ m ≤ maxLen
/-- how the loops stand: the outer row is as it was, only blocks of G have turned -/
def XRows (G : Nat → Prop) (w8 : World) (base : Nat) (A : Option Addr) (n c : Nat) (us : List Value) (wr : World) : Prop :=
  wr.ownsRow base 32 1 (.slice A n c) n us ∧ (∀ u ∈ us, XRow G wr base u) ∧ Chg G w8 wr
theorem x_start {F : Nat → Prop} {w : World} {base n c : Nat} {A : Option Addr} {ls : List (List UInt8)} (h : OwnRsX w F base A n c ls) : ∃ us, XRows (fun i => base ≤ i ∧ ¬ F i) w base A n c us w := by
  obtain ⟨h1, us, h2, _, h3⟩ := h
  refine ⟨us, h2, fun u hu => ?_, Chg.refl _ _⟩
  obtain ⟨k, hk, e⟩ := List.getElem_of_mem hu
  have hlen : us.length = n := by simpa using h2.1
  obtain ⟨A', c', e2, ho⟩ := h3 k u (ls[k]'(by omega)) (by rw [← e]; exact List.getElem?_eq_getElem hk) (List.getElem?_eq_getElem _)
  refine ⟨A', _, c', _, e2, ho.1, fun x hx => ?_, fun i hi => ⟨(World.ownsRow.lt ho.1 i hi).1, ho.2 i hi⟩, Nat.le_trans (own_cap ho.1).1 (own_cap ho.1).2⟩
  obtain ⟨b, _, rfl⟩ := List.mem_map.1 hx
  exact ⟨_, rfl⟩
section
variable {G : Nat → Prop} {w8 wr : World} {base n c : Nat} {A : Option Addr} {us : List Value}
/-- row k: where it lies -/
theorem XRows.at_ (h : XRows G w8 base A n c us wr) {k : Nat} (hk : k < n) : ∃ x B m d, A = some x ∧ us[k]? = some (.slice B m d) ∧ wr.cell? (x.add k) = some (.slice B m d) ∧ m ≤ maxLen := by
  have hlen : us.length = n := by simpa using h.1.1
  obtain ⟨x, e, hb, hc⟩ := (Rd.own h.1).at_ hk
  have hu : us[k]? = some (us[k]'(by omega)) := List.getElem?_eq_getElem _
  obtain ⟨B, m, d, xs, e2, _, _, _, hm⟩ := h.2.1 (us[k]'(by omega)) (List.getElem_mem _)
  have e3 : us.getD k undef = .slice B m d := by rw [List.getD_eq_getElem?_getD, hu]; simpa using e2
  rw [e3] at hc
  exact ⟨x, B, m, d, e, by rw [hu, e2], hc, hm⟩
theorem XRows.row (h : XRows G w8 base A n c us wr) {k : Nat} {B : Option Addr} {m d : Nat} (hu : us[k]? = some (.slice B m d)) (hk : k < n) : ∃ x, A = some x ∧ wr.cell? (x.add k) = some (.slice B m d) := by
  obtain ⟨x, e, hb, hc⟩ := (Rd.own h.1).at_ hk
  rw [List.getD_eq_getElem?_getD, hu] at hc
  exact ⟨x, e, hc⟩
/-- byte j of row k: where it lies, and what is stored there -/
theorem XRows.byte (h : XRows G w8 base A n c us wr) {k j : Nat} {B : Option Addr} {m d : Nat} (hu : us[k]? = some (.slice B m d)) (hj : j < m) :
    ∃ g z, B = some ⟨g, 0, none⟩ ∧ wr.cell? ⟨g, j, none⟩ = some (.int .u8 z) ∧ wr.frozen? ⟨g, j, none⟩ = false ∧ ∀ y : Int, XRows G w8 base A n c us (wr.setCell ⟨g, j, none⟩ (.int .u8 y)) := by
  obtain ⟨ho, hr, hc⟩ := h
  have hmem : Value.slice B m d ∈ us := List.mem_of_getElem? hu
  obtain ⟨B', m', d', xs, e, hb, hx, hG, hm⟩ := hr _ hmem
  injection e with e1 e2 e3
  subst e1 e2 e3
  have hxl : xs.length = m := by simpa using hb.1
  rcases hb.2 with ⟨e1, e2⟩ | ⟨g, cap, cur, e1, _⟩
  · omega
  · injection e1 with e3 e4 e5
    subst e3 e5
    obtain ⟨z, hz⟩ := hx (xs[j]'(by omega)) (List.getElem_mem _)
    refine ⟨g, z, rfl, ?_, hb.frozenAt j, fun y => ?_⟩
    · rw [hb.cellAt j (by omega), List.getElem?_eq_getElem (by omega), hz]
    · have hgr := (hb.stored j (.int .u8 y)).2
      refine ⟨World.ownsRow.kept ho hgr (rows_apart ho hb (by decide)), fun u hu2 => ?_, hc.grown hgr (fun b e => .inl (by injection e with e; subst e; exact hG _ rfl))⟩
      obtain ⟨A2, m2, c2, ys, rfl, h2, hy, hG2, hm2⟩ := hr u hu2
      by_cases hbk : (Value.slice A2 m2 c2).ownBlock = some g
      · have e2 : A2 = some ⟨g, 0, none⟩ := by
          rcases h2.2 with ⟨q1, q2⟩ | ⟨g', cap', cur', q1, _⟩
          · rw [q1] at hbk; cases hbk
          · rw [q1] at hbk
            injection hbk with hbk
            injection q1 with q2 q3 q4
            rw [q2]
            simp only at hbk
            rw [hbk]
        subst e2
        refine ⟨_, m2, c2, ys.set j (.int .u8 y), rfl, (h2.stored j (.int .u8 y)).1, fun x hx2 => ?_, hG2, hm2⟩
        rcases List.mem_or_eq_of_mem_set hx2 with q | q
        · exact hy x q
        · exact ⟨y, q⟩
      · exact ⟨A2, m2, c2, ys, rfl, World.ownsRow.kept h2 hgr (.inr hbk), hy, hG2, hm2⟩
end
theorem OwnRsX.off {w : World} {F : Nat → Prop} {base n c : Nat} {A : Option Addr} {ls : List (List UInt8)} (h : OwnRsX w F base A n c ls) : RowsOff w F A n ls := by
  obtain ⟨h1, us, h2, h2f, h3⟩ := h
  refine ⟨h1, us, Rd.own h2, fun a e _ => h2f a.block (by rw [e]; rfl), fun k u l hu hl => ?_⟩
  obtain ⟨A', c', e, ho⟩ := h3 k u l hu hl
  exact ⟨A', c', e, Sl.own ho.1, fun a e _ => ho.2 a.block (by rw [e]; rfl)⟩
namespace Lg
/-- LogMemory's log: laid and added -/
def ml (a : List (List UInt8)) : PL := ⟨⟨-1, H0, whole 2 a.length a, H0.length, (whole 2 a.length a).length⟩, 1, 2, a.length, a⟩
def mm (a : List (List UInt8)) : PL := ⟨⟨-1, H0, whole 2 a.length (a ++ a), H0.length, (whole 2 a.length a).length⟩, 1, 2, a.length, a ++ a⟩
theorem ml_is {a : List (List UInt8)} (h : longs a = false) : L0.lay a = (ml a, 0) := by
  unfold L0 ml
  rw [layL0 h (Int.le_refl _)]
theorem mm_is {a : List (List UInt8)} (h : longs a = false) : (ml a).add a = (mm a, 0) := by
  unfold ml mm
  rw [add1 h, whole_append, Nat.add_comm 1 a.length]
theorem mm_good {a : List (List UInt8)} (h : ∀ l ∈ a, l.length ≤ 65536) (hn : a.length ≤ 3000) : Good (mm a) :=
  ⟨rfl, .inr rfl, (by show 1 ≤ 2; omega), (by show (2 : Nat) < _; omega), (by show a.length < _; omega), (by show a.length ≤ (a ++ a).length; rw [List.length_append]; omega), fun l hl => by
    have hl' : l ∈ a ++ a := hl
    rw [List.mem_append] at hl'
    exact hl'.elim (h l) (h l)⟩
theorem mm_len {a : List (List UInt8)} (h : rowsW a ≤ 3000) : (whole 2 a.length a).length ≤ 39031 ∧ (frames 2 (a.length + 1) a).length ≤ 39000 ∧ (whole 2 a.length (a ++ a)).length ≤ 78031 := by
  have h0 := rows_len a
  have h1 := whole_all 2 a.length a [] (by omega) (by omega) (by simp only [rowsW]; omega)
  have h2 := frames_le 2 (a.length + 1) a (fun l hl => by have := rows_each h l hl; omega)
  have h3 := frames_le 2 (1 + a.length) a (fun l hl => by have := rows_each h l hl; omega)
  rw [List.append_nil] at h1
  refine ⟨h1, by omega, ?_⟩
  rw [whole_append, List.length_append]
  omega
end Lg
end Go.Proofs.YtmiejaohkgemnaaDoor
