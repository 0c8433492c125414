import Derived.Test.YtcibjdodkcfpeaaBytes
import Derived.Test.YtcibjdodkcfpeaaOpen
import Derived.Deep.QuietTactic
namespace Go.Proofs.Ytcibjdodkcfpeaa
open Go.RowKit
set_option linter.unusedVariables false

theorem info_bytes : (Try.prog.info? 28).map (fun i => (i.zero, i.size, i.bytes)) = some (some (.slice none 0 0), 1, 24) := by kernel_rfl

/-- two rows of unlike element types lie in unlike blocks -/
theorem rows_apart {w : World} {b1 b2 : Nat} {e1 e2 : TypeId} {s1 s2 : Nat} {v1 v2 : Value} {n1 n2 : Nat} {xs1 xs2 : List Value} (h1 : w.ownsRow b1 e1 s1 v1 n1 xs1) (h2 : w.ownsRow b2 e2 s2 v2 n2 xs2) (he : e1 ≠ e2) :
    v1.ownBlock = none ∨ v1.ownBlock ≠ v2.ownBlock := by
  rcases h1.2 with ⟨rfl, _⟩ | ⟨g, cap, cur, rfl, _, hg, _⟩
  · exact .inl rfl
  · right
    rcases h2.2 with ⟨rfl, _⟩ | ⟨g', cap', cur', rfl, _, hg', _⟩
    · simp [Value.ownBlock]
    · simp only [Value.ownBlock, ne_eq, Option.some.injEq]
      rintro rfl
      rw [hg] at hg'
      injection hg' with hg'
      injection hg' with _ ht
      exact he ht

/-- 'w owns, from block base on, the slice (A, n, c) of slices of bytes of its own, which hold ls' -/
def OwnRs (w : World) (base : Nat) (A : Option Addr) (n c : Nat) (ls : List (List UInt8)) : Prop :=
  ls.length = n ∧ ∃ us : List Value, w.ownsRow base 28 1 (.slice A n c) n us ∧
    ∀ (k : Nat) (u : Value) (l : List UInt8), us[k]? = some u → ls[k]? = some l → ∃ A' c', u = .slice A' l.length c' ∧ OwnB w base A' l.length c' l

theorem own_none {w : World} {base n c : Nat} {l : List UInt8} (h : OwnB w base none n c l) : c = 0 := by
  rcases h.2 with ⟨e1, e2⟩ | ⟨g, cap, cur, e1, _⟩
  · injection e1 with _ _ e5
  · injection e1 with e3; cases e3

theorem OwnRs.rd {w : World} {base : Nat} {A : Option Addr} {n c : Nat} {ls : List (List UInt8)} (h : OwnRs w base A n c ls) : RdRows w A n ls := by
  obtain ⟨h1, us, h2, h3⟩ := h
  refine ⟨h1, us, Rd.own h2, fun k u l hu hl => ?_⟩
  obtain ⟨A', c', e, ho⟩ := h3 k u l hu hl
  refine ⟨A', c', e, (own_cap ho).1, (own_cap ho).2, ho.rd, fun hA => ?_⟩
  subst hA
  exact own_none ho
theorem OwnRs.below {w w' : World} {base : Nat} {A : Option Addr} {n c : Nat} {ls : List (List UInt8)} (h : OwnRs w base A n c ls) (hb : Below w.heap.size w w') : OwnRs w' base A n c ls := by
  obtain ⟨h1, us, h2, h3⟩ := h
  refine ⟨h1, us, World.ownsRow.kept h2 (grown_of_below hb none) (by cases (Value.slice A n c).ownBlock <;> simp), fun k u l hu hl => ?_⟩
  obtain ⟨A', c', e, ho⟩ := h3 k u l hu hl
  exact ⟨A', c', e, ho.below hb⟩
theorem OwnRs.drewN {w : World} {base : Nat} {A : Option Addr} {n c : Nat} {ls : List (List UInt8)} (h : OwnRs w base A n c ls) (k : Nat) : OwnRs (w.drewN k) base A n c ls := h
theorem OwnRs.block {w : World} {base : Nat} {A : Option Addr} {n c : Nat} {ls : List (List UInt8)} (h : OwnRs w base A n c ls) : ∀ g, (Value.slice A n c).ownBlock = some g → base ≤ g := by
  obtain ⟨_, us, h2, _⟩ := h
  exact fun g hg => (World.ownsRow.lt h2 g hg).1
theorem OwnRs.empty (w : World) : OwnRs (w.alloc (.cells #[] 28)) w.heap.size (some ⟨w.heap.size, 0, none⟩) 0 0 [] :=
  ⟨rfl, [], World.ownsRow_lit (e := 28) (base := w.heap.size) (size := 1) w #[] 0 (Nat.le_refl _) (by simp [maxLen]) rfl, fun k u l h => by simp at h⟩
theorem OwnRs.nil_ (w : World) (base : Nat) : OwnRs w base none 0 0 [] := ⟨rfl, [], World.ownsRow_nil w base _ 1, fun k u l h => by simp at h⟩

/-- one more slice of the call's own behind the others -/
theorem OwnRs.push {w w' : World} {base : Nat} {A : Option Addr} {n c : Nat} {ls : List (List UInt8)} {us : List Value} {B : Option Addr} {d : Nat} {l : List UInt8} {A' : Option Addr} {c' : Nat}
    (hlen : ls.length = n) (ho : w.ownsRow base 28 1 (.slice A n c) n us)
    (hin : ∀ (k : Nat) (u : Value) (l : List UInt8), us[k]? = some u → ls[k]? = some l → ∃ A' c', u = .slice A' l.length c' ∧ OwnB w base A' l.length c' l)
    (hl : OwnB w base B l.length d l) (hg : w.grownBy w' (Value.slice A n c).ownBlock) (ho' : w'.ownsRow base 28 1 (.slice A' (n + 1) c') (n + 1) (us ++ [.slice B l.length d])) : OwnRs w' base A' (n + 1) c' (ls ++ [l]) := by
  have keep : ∀ {B : Option Addr} {d : Nat} {l : List UInt8}, OwnB w base B l.length d l → OwnB w' base B l.length d l := by
    intro B d l h
    exact World.ownsRow.kept h hg (rows_apart h ho (by decide))
  have hus : us.length = n := by simpa using ho.1
  refine ⟨by simp [hlen], _, ho', fun k u x hu hx => ?_⟩
  rcases Nat.lt_or_ge k n with hk | hk
  · rw [List.getElem?_append_left (by omega)] at hu hx
    obtain ⟨A2, c2, e, h2⟩ := hin k u x hu hx
    exact ⟨A2, c2, e, keep h2⟩
  · rw [List.getElem?_append_right (by omega)] at hu hx
    have hk0 : k = n := by
      have := (List.getElem?_eq_some_iff.1 hu).1
      simp at this; omega
    subst hk0
    simp only [hus, hlen, Nat.sub_self, List.getElem?_cons_zero, Option.some.injEq] at hu hx
    subst hu hx
    exact ⟨B, d, rfl, keep hl⟩


end Go.Proofs.Ytcibjdodkcfpeaa
