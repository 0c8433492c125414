import Derived.Test.YtgniocgcfldiaaaSame
import Derived.Test.YtgniocgcfldiaaaPackPlain
namespace Go.Proofs.Ytgniocgcfldiaaa
open Go.RowKit
open Pk

theorem info_u8 : (Try.prog.info? 5).map (fun i => (i.zero, i.size, i.bytes)) = some (some (.int .u8 0), 1, 1) := by kernel_rfl

/-- 'w owns, from block base on, the slice (A, n, c), which holds the bytes l' -/
def OwnB (w : World) (base : Nat) (A : Option Addr) (n c : Nat) (l : List UInt8) : Prop := w.ownsRow base 5 1 (.slice A n c) n (l.map bv)
theorem OwnB.len {w : World} {base : Nat} {A : Option Addr} {n c : Nat} {l : List UInt8} (h : OwnB w base A n c l) : l.length = n := by simpa using h.1
theorem OwnB.rd {w : World} {base : Nat} {A : Option Addr} {n c : Nat} {l : List UInt8} (h : OwnB w base A n c l) : Rd w A n (l.map bv) := Rd.own h
theorem OwnB.nil_ (w : World) (base : Nat) : OwnB w base none 0 0 [] := World.ownsRow_nil w base _ 1
theorem OwnB.alloc {w : World} {base : Nat} {A : Option Addr} {n c : Nat} {l : List UInt8} (h : OwnB w base A n c l) (o : Obj) : OwnB (w.alloc o) base A n c l := World.ownsRow.alloc h o
theorem OwnB.block {w : World} {base : Nat} {A : Option Addr} {n c : Nat} {l : List UInt8} (h : OwnB w base A n c l) : ∀ g, (Value.slice A n c).ownBlock = some g → base ≤ g := fun g hg => (World.ownsRow.lt h g hg).1
theorem OwnB.below {w w' : World} {base : Nat} {A : Option Addr} {n c : Nat} {l : List UInt8} (h : OwnB w base A n c l) (hb : Below w.heap.size w w') : OwnB w' base A n c l :=
  World.ownsRow.kept h (grown_of_below hb none) (by cases (Value.slice A n c).ownBlock <;> simp)
theorem OwnB.drewN {w : World} {base : Nat} {A : Option Addr} {n c : Nat} {l : List UInt8} (h : OwnB w base A n c l) (k : Nat) : OwnB (w.drewN k) base A n c l := h

theorem own_cap {w : World} {base : Nat} {A : Option Addr} {n c : Nat} {l : List UInt8} (h : OwnB w base A n c l) : n ≤ c ∧ c ≤ maxLen := by
  rcases h.2 with ⟨e1, e2⟩ | ⟨g, cap, cur, e1, _, _, hnc, hcm, _⟩
  · injection e1 with _ _ e5
    subst e5
    exact ⟨by omega, by simp [maxLen]⟩
  · injection e1 with _ _ e5
    subst e5
    exact ⟨hnc, hcm⟩
theorem oneCell_bytes (l : List UInt8) : ∀ u ∈ l.map bv, u.oneCell' = true := by
  intro u hu
  obtain ⟨c, _, rfl⟩ := List.mem_map.1 hu
  rfl

/-- the row (A, n, c) of the call's own, or a new block -/
def RowOf (w : World) (r : Option Nat) (v : Value) : Prop := v.ownBlock = r ∨ ∃ g, v.ownBlock = some g ∧ w.heap.size ≤ g

/-- a slice that grew by bytes is what came back, beside no error -/
def Grew (base : Nat) (r : Option Nat) (l : List UInt8) (w : World) (e : Ending) (w' : World) : Prop :=
  ∃ A n c, e = .returned (.tuple #[.slice A n c, .int .i64 0]) ∧ OwnB w' base A n c l ∧ w.grownBy w' r ∧ RowOf w r (.slice A n c)
/-- nothing but an error came back -/
def Err2 (k : Int) (w : World) (e : Ending) (w' : World) : Prop := e = .returned (.tuple #[.slice none 0 0, .int .i64 k]) ∧ w = w'

theorem appendNum_low (A : Option Addr) (n c : Nat) (v : Int) (w : World) (hv : v < 0) :
    Calls Try.prog 38 #[.slice A n c, .int .i64 v] w (Err2 10 w) := by
  go_enter Try.func38, Try.ntmps38
  go_wp2
  go_ret2
  exact ⟨rfl, rfl⟩
theorem appendNum_high (A : Option Addr) (n c : Nat) (v : Int) (w : World) (hv : 4611686018427387904 ≤ v) :
    Calls Try.prog 38 #[.slice A n c, .int .i64 v] w (Err2 10 w) := by
  have h0 : ¬ v < 0 := by omega
  go_enter Try.func38, Try.ntmps38
  go_wp2
  go_ret2
  exact ⟨rfl, rfl⟩

theorem byte_more (u : Nat) : bv (UInt8.ofNat (u % 128 + 128)) = .int .u8 ((u : Int) % 128 + 128) := by
  unfold bv
  congr 1
  have : (UInt8.ofNat (u % 128 + 128)).toNat = u % 128 + 128 := by simp; omega
  rw [this]; omega

theorem byte_small {u : Nat} (h : u < 128) : bv (UInt8.ofNat u) = .int .u8 (u : Int) := by
  unfold bv
  congr 1
  have : (UInt8.ofNat u).toNat = u := by simp; omega
  rw [this]

set_option maxHeartbeats 800000 in
set_option maxRecDepth 100000 in
theorem appendNum_ok (A : Option Addr) (n c : Nat) (l : List UInt8) (base : Nat) (v : Nat) (w : World) (hv : v < 4611686018427387904) (hown : OwnB w base A n c l) (hn : n ≤ 1099511627776) (hbase : base ≤ w.heap.size) :
    Calls Try.prog 38 #[.slice A n c, .int .i64 v] w (Grew base (Value.slice A n c).ownBlock (l ++ encN v) w) := by
  obtain ⟨i0, hi, hz0, hz1, hz2⟩ := info_parts info_u8
  have h0 : ¬ (v : Int) < 0 := by omega
  have h1 : ¬ (4611686018427387904 : Int) ≤ v := by omega
  have hlen := encN_len9 hv
  go_enter Try.func38, Try.ntmps38
  go_wp2
  go_loopw [0, 1] (fun b u wr => ∃ (A' : Option Addr) (n' c' q : Nat) (l' : List UInt8), b = .slice A' n' c' ∧ u = .int .i64 q ∧ q < 4611686018427387904 ∧ OwnB wr base A' n' c' l' ∧ l' ++ encN q = l ++ encN v ∧
      w.grownBy wr (Value.slice A n c).ownBlock ∧ RowOf w (Value.slice A n c).ownBlock (.slice A' n' c')) (fun _ u _ => (intOf u).toNat)
  case atStart => exact ⟨A, n, c, v, l, rfl, rfl, hv, hown, rfl, grown_refl _ _, .inl rfl⟩
  case round =>
    obtain ⟨A', n', c', q, l', rfl, rfl, hq, ho, hll, hg, hrow⟩ := hrel
    have hnn : n' + (encN q).length = n + (encN v).length := by
      have e1 := congrArg List.length hll
      simp only [List.length_append] at e1
      have e2 := OwnB.len ho
      have e3 := OwnB.len hown
      omega
    have hqp := encN_pos q
    have hlt := OwnB.len ho
    by_cases hb : 128 ≤ q
    · have hsize := (World.grownBy.size hg)
      have HL := Lib.hid (show (l' ++ [UInt8.ofNat (q % 128 + 128)]) ++ encN (q / 128) = l ++ encN v by
        rw [← hll, encN_big hb]; simp)
      have HM := Lib.hid (show [Value.int .u8 ((q : Int) % 128 + 128)] = [UInt8.ofNat (q % 128 + 128)].map bv by rw [List.map_cons, byte_more]; rfl)
      have HV := Lib.hid hv
      have hn2 : n' ≤ 1099511627800 := by omega
      have HB := Lib.hid hn2
      clear hll hv h1 hnn hlt hlen hqp hn hn2
      go_wp2_with (at_builtin
                   refine wpList_append_rd _ rfl _ _ 22 rfl base 5 i0 _ 1 Try.underlying22 hi hz0 hz1 hz2 rfl A' n' c' (l'.map bv) rfl (World.ownsRow.alloc ho _) (some ⟨wr.heap.size, 0, none⟩) 1 1 [.int .u8 ((q : Int) % 128 + 128)] rfl
                     (Rd.new wr [Value.int .u8 ((q : Int) % 128 + 128)] 5) (by simp [Value.oneCell']) (by have := HB.out; simp only [maxLen]; omega) (by have := HB.out; omega) (by simp; omega) ?_
                   intro A2 c2 w2 hown2 hg2 hrow2)
      go_roundw
      case rel =>
        refine ⟨A2, n' + 1, c2, q / 128, l' ++ [UInt8.ofNat (q % 128 + 128)], rfl, by go_num, by omega, ?_, HL.out, grown_trans hg (grown_trans (World.grownBy_alloc wr _ _) hg2 (.inl rfl)) ?_, ?_⟩
        · unfold OwnB; rw [List.map_append, ← HM.out]; exact hown2
        · rcases hrow with e | ⟨g, e, hge⟩
          · exact .inl e
          · right; intro g' e'; rw [e] at e'; injection e' with e'; omega
        · rcases hrow2 with e | e
          · rcases hrow with e' | ⟨g, e', hge⟩
            · exact .inl (e.trans e')
            · exact .inr ⟨g, e.trans e', hge⟩
          · exact .inr ⟨_, e, by simp; omega⟩
      case measure => simp [intOf]; omega
    · have hsize := (World.grownBy.size hg)
      have HL := Lib.hid (show l' ++ [UInt8.ofNat q] = l ++ encN v by rw [← hll, encN_small (by omega)])
      have HM := Lib.hid (show [Value.int .u8 (q : Int)] = [UInt8.ofNat q].map bv by rw [List.map_cons, byte_small (by omega)]; rfl)
      have hn2 : n' ≤ 1099511627800 := by omega
      have HB := Lib.hid hn2
      clear hll hv h1 hnn hlt hlen hqp hn hn2
      go_wp2_with (at_builtin
                   refine wpList_append_rd _ rfl _ _ 22 rfl base 5 i0 _ 1 Try.underlying22 hi hz0 hz1 hz2 rfl A' n' c' (l'.map bv) rfl (World.ownsRow.alloc ho _) (some ⟨wr.heap.size, 0, none⟩) 1 1 [.int .u8 (q : Int)] rfl
                     (Rd.new wr [Value.int .u8 (q : Int)] 5) (by simp [Value.oneCell']) (by have := HB.out; simp only [maxLen]; omega) (by have := HB.out; omega) (by simp; omega) ?_
                   intro A2 c2 w2 hown2 hg2 hrow2)
      go_ret2
      refine ⟨A2, n' + 1, c2, rfl, ?_, grown_trans hg (grown_trans (World.grownBy_alloc wr _ _) hg2 (.inl rfl)) ?_, ?_⟩
      · unfold OwnB; rw [← HL.out, List.map_append, ← HM.out]; exact hown2
      · rcases hrow with e | ⟨g, e, hge⟩
        · exact .inl e
        · right; intro g' e'; rw [e] at e'; injection e' with e'; omega
      · rcases hrow2 with e | e
        · rcases hrow with e' | ⟨g, e', hge⟩
          · exact .inl (e.trans e')
          · exact .inr ⟨g, e.trans e', hge⟩
        · exact .inr ⟨_, e, by simp; omega⟩

theorem num_bad (v : Int) (w : World) (hv : v < 0 ∨ 4611686018427387904 ≤ v) : Calls Try.prog 14 #[.int .i64 v] w (Err2 10 w) := by
  have h : Calls Try.prog 38 #[.slice none 0 0, .int .i64 v] w (Err2 10 w) := by
    rcases hv with h | h
    · exact appendNum_low _ _ _ v w h
    · exact appendNum_high _ _ _ v w h
  clear hv
  have H := Lib.hid h
  clear h
  go_enter Try.func14, Try.ntmps14
  go_wp2_with fail
  refine H.out.mono ?_
  rintro e w' ⟨rfl, rfl⟩
  go_wp2_with fail
  go_ret2
  exact ⟨rfl, rfl⟩

/-- new bytes and no error: all else is as it was -/
def Fresh2 (base : Nat) (l : List UInt8) (w : World) (e : Ending) (w' : World) : Prop :=
  ∃ A n c, e = .returned (.tuple #[.slice A n c, .int .i64 0]) ∧ OwnB w' base A n c l ∧ Below w.heap.size w w'

theorem num_ok (v : Nat) (w : World) (hv : v < 4611686018427387904) : Calls Try.prog 14 #[.int .i64 v] w (Fresh2 w.heap.size (encN v) w) := by
  have H := Lib.hid (appendNum_ok none 0 0 [] w.heap.size v w hv (OwnB.nil_ _ _) (by omega) (Nat.le_refl _))
  clear hv
  go_enter Try.func14, Try.ntmps14
  go_wp2_with fail
  refine H.out.mono ?_
  rintro e w' ⟨A, n, c, rfl, ho, hg, _⟩
  go_wp2_with fail
  go_ret2
  exact ⟨A, n, c, rfl, ho, below_of_grown hg (Nat.le_refl _) (by simp [Value.ownBlock])⟩
end Go.Proofs.Ytgniocgcfldiaaa
