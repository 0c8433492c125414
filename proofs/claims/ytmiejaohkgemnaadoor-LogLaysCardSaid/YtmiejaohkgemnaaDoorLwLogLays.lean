/-
  LogLays: the walk.
-/
import Derived.Test.YtmiejaohkgemnaaDoorLogKeep
import Derived.Test.YtmiejaohkgemnaaDoorLogLays
namespace Go.Proofs.YtmiejaohkgemnaaDoor
open Go.RowKit
open Pk Sh
set_option linter.unusedVariables false
set_option maxRecDepth 100000

namespace Lg
/-- so many records, added one by one -/
def qj (a : List (List UInt8)) (k : Nat) : PL := ⟨⟨-1, whole 1 0 (a.take k), [], H0.length, 0⟩, 0, 1, 0, a.take k⟩
theorem qj_zero (a : List (List UInt8)) : qj a 0 = L0 := rfl
/-- LogLays' log: laid anew behind the middle one -/
def ql (a : List (List UInt8)) (mid k : Nat) : PL := ⟨⟨-1, whole 1 0 (a.take (mid + 1)), whole 2 (mid + 1) (a.take k), H0.length, (whole 2 (mid + 1) (a.take (mid + 1))).length⟩, 1, 2, mid + 1, a.take k⟩
def ll (a : List (List UInt8)) (mid k : Nat) : PL := if k ≤ mid then qj a k else ql a mid k
/-- behind the k-th Add, ahead of the laying -/
def la (a : List (List UInt8)) (mid k : Nat) : PL := if k ≤ mid then qj a (k + 1) else ql a mid (k + 1)
section
variable {a : List (List UInt8)} {mid k : Nat}
theorem qj_add (hk : k < a.length) (hl : (a.getD k []).length ≤ 65536) : (qj a k).add [a.getD k []] = (qj a (k + 1), 0) := by
  have hlo : longs [a.getD k []] = false := longs_of (by simpa using hl)
  unfold qj
  rw [add0 hlo, take_snocD a [] k hk, whole_append, Nat.add_comm]
theorem ql_add (hk : k < a.length) (hl : (a.getD k []).length ≤ 65536) : (ql a mid k).add [a.getD k []] = (ql a mid (k + 1), 0) := by
  have hlo : longs [a.getD k []] = false := longs_of (by simpa using hl)
  unfold ql
  rw [add1 hlo, take_snocD a [] k hk, whole_append, Nat.add_comm 1 (a.take k).length]
theorem ll_add (hk : k < a.length) (hl : (a.getD k []).length ≤ 65536) : (ll a mid k).add [a.getD k []] = (la a mid k, 0) := by
  unfold ll la
  by_cases h : k ≤ mid
  · rw [if_pos h, if_pos h]; exact qj_add hk hl
  · rw [if_neg h, if_neg h]; exact ql_add hk hl
theorem la_next (h : k ≠ mid) : la a mid k = ll a mid (k + 1) := by
  unfold la ll
  by_cases h1 : k ≤ mid
  · rw [if_pos h1, if_pos (by omega)]
  · rw [if_neg h1, if_neg (by omega)]
theorem la_mid : la a mid mid = qj a (mid + 1) := by unfold la; rw [if_pos (Nat.le_refl _)]
theorem lay_mid (hk : mid < a.length) (hl : ∀ l ∈ a, l.length ≤ 65536) : (qj a (mid + 1)).lay (a.take (mid + 1)) = (ll a mid (mid + 1), 0) := by
  have hlo : longs (a.take (mid + 1)) = false := longs_of (fun l h => hl l (List.mem_of_mem_take h))
  have hlen : (a.take (mid + 1)).length = mid + 1 := by simp; omega
  unfold qj ll ql
  rw [layL0 hlo (Int.le_refl _), if_neg (by omega), hlen]
theorem qj_good (h : ∀ l ∈ a, l.length ≤ 65536) : Good (qj a k) := ⟨rfl, .inl rfl, Nat.le_refl _, (by show (1 : Nat) < _; omega), (by show (0 : Nat) < _; omega), Nat.zero_le _, fun l hl => h l (List.mem_of_mem_take hl)⟩
theorem ql_good (h : ∀ l ∈ a, l.length ≤ 65536) (hm : mid + 1 ≤ k) (hk : k ≤ a.length) (hn : a.length ≤ 3000) : Good (ql a mid k) :=
  ⟨rfl, .inr rfl, (by show 1 ≤ 2; omega), (by show (2 : Nat) < _; omega), (by show mid + 1 < _; omega), (by show mid + 1 ≤ (a.take k).length; rw [List.length_take]; omega), fun l hl => h l (List.mem_of_mem_take hl)⟩
theorem ll_len (hW : rowsW a ≤ 3000) (hm : mid ≤ 3000) : (ll a mid k).D.d0.length ≤ 39031 ∧ (ll a mid k).D.d1.length ≤ 39031 ∧ (la a mid k).D.d0.length ≤ 39031 ∧ (la a mid k).D.d1.length ≤ 39031 := by
  have hw : ∀ g n j, g ≤ 1000 → n ≤ 10000 → (whole g n (a.take j)).length ≤ 39031 := fun g n j hg hn => by
    have := whole_all g n (a.take j) [] hg hn (by have := rowsW_take a j; simp only [rowsW]; omega)
    rwa [List.append_nil] at this
  have hq : ∀ j, (qj a j).D.d0.length ≤ 39031 ∧ (qj a j).D.d1.length ≤ 39031 := fun j => ⟨hw 1 0 j (by omega) (by omega), by show (0 : Nat) ≤ _; omega⟩
  have hl : ∀ j, (ql a mid j).D.d0.length ≤ 39031 ∧ (ql a mid j).D.d1.length ≤ 39031 := fun j => ⟨hw 1 0 (mid + 1) (by omega) (by omega), hw 2 (mid + 1) j (by omega) (by omega)⟩
  unfold ll la
  split
  · exact ⟨(hq _).1, (hq _).2, (hq _).1, (hq _).2⟩
  · exact ⟨(hl _).1, (hl _).2, (hl _).1, (hl _).2⟩
theorem ll_list : (ll a mid k).list = a.take k ∧ (la a mid k).list = a.take (k + 1) := by
  unfold ll la
  split <;> exact ⟨rfl, rfl⟩
theorem ll_gen : (ll a mid k).gen ≤ 2 := by
  unfold ll
  split
  · show 1 ≤ 2; omega
  · show 2 ≤ 2; omega
/-- at the end, synced -/
def le (a : List (List UInt8)) : PL :=
  if a.length = 0 then L0 else ⟨⟨-1, whole 1 0 (a.take (a.length / 2 + 1)), whole 2 (a.length / 2 + 1) a, H0.length, (whole 2 (a.length / 2 + 1) a).length⟩, 1, 2, a.length / 2 + 1, a⟩
theorem le_sync : (ll a (a.length / 2) a.length).sync = (le a, 0) := by
  unfold ll le
  by_cases h : a.length = 0
  · have ha : a = [] := List.eq_nil_of_length_eq_zero h
    subst ha
    show (qj [] 0).sync = (L0, 0)
    unfold qj L0
    rw [sync0]
    rfl
  · rw [if_neg (by omega), if_neg h]
    unfold ql
    rw [sync1, List.take_length]
theorem le_list : (le a).list = a := by
  unfold le
  split
  · rename_i h; rw [List.eq_nil_of_length_eq_zero h]; rfl
  · rfl
theorem le_good (h : ∀ l ∈ a, l.length ≤ 65536) (hn : a.length ≤ 3000) : Good (le a) := by
  unfold le
  split
  · exact L0_good
  · refine ⟨rfl, .inr rfl, (by show 1 ≤ 2; omega), (by show (2 : Nat) < _; omega), (by show a.length / 2 + 1 < _; omega), (by show a.length / 2 + 1 ≤ a.length; omega), h⟩
theorem le_len (hW : rowsW a ≤ 3000) (hn : a.length ≤ 3000) : (le a).D.d0.length ≤ 39031 ∧ (le a).D.d1.length ≤ 39031 := by
  unfold le
  split
  · exact ⟨by have := H0_le; show H0.length ≤ _; omega, by show (0 : Nat) ≤ _; omega⟩
  · have h1 := whole_all 1 0 (a.take (a.length / 2 + 1)) [] (by omega) (by omega) (by have := rowsW_take a (a.length / 2 + 1); simp only [rowsW]; omega)
    have h2 := whole_all 2 (a.length / 2 + 1) a [] (by omega) (by omega) (by simp only [rowsW]; omega)
    rw [List.append_nil] at h1 h2
    exact ⟨h1, h2⟩
theorem lay_D {L : PL} {b : List (List UInt8)} (h : longs b = false) : (L.lay b).2 = (Lg.lay L.D (1 - L.a) (L.gen + 1) b).2 ∧ (L.lay b).1.D = (Lg.lay L.D (1 - L.a) (L.gen + 1) b).1 := by
  unfold PL.lay
  rw [if_neg (by simp [h])]
  split
  · rename_i hz; exact ⟨hz.symm, rfl⟩
  · exact ⟨rfl, rfl⟩
/-- the log that is cut off while it is laid, and what is found behind it -/
theorem lays_end {b : List (List UInt8)} {pw : Int} (hpw : 0 ≤ pw) (ha : ∀ l ∈ a, l.length ≤ 65536) (hn : a.length ≤ 3000) (hb : ∀ l ∈ b, l.length ≤ 65536) (hbn : b.length ≤ 3000) :
    ∃ c g nn, Good ⟨(le a).D.crash [] pw, c, g, nn, a⟩ ∧ Best ⟨(le a).D.crash [] pw, c, g, nn, a⟩ ∧ g ≤ 2 ∧ ∀ ks : List Int,
      ((lay ((le a).D.crash [] pw) (1 - c) (g + 1) b).2 = 0 ∧ Finds ((lay ((le a).D.crash [] pw) (1 - c) (g + 1) b).1.crash ks (-1)) b) ∨
      ((lay ((le a).D.crash [] pw) (1 - c) (g + 1) b).2 = 40 ∧ (Finds ((lay ((le a).D.crash [] pw) (1 - c) (g + 1) b).1.crash ks (-1)) a ∨ Finds ((lay ((le a).D.crash [] pw) (1 - c) (g + 1) b).1.crash ks (-1)) b)) := by
  by_cases h : a.length = 0
  · have e : a = [] := List.eq_nil_of_length_eq_zero h
    subst e
    have hle : le [] = L0 := rfl
    rw [hle]
    obtain ⟨j0, j1, q0, q1, q2, q3, e⟩ := crash_one (-1) pw H0 [] H0.length 0 [] (fine_mk (by omega) (by omega) (by omega) (by simp))
    have e' : L0.D.crash [] pw = ⟨pw, H0, [], H0.length, (0 : Nat)⟩ := by
      show PD.crash ⟨-1, H0, [], H0.length, 0⟩ [] pw = _
      rw [e, List.take_of_length_le (by omega), List.take_nil]
      rfl
    rw [e']
    refine ⟨0, 1, 0, ⟨rfl, .inl rfl, Nat.le_refl _, (by show (1 : Nat) < _; omega), (by show (0 : Nat) < _; omega), Nat.le_refl _, by simp⟩, .inl ⟨rfl, fun y hy => by cases hy⟩, by omega, fun ks => ?_⟩
    exact lay_crash1 (g := 1) (nn := 0) (a := []) (X := []) hpw (Nat.le_refl _) (by omega) (Nat.le_refl _) (by omega) (by simp) hb (by omega) (fun y hy => by cases hy)
  · have hle : le a = ⟨⟨-1, whole 1 0 (a.take (a.length / 2 + 1)), whole 2 (a.length / 2 + 1) a, H0.length, (whole 2 (a.length / 2 + 1) a).length⟩, 1, 2, a.length / 2 + 1, a⟩ := by unfold le; rw [if_neg h]
    rw [hle]
    have hwl : whole 1 0 (a.take (a.length / 2 + 1)) = H0 ++ frames 1 1 (a.take (a.length / 2 + 1)) := by rw [show whole 1 0 (a.take (a.length / 2 + 1)) = whole 1 0 ([] ++ a.take (a.length / 2 + 1)) from rfl, whole_append]; rfl
    obtain ⟨j0, j1, q0, q1, q2, q3, e⟩ := crash_one (-1) pw (whole 1 0 (a.take (a.length / 2 + 1))) (whole 2 (a.length / 2 + 1) a) H0.length (whole 2 (a.length / 2 + 1) a).length [] (fine_mk (by omega) (by rw [hwl, List.length_append]; omega) (by omega) (by omega))
    obtain ⟨i', t', hi', ht', hc'⟩ := whole_front 1 0 (a.take (a.length / 2 + 1)) j0 (fun l hl => ha l (List.mem_of_mem_take hl)) (by show H0.length ≤ j0; omega)
    have hg' := good_whole (g := 1) (n := 0) (ls := (a.take (a.length / 2 + 1)).take i') (t := t') (by omega) (by omega) (by omega) (by omega) (fun l hl => ha l (List.mem_of_mem_take (List.mem_of_mem_take hl))) hc'
    rw [← ht'] at hg'
    obtain ⟨X, hX⟩ : ∃ X, X = (whole 1 0 (a.take (a.length / 2 + 1))).take j0 := ⟨_, rfl⟩
    rw [← hX] at hg' e
    have hgX : ∀ y, good X = some y → y.gen < 2 := fun y hy => by
      rw [hg'] at hy
      injection hy with hy
      rw [← hy]
      show 1 < 2
      omega
    have e' : PD.crash ⟨-1, whole 1 0 (a.take (a.length / 2 + 1)), whole 2 (a.length / 2 + 1) a, H0.length, (whole 2 (a.length / 2 + 1) a).length⟩ [] pw = ⟨pw, X, whole 2 (a.length / 2 + 1) a, X.length, (whole 2 (a.length / 2 + 1) a).length⟩ := by
      rw [e, List.take_of_length_le (show (whole 2 (a.length / 2 + 1) a).length ≤ j1 by omega)]
    simp only
    rw [e']
    refine ⟨1, 2, a.length / 2 + 1, ⟨rfl, .inr rfl, (by show 1 ≤ 2; omega), (by show (2 : Nat) < _; omega), (by show a.length / 2 + 1 < _; omega), (by show a.length / 2 + 1 ≤ a.length; omega), ha⟩, .inr ⟨rfl, hgX⟩, by omega, fun ks => ?_⟩
    exact lay_crash0 (g := 2) (nn := a.length / 2 + 1) (a := a) (X := X) hpw (by omega) (by omega) (by omega) (by omega) ha hb (by omega) hgX
end
end Lg
set_option maxHeartbeats 6400000 in
theorem logLays_walk (w : World) (hT : Tab w) (v0 : Value) (a : List (List UInt8)) (h0 : InR w v0 a) (v1 : Value) (b : List (List UInt8)) (h1 : InR w v1 b) (p : Int) (hp : (Lit.int .i64 p).wf = true) (v3 : Value) (ks : List Int) (h3 : InIs w v3 ks) :
    Calls Tryd.prog 6 #[v0, v1, .int .i64 p, v3] w (Tr w) := by
  have h0' := h0
  have h1' := h1
  obtain ⟨A, n, c, rfl, hnc, hcm, hA, hAz⟩ := h0'
  obtain ⟨B, m, d, rfl, hmd, hdm, hB, hBz⟩ := h1'
  obtain ⟨⟨C, q, qc, rfl, hqc, hqm, hC, hCw, hCz⟩, hks⟩ := h3
  have HA0 := Lib.hid h0
  have HB0 := Lib.hid h1
  have HA := Lib.hid hA
  have HB := Lib.hid hB
  have HC := Lib.hid hC
  have HNA := Lib.hid (show a.length = n from hA.1)
  have HNB := Lib.hid (show b.length = m from hB.1)
  have HKQ := Lib.hid (show q ≤ 17592186044416 by have : ks.length = q := by simpa using hC.1
                                                  omega)
  have HKW := Lib.hid (show ∀ x ∈ ks, -9223372036854775808 ≤ x ∧ x ≤ 9223372036854775807 from fun x hx => wf_i64 (hCw x hx))
  have HT := Lib.hid hT
  have HAL := Lib.hid (alive5 w hT)
  have hp2 := i64_and7 p
  obtain ⟨pw, hpw⟩ : ∃ pw, pw = p % 8 := ⟨_, rfl⟩
  rw [← hpw] at hp2
  have HPW := Lib.hid (show 0 ≤ pw ∧ pw ≤ 7 by omega)
  clear h0 h1 hA hB hC hnc hcm hAz hmd hdm hBz hqc hqm hCw hCz hks hT hp hpw
  go_enter Tryd.func6, Tryd.ntmps6
  go_wp2_with fail
  refine HAL.out.mono ?_
  rintro e w1 ⟨rfl, hb1⟩
  have HB1 := Lib.hid hb1
  have HGR := Lib.hid (great_two A B n c m d a b w1 (HA0.out.below hb1) (HB0.out.below hb1))
  clear hb1 HAL
  go_wp2_with fail
  refine HGR.out.mono ?_
  rintro e w2 ⟨gr, rfl, hgr, hw2⟩
  have HB2 := Lib.hid (show Below w.heap.size w w2 by rw [hw2]; exact HB1.out.alloc HB1.out.size _)
  clear hw2 HGR HB1
  cases gr
  · have hW := hgr rfl
    have HW := Lib.hid hW
    have hal : ∀ l ∈ a, l.length ≤ 65536 := fun l hl => by have := rows_each (show rowsW a ≤ 3000 by omega) l hl; omega
    have hbl : ∀ l ∈ b, l.length ≤ 65536 := fun l hl => by have := rows_each (show rowsW b ≤ 3000 by omega) l hl; omega
    have hla := rows_len a
    have hlb := rows_len b
    have HALL := Lib.hid (And.intro hal hbl)
    have HLEN := Lib.hid (show a.length ≤ 3000 ∧ b.length ≤ 3000 by omega)
    have HLB := Lib.hid (Lg.longs_of hbl)
    obtain ⟨mid, hmid⟩ : ∃ mid, mid = a.length / 2 := ⟨_, rfl⟩
    have HMID := Lib.hid hmid
    have HLL := Lib.hid (fun k => Lg.ll_len (a := a) (mid := mid) (k := k) (by omega) (by omega))
    have HN := Lib.hid (disk_new (-1) w2 (by omega))
    clear hgr hW hal hbl hla hlb hmid
    go_wp2_with fail
    refine HN.out.mono ?_
    rintro e w3 hm
    obtain ⟨gd, F3, rfl, hon, _, _⟩ := Made.on HB2.out HB2.out.size hm
    have hop := log_open gd (PD.new (-1)) F3 w3 hon.dk (Tab.on HT.out hon HT.out.1) (below_pos hon HT.out.1) (by simp [PD.new]) (by simp [PD.new])
    rw [Lg.opn_new] at hop
    have HOP := Lib.hid hop
    have HON := Lib.hid hon
    clear hm hon hop HN HB2
    go_wp2_with fail
    refine HOP.out.mono ?_
    rintro e w4 ho
    rcases HON.out.open_ ho with ⟨hz, _⟩ | ⟨_, g, F4, rfl, hl4, _⟩
    · exact absurd rfl hz
    have HAT := Lib.hid (show ∃ F, LOn w.heap.size w w4 F gd g (Lg.ll a mid 0) from ⟨F4, by unfold Lg.ll; rw [if_pos (Nat.zero_le _)]; exact hl4⟩)
    clear ho hl4 HOP HON
    go_wp2_with fail
    go_loopw [12] (fun i wr => ∃ (k : Nat) (F : Nat → Prop), k ≤ n ∧ i = .int .i64 (k : Nat) ∧ LOn w.heap.size w wr F gd g (Lg.ll a mid k)) (fun i _ => n - (intOf i).toNat)
    case atStart =>
      obtain ⟨F, h⟩ := HAT.out
      exact ⟨0, F, Nat.zero_le _, rfl, h⟩
    case round =>
      clear HAT
      obtain ⟨k, F, hk, rfl, hl⟩ := hrel
      by_cases hlt : k < n
      · have hka : k < a.length := by rw [HNA.out]; exact hlt
        obtain ⟨x, E, e, rfl, hbx, hc, hd1, hd2, hr, _⟩ := (HA.out.below hl.be).at_ hlt
        have hmem := HALL.out.1 _ (getD_mem (d := ([] : List UInt8)) hka)
        have hrw := rows_each (show rowsW a ≤ 3000 by have := HW.out; omega) _ (getD_mem (d := ([] : List UInt8)) hka)
        have had := Lg.ll_add (mid := mid) hka hmem
        generalize a.getD k [] = z at *
        have HCB := Lib.hid (copyBytes_any E z.length e z wr hr (by omega))
        have HL := Lib.hid hl
        have HADP := Lib.hid had
        have HZ := Lib.hid hrw
        have HLT := Lib.hid hlt
        have e1 : (0 : Int) ≤ (k : Int) := by omega
        have e2 : (k : Int) < (n : Int) := by omega
        have w1' : IntKind.i64.wrap ((k : Int) + 1) = (k : Int) + 1 := by have := HLEN.out; have := HNA.out; simp only [IntKind.wrap, IntKind.bits, IntKind.signed]; simp; omega
        clear hbx hd1 hd2 hr hmem hrw had hl hka hlt
        go_wp2_with fail
        refine HCB.out.mono ?_
        rintro e w8 ⟨A8, n8, c8, rfl, ho8, hb8⟩
        have hn8 : z.length = n8 := ho8.len
        subst hn8
        have hl8 := HL.out.kept hb8
        have hro := rows_off_1 (F := F) (Sl.own ho8) (fun y ey _ hf => by have h1 := HL.out.lt _ hf; have h2 := own_block_at ho8 y ey; omega) hl8.lt w8.heap.size rfl
        have hl9 := hl8.alloc (.cells #[.slice A8 z.length c8] 32)
        have hfl := Lg.frames_le (Lg.ll a mid k).gen ((Lg.ll a mid k).list.length + 1) [z] (by have := HZ.out; simp; omega)
        simp only [rowsW] at hfl
        have hpc : (Lg.ll a mid k).list.length ≤ 6000 := by
          rw [Lg.ll_list.1, List.length_take]
          have := HLEN.out; omega
        have hpl := HLL.out k
        have hgn := Lg.ll_gen (a := a) (mid := mid) (k := k)
        have hadd := add_any gd g (Lg.ll a mid k) F (some ⟨w8.heap.size, 0, none⟩) 1 1 [z] _ hl9.lo hro (by omega) (by omega) (by omega) (by have := HZ.out; omega) (by have := HZ.out; omega)
        rw [HADP.out] at hadd
        have HADD := Lib.hid hadd
        have HL9 := Lib.hid hl9
        clear ho8 hb8 hl8 hro hl9 hfl hpc hpl hgn hadd HCB
        go_wp2_with fail
        refine HADD.out.mono ?_
        rintro e w10 hd
        obtain ⟨rfl, F10, hl10, _, _⟩ := HL9.out.did hd
        have HL10 := Lib.hid hl10
        clear hd hl10 HADD HL9
        have wq : IntKind.i64.wrap ((n : Int) / 2) = (mid : Int) := by have := HMID.out; have := HNA.out; have := HLEN.out; simp only [IntKind.wrap, IntKind.bits, IntKind.signed]; simp; omega
        by_cases hkm : k = mid
        · have hl11 : LOn w.heap.size w w10 F10 gd g (Lg.qj a (mid + 1)) := by have := HL10.out; rwa [hkm, Lg.la_mid] at this
          have hsz := (HLL.out mid).2.2
          rw [Lg.la_mid] at hsz
          have HSZ := Lib.hid hsz
          have HRC := Lib.hid (records_any gd g (Lg.qj a (mid + 1)) F10 w10 hl11.lo (Lg.qj_good HALL.out.1) (by omega) (by omega) (by show (a.take (mid + 1)).length ≤ _; rw [List.length_take]; have := HLEN.out; omega))
          have HL11 := Lib.hid hl11
          have HKM := Lib.hid hkm
          have y5 : (k : Int) = (mid : Int) := by omega
          clear hl11 hsz hkm HL10
          go_wp2_with fail
          refine HRC.out.mono ?_
          rintro e w11 ⟨A11, n11, c11, rfl, hr11, hb11⟩
          have hr11' : OwnRs w11 w10.heap.size A11 n11 c11 (a.take (mid + 1)) := hr11
          have hl12 := HL11.out.kept hb11
          have hwl := Lg.whole_all 2 (a.take (mid + 1)).length (a.take (mid + 1)) [] (by omega) (by rw [List.length_take]; have := HLEN.out; omega) (by have := rowsW_take a (mid + 1); have := HW.out; simp only [rowsW]; omega)
          rw [List.append_nil] at hwl
          have hla := lay_any gd g (Lg.qj a (mid + 1)) F10 A11 n11 c11 (a.take (mid + 1)) w11 hl12.lo (hr11'.off' HL11.out.lt) (by show (0 : Int) ≤ 0 ∧ (0 : Int) ≤ 1; omega) (by show 1 + 1 < _; omega) (by rw [← hr11'.1, List.length_take]; have := HLEN.out; omega)
            (by show _ + (Lg.whole 2 (a.take (mid + 1)).length (a.take (mid + 1))).length ≤ _; have := HSZ.out; omega) (by show _ + (Lg.whole 2 (a.take (mid + 1)).length (a.take (mid + 1))).length ≤ _; have := HSZ.out; omega)
          rw [Lg.lay_mid (by have := HKM.out; have := HLT.out; have := HNA.out; omega) HALL.out.1] at hla
          have HLA := Lib.hid hla
          have HL12 := Lib.hid hl12
          clear hr11 hr11' hb11 hl12 hwl hla HRC HL11
          go_wp2_with fail
          refine HLA.out.mono ?_
          rintro e w12 hd
          obtain ⟨rfl, F12, hl13, _, _⟩ := HL12.out.did hd
          have HL13 := Lib.hid hl13
          have wm : IntKind.i64.wrap ((mid : Int) + 1) = (mid : Int) + 1 := by rw [← y5]; exact w1'
          clear hd hl13 HLA HL12
          go_wp2_with fail
          go_roundw
          case rel => exact ⟨k + 1, F12, by have := HLT.out; omega, by rw [HKM.out]; go_num, by rw [HKM.out]; exact HL13.out⟩
          case measure => have := HLT.out; have := HKM.out; simp [intOf]; omega
        · have HL11 := Lib.hid (show LOn w.heap.size w w10 F10 gd g (Lg.ll a mid (k + 1)) by have := HL10.out; rwa [Lg.la_next hkm] at this)
          have y5 : ¬ (k : Int) = (mid : Int) := by omega
          have y6 : ((k : Int) == (mid : Int)) = false := by rw [beq_eq_false_iff_ne]; exact y5
          clear hkm HL10
          go_wp2_with fail
          go_roundw
          case rel => exact ⟨k + 1, F10, by have := HLT.out; omega, by go_num, HL11.out⟩
          case measure => have := HLT.out; simp [intOf]; omega
      · have hkm : k = a.length := by rw [HNA.out]; omega
        subst hkm
        have y4 : ¬ ((a.length : Nat) : Int) < (n : Int) := by have := HNA.out; omega
        have hsy := sync_log gd g (Lg.ll a mid a.length) F wr hl.lo
        rw [HMID.out, Lg.le_sync] at hsy
        have HSY := Lib.hid (show Calls Tryd.prog 19 #[.pointer (some ⟨g, 0, none⟩)] wr (LDid F gd g (Lg.le a, 0) wr) from hsy)
        have hle := Lg.le_len (a := a) (by have := HW.out; omega) HLEN.out.1
        have HLE := Lib.hid hle
        have HLG := Lib.hid (Lg.le_good HALL.out.1 HLEN.out.1)
        have HL := Lib.hid hl
        clear hlt hk hl hsy hle HLL
        go_wp2_with fail
        refine HSY.out.mono ?_
        rintro e w12 hd
        obtain ⟨rfl, F12, hl, _, _⟩ := HL.out.did hd
        have HRC := Lib.hid (records_any gd g (Lg.le a) F12 w12 hl.lo HLG.out (by have := HLE.out; omega) (by have := HLE.out; omega) (by rw [Lg.le_list]; have := HLEN.out; omega))
        have HL := Lib.hid hl
        clear hd hl HSY
        go_wp2_with fail
        refine HRC.out.mono ?_
        rintro e w13 ⟨A13, n13, c13, rfl, hr13, hb13⟩
        rw [Lg.le_list] at hr13
        have hbx := hr13.x HL.out.lt
        have hl := HL.out.kept hb13
        have HCR := Lib.hid (disk_crash gd (Lg.le a).D F12 none 0 0 [] pw w13 hl.lo.dk (Rd.nil_ _ _) (by simp [maxLen]) (by simp) (by have := HPW.out; omega) (by have := HLE.out; omega) (by have := HLE.out; omega))
        have HBX := Lib.hid hbx
        have HL := Lib.hid hl
        clear hr13 hb13 hbx hl HRC
        go_wp2_with fail
        refine HCR.out.mono ?_
        rintro e w14 hm
        obtain ⟨gc, F14, rfl, hon, hF14, hb14⟩ := Made.on HL.out.be HL.out.sz hm
        obtain ⟨cA, cg, cn, hgood, hbest, hg2, hend⟩ := Lg.lays_end (a := a) (b := b) (pw := pw) HPW.out.1 HALL.out.1 HLEN.out.1 HALL.out.2 HLEN.out.2
        have hln := (Lg.le a).D.len_crash [] pw
        obtain ⟨P2, hP2⟩ : ∃ P2, P2 = (Lg.le a).D.crash [] pw := ⟨_, rfl⟩
        rw [← hP2] at hon hgood hbest hend hln
        have HPL := Lib.hid (show P2.d0.length ≤ 39031 ∧ P2.d1.length ≤ 39031 by have := HLE.out; omega)
        have hop := log_open gc P2 F14 w14 hon.dk (Tab.on HT.out hon HT.out.1) (below_pos hon HT.out.1) (by have := HPL.out; omega) (by have := HPL.out; omega)
        rw [show Lg.opn P2 = (⟨P2, cA, cg, cn, a⟩, 0) from Lg.opn_self hgood hbest] at hop
        have HBX := Lib.hid ((HBX.out.less (F' := F14) (fun i hi => .inr (hF14 i hi))).below hb14)
        have HOP := Lib.hid hop
        have HON := Lib.hid hon
        have HGOOD := Lib.hid hgood
        have HG2 := Lib.hid hg2
        have HEND := Lib.hid hend
        clear hm hon hF14 hb14 hgood hbest hg2 hend hln hP2 hop HCR HL
        go_wp2_with fail
        refine HOP.out.mono ?_
        rintro e w15 ho
        rcases HON.out.open_ ho with ⟨hz, _⟩ | ⟨_, gk, F15, rfl, hl, hF15, hc15, hg15⟩
        · exact absurd rfl hz
        have HBX := Lib.hid (HBX.out.step (F' := fun i => F15 i ∨ i = gk) hc15 (fun i hi => hi.elim (hF15 i) (fun e => .inr (e ▸ hg15))))
        have HCB := Lib.hid (copyRows_any B m d b w15 (HB.out.below hl.be) (by have := HW.out; rw [total_rowsW]; omega))
        have HL := Lib.hid hl
        clear ho hl hF15 hc15 hg15 HOP HON
        go_wp2_with fail
        refine HCB.out.mono ?_
        rintro e w16 ⟨A16, n16, c16, rfl, hr16, hb16⟩
        have hn16 : n16 = m := by rw [← hr16.1]; exact HNB.out
        subst hn16
        have hl := HL.out.kept hb16
        have hwl := Lg.whole_all (cg + 1) b.length b [] (by have := HG2.out; omega) (by have := HLEN.out; omega) (by have := HW.out; simp only [rowsW]; omega)
        rw [List.append_nil] at hwl
        have hla := lay_any gc gk ⟨P2, cA, cg, cn, a⟩ F15 A16 n16 c16 b w16 hl.lo (hr16.off' HL.out.lt) (by rcases HGOOD.out.a with e | e <;> (have e' : cA = _ := e; show 0 ≤ cA ∧ cA ≤ 1; omega)) (by show cg + 1 < _; have := HG2.out; omega) (by have := HLEN.out; have := HNB.out; omega)
          (by show P2.d0.length + (Lg.whole (cg + 1) b.length b).length ≤ _; have := HPL.out; omega) (by show P2.d1.length + (Lg.whole (cg + 1) b.length b).length ≤ _; have := HPL.out; omega)
        have hlD := Lg.lay_D (L := ⟨P2, cA, cg, cn, a⟩) HLB.out
        have hll := Lg.len_lay P2 (1 - cA) (cg + 1) b
        obtain ⟨rl, hrl⟩ : ∃ rl, rl = Lg.PL.lay ⟨P2, cA, cg, cn, a⟩ b := ⟨_, rfl⟩
        obtain ⟨ry, hry⟩ : ∃ ry, ry = Lg.lay P2 (1 - cA) (cg + 1) b := ⟨_, rfl⟩
        simp only at hlD
        rw [← hrl, ← hry] at hlD
        rw [← hrl] at hla
        rw [← hry] at hll HEND
        have HLA := Lib.hid hla
        have HLD := Lib.hid hlD
        have HRL := Lib.hid (show rl.1.D.d0.length ≤ 90000 ∧ rl.1.D.d1.length ≤ 90000 by rw [hlD.2]; have := HPL.out; omega)
        have HBX := Lib.hid (HBX.out.below hb16)
        have HL := Lib.hid hl
        clear hr16 hb16 hl hwl hla hlD hll hrl hry HCB
        go_wp2_with fail
        refine HLA.out.mono ?_
        rintro e w17 hd
        obtain ⟨rfl, F17, hl, hF17, hc17⟩ := HL.out.did hd
        have HBX := Lib.hid (HBX.out.step (F' := F17) hc17 (fun i hi => (hF17 i hi).imp .inl id))
        have HCI := Lib.hid (copyInts_big C q qc ks w17 (HC.out.below hl.be) HKQ.out)
        have HL := Lib.hid hl
        clear hd hl hF17 hc17 HLA
        go_wp2_with fail
        refine HCI.out.mono ?_
        rintro e w18 ⟨⟨A18, c18, rfl, ho⟩, hb18⟩
        have hl := HL.out.kept hb18
        have hcr := disk_crash gc rl.1.D F17 A18 q c18 ks (-1) w18 hl.lo.dk ho.rd (by have := HKQ.out; simp only [maxLen]; omega) HKW.out (by omega) (by have := HRL.out; omega) (by have := HRL.out; omega)
        have hln := rl.1.D.len_crash ks (-1)
        have hen := HEND.out ks
        rw [← HLD.out.1, ← HLD.out.2] at hen
        obtain ⟨P3, hP3⟩ : ∃ P3, P3 = rl.1.D.crash ks (-1) := ⟨_, rfl⟩
        rw [← hP3] at hcr hln hen
        have HCR := Lib.hid hcr
        have HPL := Lib.hid (show P3.d0.length ≤ 90000 ∧ P3.d1.length ≤ 90000 by have := HRL.out; omega)
        have HEN := Lib.hid hen
        have HBX := Lib.hid (HBX.out.below hb18)
        have HL := Lib.hid hl
        clear ho hb18 hl hcr hln hen hP3 HCI HEND
        go_wp2_with fail
        refine HCR.out.mono ?_
        rintro e w19 hm
        obtain ⟨gf, F19, rfl, hon, hF19, hb19⟩ := Made.on HL.out.be HL.out.sz hm
        have hop := log_open gf P3 F19 w19 hon.dk (Tab.on HT.out hon HT.out.1) (below_pos hon HT.out.1) (by have := HPL.out; omega) (by have := HPL.out; omega)
        have HBX := Lib.hid ((HBX.out.less (F' := F19) (fun i hi => .inr (hF19 i hi))).below hb19)
        have HOP := Lib.hid hop
        have HON := Lib.hid hon
        clear hm hon hF19 hb19 hop HCR HL
        have hfz : ∃ l, Lg.Finds P3 l ∧ ((rl.2 = 0 ∧ l = b) ∨ (rl.2 = 40 ∧ (l = a ∨ l = b))) := by
          rcases HEN.out with ⟨h1, h2⟩ | ⟨h1, h2 | h2⟩
          · exact ⟨b, h2, .inl ⟨h1, rfl⟩⟩
          · exact ⟨a, h2, .inr ⟨h1, .inl rfl⟩⟩
          · exact ⟨b, h2, .inr ⟨h1, .inr rfl⟩⟩
        obtain ⟨l, hfl, hwhich⟩ := hfz
        have HFL := Lib.hid hfl
        have HWH := Lib.hid hwhich
        clear hfl hwhich
        go_wp2_with fail
        refine HOP.out.mono ?_
        rintro e w20 ho
        rcases HON.out.open_ ho with ⟨hz, _⟩ | ⟨_, gx, F20, rfl, hl, hF20, hc20, _⟩
        · exact absurd HFL.out.1 hz
        have hgd := Lg.opn_good HFL.out.1
        have hsz := Lg.len_opn P3
        have hli := Lg.list_le hgd
        have hdl := PD.data_le (P := (Lg.opn P3).1.D) (N := 90031) (by have := HPL.out; omega) (by have := HPL.out; omega) (Lg.opn P3).1.a
        have HBX := Lib.hid (HBX.out.step hc20 hF20)
        have HRC := Lib.hid (records_any gf gx (Lg.opn P3).1 F20 w20 hl.lo hgd (by have := HPL.out; omega) (by have := HPL.out; omega) (by omega))
        have HLN := Lib.hid (show l.length ≤ 20000 by rw [← HFL.out.2]; omega)
        have HL := Lib.hid hl
        clear ho hl hF20 hc20 hgd hsz hli hdl HOP HON
        go_wp2_with fail
        refine HRC.out.mono ?_
        rintro e w21 ⟨A21, n21, c21, rfl, hr21, hb21⟩
        rw [HFL.out.2] at hr21
        have HBX := Lib.hid (HBX.out.below hb21)
        have hl := HL.out.kept hb21
        have HSB := Lib.hid (fun k => sameRows_any A21 B n21 n16 c21 d (w21.drewN k) l b (hr21.drewN k).rd (HB.out.below (below_drewN hl.be k)) (by have h1 : l.length = n21 := hr21.1; have := HLN.out; simp only [maxLen]; omega))
        have HSA := Lib.hid (sameRows_any A21 A13 n21 n13 c21 c13 w21 l a hr21.rd HBX.out.own.rd (by have h1 : l.length = n21 := hr21.1; have := HLN.out; simp only [maxLen]; omega))
        have HBE := Lib.hid hl.be
        clear hr21 hb21 hl HRC
        rcases HWH.out with ⟨hz, hlb⟩ | ⟨hz, hla | hlb⟩
        · have hd : decide (l = b) = true := by simp [hlb]
          rw [hd] at HSB
          rw [hz]
          clear hz hlb hd
          go_wp2_with fail
          refine (HSB.out 0).mono ?_
          rintro e w22 ⟨rfl, k22, rfl⟩
          go_wp2_with fail
          go_ret
          exact ⟨rfl, below_drewN HBE.out k22⟩
        · have hd : decide (l = a) = true := by simp [hla]
          rw [hd] at HSA
          rw [hz]
          clear hz hla hd
          go_wp2_with fail
          refine HSA.out.mono ?_
          rintro e w22 ⟨rfl, k22, rfl⟩
          go_wp2_with fail
          go_ret
          exact ⟨rfl, below_drewN HBE.out _⟩
        · have hd : decide (l = b) = true := by simp [hlb]
          rw [hd] at HSB
          rw [hz]
          clear hz hlb hd
          go_wp2_with fail
          refine HSA.out.mono ?_
          rintro e w22 ⟨rfl, k22, rfl⟩
          cases hda : decide (l = a)
          · go_wp2_with fail
            refine (HSB.out k22).mono ?_
            rintro e w23 ⟨rfl, k23, rfl⟩
            go_wp2_with fail
            go_ret
            exact ⟨rfl, below_drewN HBE.out _⟩
          · go_wp2_with fail
            go_ret
            exact ⟨rfl, below_drewN HBE.out _⟩
  · go_wp2_with fail
    go_ret
    exact ⟨rfl, HB2.out⟩
end Go.Proofs.YtmiejaohkgemnaaDoor
