import Derived.Test.YtgppclmofphlfaaGreatDoorPathLem
import Derived.Test.YtgppclmofphlfaaGreatDoorMBase
import Derived.Test.YtgppclmofphlfaaGreatDoorShelf
import Derived.Deep.CutRange
import Derived.Deep.RegionHeld3

/-
  Bytes and texts that are parts. Walks; no statement.
-/
namespace Go.Proofs.YtgppclmofphlfaaGreatDoor
set_option maxRecDepth 100000
open Go.RowKit
set_option linter.unusedVariables false

set_option maxHeartbeats 1600000 in
theorem inPart_any (x : UInt8) (w : World) : Calls Tryz.prog 109 #[.int .u8 (x.toNat : Int)] w fun e w' => e = .returned (.bool (pchar x)) ∧ w' = w := by
  have hP := Lib.hid (show pchar x = decide ((97 ≤ x.toNat ∧ x.toNat ≤ 122) ∨ (48 ≤ x.toNat ∧ x.toNat ≤ 57) ∨ x.toNat = 45 ∨ x.toNat = 95) from rfl)
  have hx : x.toNat < 256 := x.toNat_lt
  generalize hz : ((x.toNat : Nat) : Int) = z
  have h1 : (97 ≤ x.toNat) = (97 ≤ z) := by rw [← hz]; simp; omega
  have H1 := Lib.hid (show pchar x = decide ((97 ≤ z ∧ z ≤ 122) ∨ (48 ≤ z ∧ z ≤ 57) ∨ z = 45 ∨ z = 95) by
    rw [hP.out]; subst hz; congr 1; apply propext; omega)
  have hz0 : 0 ≤ z := by omega
  have hz1 : z < 256 := by omega
  clear h1 hz hP
  by_cases hv : (97 ≤ z ∧ z ≤ 122) ∨ (48 ≤ z ∧ z ≤ 57) ∨ z = 45 ∨ z = 95
  · have HF := Lib.hid (show pchar x = true by rw [H1.out]; exact decide_eq_true hv)
    clear H1
    by_cases c1 : 97 ≤ z <;> by_cases c2 : z ≤ 122 <;> by_cases c3 : 48 ≤ z <;> by_cases c4 : z ≤ 57 <;> by_cases c5 : z = 45 <;> by_cases c6 : z = 95 <;>
    first
    | (exfalso; omega)
    | (have c5' : (z == 45) = decide (z = 45) := rfl
       have c6' : (z == 95) = decide (z = 95) := rfl
       simp only [c5, c6, decide_false] at c5' c6'
       clear hv
       go_enter Tryz.func109, Tryz.ntmps109
       go_wp2_with fail
       go_ret
       exact ⟨ret_bool HF.out.symm, rfl⟩)
  · have HF := Lib.hid (show pchar x = false by rw [H1.out]; exact decide_eq_false hv)
    clear H1
    by_cases c1 : 97 ≤ z <;> by_cases c2 : z ≤ 122 <;> by_cases c3 : 48 ≤ z <;> by_cases c4 : z ≤ 57 <;> by_cases c5 : z = 45 <;> by_cases c6 : z = 95 <;>
    first
    | (exfalso; omega)
    | (have c5' : (z == 45) = decide (z = 45) := rfl
       have c6' : (z == 95) = decide (z = 95) := rfl
       simp only [c5, c6, decide_false] at c5' c6'
       clear hv
       go_enter Tryz.func109, Tryz.ntmps109
       go_wp2_with fail
       go_ret
       exact ⟨ret_bool HF.out.symm, rfl⟩)
set_option maxHeartbeats 1600000 in
theorem isPart_any (s : ByteArray) (w : World) : Calls Tryz.prog 97 #[.string s] w fun e w' => e = .returned (.bool (isPart s.data.toList)) ∧ w' = w := by
  obtain ⟨l, rfl⟩ : ∃ l : List UInt8, s = ⟨l.toArray⟩ := ⟨s.data.toList, (sv_of s).symm⟩
  show Calls _ _ _ _ fun e w' => e = .returned (.bool (isPart l)) ∧ w' = w
  by_cases hsz : 1 ≤ l.length ∧ l.length ≤ 16
  · have HP := Lib.hid (show isPart l = l.all pchar by rw [isPart_eq, decide_eq_true hsz, Bool.and_true])
    obtain ⟨hs1, hs2⟩ := hsz
    go_enter Tryz.func97, Tryz.ntmps97
    go_wp2_with fail
    go_loop [14] (fun i => ∃ k : Nat, k ≤ l.length ∧ i = .int .i64 k ∧ (l.take k).all pchar = true) (fun i => l.length - (intOf i).toNat)
    case atStart => exact ⟨0, by omega, rfl, by simp⟩
    case round =>
      obtain ⟨k, hk, rfl, hall⟩ := hrel
      have HA := Lib.hid hall
      clear hall
      by_cases hlt : k < l.length
      · have HS := Lib.hid (show l.take (k + 1) = l.take k ++ [l[k]] from List.take_succ_eq_append_getElem hlt)
        have HC := Lib.hid (fun W => inPart_any l[k] W)
        cases hp : pchar l[k] with
        | true =>
          have HPC := Lib.hid hp
          rw [hp] at HC
          clear hp
          go_wp2_with (first | (go_at_call 109; refine (HC.out _).mono ?_; rintro e w' ⟨rfl, rfl⟩))
          refine ⟨⟨k + 1, by omega, by go_num, ?_⟩, by simp [intOf]; omega⟩
          rw [HS.out, List.all_append, HA.out]
          simp [HPC.out]
        | false =>
          have HF := Lib.hid (show isPart l = false by
            rw [HP.out, List.all_eq_false]
            exact ⟨l[k], List.getElem_mem hlt, by rw [hp]; simp⟩)
          rw [hp] at HC
          clear hp
          go_wp2_with (first | (go_at_call 109; refine (HC.out _).mono ?_; rintro e w' ⟨rfl, rfl⟩))
          go_ret
          exact ⟨ret_bool HF.out.symm, rfl⟩
      · obtain rfl : k = l.length := by omega
        have HF := Lib.hid (show isPart l = true by have := HA.out; rw [List.take_length] at this; rw [HP.out, this])
        go_wp2_with fail
        go_ret
        exact ⟨ret_bool HF.out.symm, rfl⟩
  · have HP := Lib.hid (show isPart l = false by rw [isPart_eq, decide_eq_false hsz, Bool.and_false])
    have h2 : l.length < 1 ∨ 16 < l.length := by omega
    clear hsz
    rcases h2 with h2 | h2
    · go_enter Tryz.func97, Tryz.ntmps97
      go_wp2_with fail
      go_ret
      exact ⟨ret_bool HP.out.symm, rfl⟩
    · have h3 : ¬ l.length < 1 := by omega
      go_enter Tryz.func97, Tryz.ntmps97
      go_wp2_with fail
      go_ret
      exact ⟨ret_bool HP.out.symm, rfl⟩
set_option maxHeartbeats 1600000 in
theorem areParts_any (A : Option Addr) (n c : Nat) (ls : List (List UInt8)) (w : World) (h : RdT w A n ls) (hn : n ≤ maxLen) :
    Calls Tryz.prog 84 #[.slice A n c] w fun e w' => e = .returned (.bool (ls.all isPart)) ∧ w' = w := by
  unfold maxLen at hn
  have HL := Lib.hid h.len
  go_enter Tryz.func84, Tryz.ntmps84
  go_wp2_with fail
  go_loop [7] (fun i => ∃ k : Nat, k ≤ n ∧ i = .int .i64 k ∧ (ls.take k).all isPart = true) (fun i => n - (intOf i).toNat)
  case atStart => exact ⟨0, by omega, rfl, by simp⟩
  case round =>
    obtain ⟨k, hk, rfl, hall⟩ := hrel
    have HA := Lib.hid hall
    clear hall
    by_cases hlt : k < n
    · obtain ⟨a, rfl, hb, hc⟩ := h.at_ hlt
      have HS := Lib.hid (show ls.take (k + 1) = ls.take k ++ [ls.getD k []] from take_snocD ls [] k (by rw [HL.out]; exact hlt))
      have HM := Lib.hid (show ls.getD k [] ∈ ls from getD_mem (by rw [HL.out]; exact hlt))
      generalize ls.getD k [] = x at *
      have HC := Lib.hid (fun W => isPart_any ⟨x.toArray⟩ W)
      have e1 : (0 : Int) ≤ (k : Int) := by omega
      have e2 : (k : Int) < (n : Int) := by omega
      cases hp : isPart x with
      | true =>
        have HPC := Lib.hid hp
        replace HC := Lib.hid (fun W => show Calls _ _ _ W fun e w' => e = .returned (.bool true) ∧ w' = W by rw [← HPC.out]; exact HC.out W)
        clear hp
        go_wp2_with (first | (go_at_call 97; refine (HC.out _).mono ?_; rintro e w' ⟨rfl, rfl⟩))
        refine ⟨⟨k + 1, by omega, by go_num, ?_⟩, by simp [intOf]; omega⟩
        rw [HS.out, List.all_append, HA.out]
        simp [HPC.out]
      | false =>
        have HPC := Lib.hid hp
        replace HC := Lib.hid (fun W => show Calls _ _ _ W fun e w' => e = .returned (.bool false) ∧ w' = W by rw [← HPC.out]; exact HC.out W)
        have HF := Lib.hid (show ls.all isPart = false by
          rw [List.all_eq_false]
          exact ⟨x, HM.out, by rw [hp]; simp⟩)
        clear hp
        go_wp2_with (first | (go_at_call 97; refine (HC.out _).mono ?_; rintro e w' ⟨rfl, rfl⟩))
        go_ret
        exact ⟨ret_bool HF.out.symm, rfl⟩
    · obtain rfl : k = n := by omega
      have HF := Lib.hid (show ls.all isPart = true by have := HA.out; rw [List.take_of_length_le (by rw [HL.out]; exact Nat.le_refl _)] at this; exact this)
      go_wp2_with fail
      go_ret
      exact ⟨ret_bool HF.out.symm, rfl⟩
end Go.Proofs.YtgppclmofphlfaaGreatDoor

/-
  Splitting at slashes; what is a path. Walks; no statement.
-/
namespace Go.Proofs.YtgppclmofphlfaaGreatDoor
set_option maxRecDepth 100000
open Go.RowKit
set_option linter.unusedVariables false

def SplitP (ls : List (List UInt8)) (w : World) (e : Ending) (w' : World) : Prop :=
  Below w.heap.size w w' ∧ ∃ A n c, e = .returned (.slice A n c) ∧ n ≤ 4294967296 ∧ OwnT w' w.heap.size A n c ls
theorem splits_any (x : ByteArray) (r : List UInt8) (w : World) (hE : Env w) (hx : x.data.toList = r) (hr : r.length < 64) : Calls Tryz.prog 98 #[.string x, .string ⟨#[47]⟩] w (SplitP (pieces r) w) := by
  obtain ⟨⟨m, hm⟩, _⟩ := hE
  have hsz : x.size < 4294967281 := by rw [Lib.size_eq, hx]; omega
  refine (Tryz.strings_Split x ⟨#[47]⟩ m w hsz hm (by decide)).mono ?_
  rintro e w' ⟨he, rfl⟩
  have hp := splitB_pieces x
  have hn := Lib.splitB_all ⟨#[47]⟩ (by decide) 0 _ x rfl
  have hle := Lib.countB_le ⟨#[47]⟩ (by decide) _ x (Nat.le_refl _)
  have hpl : (pieces r).length = Lib.countB x ⟨#[47]⟩ + 1 := by rw [← hx, ← hp, List.length_map, hn]
  have ho := own_new w (pieces r) (by unfold maxLen; omega)
  rw [texts_of, hp, hx]
  rw [hpl] at ho
  exact ⟨(Below.refl _ _).alloc (Nat.le_refl _) _, _, _, _, he, by omega, ho⟩
set_option maxHeartbeats 1600000 in
theorem split_any (r : List UInt8) (w : World) (hE : Env w) (hr : r.length < 64) : Calls Tryz.prog 85 #[.string ⟨(47 :: r).toArray⟩] w (SplitP (parted r) w) := by
  by_cases h0 : r = []
  · subst h0
    go_enter Tryz.func85, Tryz.ntmps85
    go_wp2_with fail
    go_ret
    exact ⟨Below.refl _ _, none, 0, 0, rfl, by omega, OwnT.nil_ _ _⟩
  · have he : r.isEmpty = false := by simpa using h0
    have HP := Lib.hid (show parted r = pieces r by unfold parted; rw [if_neg h0])
    have HS := Lib.hid (fun (x : ByteArray) (hx : x.data.toList = r) => splits_any x r w hE hx hr)
    have HX := Lib.hid (show ((⟨(47 :: r).toArray⟩ : ByteArray).extract 1 (r.length + 1)).data.toList = r by rw [Lib.extract_data]; simp)
    clear h0
    go_enter Tryz.func85, Tryz.ntmps85
    go_wp2_with (first | (go_at_call 98; refine (HS.out _ HX.out).mono ?_; rintro e w' ⟨hb, A, n, c, rfl, hn, ho⟩))
    go_ret
    rw [HP.out]
    exact ⟨hb, A, n, c, rfl, hn, ho⟩
set_option maxHeartbeats 1600000 in
theorem check_any (s : ByteArray) (w : World) (hE : Env w) : Calls Tryz.prog 68 #[.string s] w (Ans (.int .i64 (errB (partsOf s.data.toList).isSome)) w) := by
  obtain ⟨l, rfl⟩ : ∃ l : List UInt8, s = ⟨l.toArray⟩ := ⟨s.data.toList, (sv_of s).symm⟩
  show Calls _ _ _ _ (Ans (.int .i64 (errB (partsOf l).isSome)) w)
  by_cases h64 : 64 < l.length
  · have HF := Lib.hid (show partsOf l = none by
      cases l with
      | nil => rfl
      | cons c r =>
        show (if c = 47 ∧ r.length < 64 then _ else _) = none
        rw [if_neg]
        simp only [List.length_cons] at h64
        omega)
    go_enter Tryz.func68, Tryz.ntmps68
    go_wp2_with fail
    go_ret
    rw [HF.out]
    exact ⟨rfl, Below.refl _ _⟩
  · have HH := Lib.hid (Tryz.strings_HasPrefix ⟨l.toArray⟩ ⟨#[47]⟩ w)
    have h64' : l.length ≤ 64 := by omega
    clear h64
    rcases l with _ | ⟨c, r⟩
    · go_enter Tryz.func68, Tryz.ntmps68
      go_wp2_with (first | (go_at_call 78; refine (HH.out).mono ?_; rintro e w' ⟨rfl, rfl⟩))
      go_ret
      exact ⟨rfl, Below.refl _ _⟩
    · by_cases hc : c = 47
      · subst hc
        have hr : r.length < 64 := by simp only [List.length_cons] at h64'; omega
        have HPO := Lib.hid (partsOf_eq r)
        have HSP := Lib.hid (split_any r w hE hr)
        have HAP := Lib.hid (fun A n c W (h : RdT W A n (parted r)) (hn : n ≤ maxLen) => areParts_any A n c (parted r) W h hn)
        have HHH := Lib.hid (show Lib.hasPrefix (⟨(47 :: r).toArray⟩ : ByteArray).data.toList (⟨#[47]⟩ : ByteArray).data.toList = true by exact hasPrefix_slash 47 r)
        have HR := Lib.hid hr
        clear h64'
        cases hall : (parted r).all isPart with
        | true =>
          have HALL := Lib.hid hall
          rw [hall] at HAP
          clear hall
          go_enter Tryz.func68, Tryz.ntmps68
          go_wp2_with (first
            | (go_at_call 78; refine (HH.out).mono ?_; rw [HHH.out]; rintro e w' ⟨rfl, rfl⟩)
            | (go_at_call 85; refine (HSP.out).mono ?_; rintro e w1 ⟨hb, A, n, c, rfl, hn, ho⟩)
            | (go_at_call 84; refine (HAP.out A n c w1 ho.rd (by unfold maxLen; omega)).mono ?_; rintro e w2 ⟨rfl, rfl⟩))
          go_ret
          rw [HPO.out, if_pos ⟨HR.out, HALL.out⟩]
          exact ⟨rfl, hb⟩
        | false =>
          have HALL := Lib.hid hall
          rw [hall] at HAP
          clear hall
          go_enter Tryz.func68, Tryz.ntmps68
          go_wp2_with (first
            | (go_at_call 78; refine (HH.out).mono ?_; rw [HHH.out]; rintro e w' ⟨rfl, rfl⟩)
            | (go_at_call 85; refine (HSP.out).mono ?_; rintro e w1 ⟨hb, A, n, c, rfl, hn, ho⟩)
            | (go_at_call 84; refine (HAP.out A n c w1 ho.rd (by unfold maxLen; omega)).mono ?_; rintro e w2 ⟨rfl, rfl⟩))
          go_ret
          rw [HPO.out, if_neg (by rw [HALL.out]; simp)]
          exact ⟨rfl, hb⟩
      · have HHH := Lib.hid (show Lib.hasPrefix (⟨(c :: r).toArray⟩ : ByteArray).data.toList (⟨#[47]⟩ : ByteArray).data.toList = false by
          refine (hasPrefix_slash c r).trans ?_
          simpa using hc)
        have HF := Lib.hid (show partsOf (c :: r) = none by
          show (if c = 47 ∧ r.length < 64 then _ else _) = none
          rw [if_neg (fun e => hc e.1)])
        have hr : r.length < 64 := by simp only [List.length_cons] at h64'; omega
        clear hc h64'
        go_enter Tryz.func68, Tryz.ntmps68
        go_wp2_with (first
            | (go_at_call 78; refine (HH.out).mono ?_; rw [HHH.out]; rintro e w' ⟨rfl, rfl⟩))
        go_ret
        rw [HF.out]
        exact ⟨rfl, Below.refl _ _⟩
end Go.Proofs.YtgppclmofphlfaaGreatDoor

/-
  Parts, and what is a path that isn't the root. Walks; no statement.
-/
namespace Go.Proofs.YtgppclmofphlfaaGreatDoor
set_option maxRecDepth 100000
open Go.RowKit
set_option linter.unusedVariables false

set_option maxHeartbeats 1600000 in
theorem checkBelow_any (s : ByteArray) (w : World) (hE : Env w) : Calls Tryz.prog 60 #[.string s] w (Ans (.int .i64 (errB (belowP s.data.toList))) w) := by
  obtain ⟨l, rfl⟩ : ∃ l : List UInt8, s = ⟨l.toArray⟩ := ⟨s.data.toList, (sv_of s).symm⟩
  show Calls _ _ _ _ (Ans (.int .i64 (errB (belowP l))) w)
  by_cases h0 : l = [47]
  · subst h0
    go_enter Tryz.func60, Tryz.ntmps60
    go_wp2_with fail
    go_ret
    exact ⟨rfl, Below.refl _ _⟩
  · have HC := Lib.hid (show Calls Tryz.prog 68 #[.string ⟨l.toArray⟩] w (Ans (.int .i64 (errB (belowP l))) w) by
      have hb : belowP l = (partsOf l).isSome := by
        rcases path_cases l with h | h | ⟨ps, q, h, _⟩
        · rw [h, (belowP_none h).1]; rfl
        · exact absurd h.1 h0
        · unfold belowP; rw [h, (parentP_eq h).2]; rfl
      rw [hb]
      exact check_any ⟨l.toArray⟩ w hE)
    have he : (l == [47]) = false := by simpa using h0
    go_enter Tryz.func60, Tryz.ntmps60
    go_wp2_with (first | (go_at_call 68; refine (HC.out).mono ?_; rintro e w' ⟨rfl, hb⟩))
    go_ret
    exact ⟨rfl, hb⟩
theorem cloneS_any (s : ByteArray) (w : World) (hs : s.size ≤ 64) : Calls Tryz.prog 42 #[.string s] w (Ans (.string s) w) := by
  have HC := Lib.hid (Tryz.stringslite_Clone s w (by omega))
  go_enter Tryz.func42, Tryz.ntmps42
  go_wp2_with (first | (go_at_call 64; refine (HC.out).mono ?_; rintro e w' ⟨rfl, hb⟩))
  go_ret
  exact ⟨rfl, hb⟩
set_option maxHeartbeats 1600000 in
theorem checked_any (s : ByteArray) (w : World) (hE : Env w) : Calls Tryz.prog 62 #[.string s] w (Ans (optV (if (partsOf s.data.toList).isSome = true then some s.data.toList else none)) w) := by
  have HC := Lib.hid (check_any s w hE)
  cases hp : (partsOf s.data.toList).isSome with
  | true =>
    rw [hp] at HC
    clear hp
    go_enter Tryz.func62, Tryz.ntmps62
    go_wp2_with (first | (go_at_call 68; refine (HC.out).mono ?_; rintro e w' ⟨rfl, hb⟩))
    go_ret2
    refine ⟨?_, hb⟩
    show Ending.returned (.tuple #[.string s, .int .i64 0]) = Ending.returned (.tuple #[.string ⟨s.data.toList.toArray⟩, .int .i64 0])
    rw [sv_of s]
  | false =>
    rw [hp] at HC
    clear hp
    go_enter Tryz.func62, Tryz.ntmps62
    go_wp2_with (first | (go_at_call 68; refine (HC.out).mono ?_; rintro e w' ⟨rfl, hb⟩))
    go_ret2
    exact ⟨rfl, hb⟩
end Go.Proofs.YtgppclmofphlfaaGreatDoor

/-
  A path's parent and its name. Walks; no statement.
-/
namespace Go.Proofs.YtgppclmofphlfaaGreatDoor
set_option maxRecDepth 100000
open Go.RowKit
set_option linter.unusedVariables false

set_option maxHeartbeats 3200000 in
theorem cut_any (s : ByteArray) (w : World) (hE : Env w) : Calls Tryz.prog 59 #[.string s] w (Ans (cutV s.data.toList) w) := by
  obtain ⟨l, rfl⟩ : ∃ l : List UInt8, s = ⟨l.toArray⟩ := ⟨s.data.toList, (sv_of s).symm⟩
  show Calls _ _ _ _ (Ans (cutV l) w)
  have HC := Lib.hid (show Calls _ _ _ _ (Ans (.int .i64 (errB (belowP l))) w) from checkBelow_any ⟨l.toArray⟩ w hE)
  have none_ : belowP l = false → parentP l = none → Calls Tryz.prog 59 #[.string ⟨l.toArray⟩] w (Ans (cutV l) w) := by
    intro h1 h2
    have HV := Lib.hid (show cutV l = .tuple #[.string ⟨#[]⟩, .string ⟨#[]⟩, .int .i64 90] by unfold cutV; rw [h2])
    rw [h1] at HC
    clear h1 h2
    go_enter Tryz.func59, Tryz.ntmps59
    go_wp2_with (first | (go_at_call 60; refine (HC.out).mono ?_; rintro e w' ⟨rfl, hb⟩))
    go_ret3
    rw [HV.out]
    exact ⟨rfl, hb⟩
  rcases path_cases l with h | ⟨h, _⟩ | ⟨ps, q, h, hl, hps, hq, h64⟩
  · exact none_ (belowP_none h).1 (belowP_none h).2.1
  · subst h; exact none_ rfl rfl
  · clear none_
    have hp := parentP_eq h
    have HV := Lib.hid (show cutV l = .tuple #[.string ⟨(wholeP ps).toArray⟩, .string ⟨q.toArray⟩, .int .i64 0] by unfold cutV; rw [hp.1, hp.2])
    rw [show belowP l = true by unfold belowP; rw [hp.2]; rfl] at HC
    have hnl : (47 : UInt8) ∉ q := part_noslash hq
    have hll : l.length = (joinP ps).length + 1 + q.length := by rw [hl]; simp; omega
    have HL := Lib.hid (fun W => show Calls Tryz.prog 75 #[.string ⟨l.toArray⟩, .string ⟨#[47]⟩] W fun e w' => e = .returned (.int .i64 ((joinP ps).length : Int)) ∧ w' = W by
      have := Tryz.strings_LastIndex_one ⟨l.toArray⟩ ⟨#[47]⟩ rfl (by show l.length < _; omega) W
      rw [← last_slash ⟨l.toArray⟩ (joinP ps) q hl hnl]
      exact this)
    have HA := Lib.hid (show ∀ x : ByteArray, x = (⟨l.toArray⟩ : ByteArray).extract 0 (max (joinP ps).length 1) → x = ⟨(wholeP ps).toArray⟩ by
      rintro x rfl
      rw [← sv_of (ByteArray.extract _ _ _), Lib.extract_data, ← wholeP_front ps q, ← hl]
      rfl)
    have HB := Lib.hid (show ∀ x : ByteArray, x = (⟨l.toArray⟩ : ByteArray).extract ((joinP ps).length + 1) l.length → x = ⟨q.toArray⟩ by
      rintro x rfl
      rw [← sv_of (ByteArray.extract _ _ _), Lib.extract_data]
      show (⟨(List.take (l.length - ((joinP ps).length + 1)) (List.drop ((joinP ps).length + 1) l)).toArray⟩ : ByteArray) = _
      rw [hl, show (joinP ps).length + 1 = (joinP ps ++ [(47 : UInt8)]).length by simp, show joinP ps ++ 47 :: q = (joinP ps ++ [47]) ++ q by simp, List.drop_left, List.take_of_length_le (by simp; omega)])
    have hsp : (wholeP ps).length ≤ 64 := by rw [← wholeP_front ps q, ← hl, List.length_take]; omega
    have HS1 := Lib.hid (fun (x : ByteArray) (hx : x = (⟨l.toArray⟩ : ByteArray).extract 0 (max (joinP ps).length 1)) W => show Calls Tryz.prog 42 #[.string x] W (Ans (.string ⟨(wholeP ps).toArray⟩) W) by
      rw [HA.out x hx]; exact cloneS_any ⟨(wholeP ps).toArray⟩ W hsp)
    have HS2 := Lib.hid (fun (x : ByteArray) (hx : x = (⟨l.toArray⟩ : ByteArray).extract ((joinP ps).length + 1) l.length) W => show Calls Tryz.prog 42 #[.string x] W (Ans (.string ⟨q.toArray⟩) W) by
      rw [HB.out x hx]; exact cloneS_any ⟨q.toArray⟩ W (by show q.length ≤ 64; omega))
    clear h hl hps hq hp hnl HA HB hsp
    generalize (joinP ps).length = n at *
    have h1 : (n : Int) + 1 ≤ l.length := by omega
    obtain ⟨mx, hmx⟩ : ∃ mx, max n 1 = mx := ⟨_, rfl⟩
    have HM := Lib.hid (show max (n : Int) 1 = (mx : Int) by omega)
    rw [hmx] at HS1
    have hm1 : mx ≤ l.length := by omega
    have hm2 : 0 ≤ (mx : Int) := by omega
    have hm3 : (mx : Int) ≤ l.length := by omega
    obtain ⟨n1, hn1⟩ : ∃ n1, n1 = n + 1 := ⟨_, rfl⟩
    rw [← hn1] at HS2
    have hwr : IntKind.i64.wrap ((n : Int) + 1) = (n1 : Int) := by rw [hn1]; simp only [IntKind.wrap, IntKind.bits, IntKind.signed]; simp; omega
    have h2 : 0 ≤ (n1 : Int) := by omega
    have h3 : (n1 : Int) ≤ l.length := by omega
    clear hmx hll hn1 h1
    go_enter Tryz.func59, Tryz.ntmps59
    go_wp2_with (first
        | (go_at_call 60; refine (HC.out).mono ?_; rintro e w1 ⟨rfl, hb⟩)
        | (go_at_call 75; refine (HL.out _).mono ?_; rintro e w2 ⟨rfl, rfl⟩))
    rw [HM.out]
    have hw : Below w.heap.size w w2 := hb
    clear hb
    go_region_held3 AnyW (exact anyW _)
      (first
      | (go_at_call 42; with_reducible refine (HS1.out _ ?_ _).mono ?_
         focus with_reducible rfl
         rintro e w' ⟨rfl, hx⟩
         first | replace hw := hw.trans (hx.mono hw.size) | replace hw := (below_drewN hw 1).trans (hx.mono hw.size)
         clear hx)
      | (go_at_call 42; with_reducible refine (HS2.out _ ?_ _).mono ?_
         focus with_reducible rfl
         rintro e w' ⟨rfl, hx⟩
         first | replace hw := hw.trans (hx.mono hw.size) | replace hw := (below_drewN hw 1).trans (hx.mono hw.size)
         clear hx))
    all_goals
      go_wp2_with fail
      go_ret3
      rw [HV.out]
      exact ⟨rfl, hw⟩
theorem parent_any (s : ByteArray) (w : World) (hE : Env w) : Calls Tryz.prog 38 #[.string s] w (Ans (optV (parentP s.data.toList)) w) := by
  have HC := Lib.hid (cut_any s w hE)
  rcases cut_cases s.data.toList with ⟨h1, h2, h3⟩ | ⟨a, b, h1, h2, h3⟩ <;>
  (have HO := Lib.hid h1
   rw [h3] at HC
   clear h1 h2 h3
   go_enter Tryz.func38, Tryz.ntmps38
   go_wp2_with (first | (go_at_call 59; refine (HC.out).mono ?_; rintro e w' ⟨rfl, hb⟩))
   go_ret2
   rw [HO.out]
   exact ⟨rfl, hb⟩)
end Go.Proofs.YtgppclmofphlfaaGreatDoor

/-
  Within; Numbered; Join. Walks; no statement.
-/
namespace Go.Proofs.YtgppclmofphlfaaGreatDoor
set_option maxRecDepth 100000
open Go.RowKit
set_option linter.unusedVariables false

theorem below_grew (w : World) (k : Nat) (os : Array Obj) : Below w.heap.size w (Sort.grow (w.drewN k) os) := by
  refine ⟨rfl, rfl, rfl, by simp [Sort.grow], fun i hi => ?_⟩
  show (w.heap ++ os)[i]? = w.heap[i]?
  rw [Array.getElem?_append_left hi]
end Go.Proofs.YtgppclmofphlfaaGreatDoor

/-
  Numbered; Join. Walks; no statement.
-/
namespace Go.Proofs.YtgppclmofphlfaaGreatDoor
set_option maxRecDepth 100000
open Go.RowKit
set_option linter.unusedVariables false

set_option maxHeartbeats 1600000 in
theorem numbered_any (s : ByteArray) (z : Int) (w : World) (hE : Env w) (hz : (Lit.int .i64 z).wf = true) : Calls Tryz.prog 41 #[.string s, .int .i64 z] w (Ans (optV (numberedP s.data.toList z)) w) := by
  obtain ⟨l, rfl⟩ : ∃ l : List UInt8, s = ⟨l.toArray⟩ := ⟨s.data.toList, (sv_of s).symm⟩
  show Calls _ _ _ _ (Ans (optV (numberedP l z)) w)
  have HC := Lib.hid (show Calls _ _ _ _ (Ans (.int .i64 (errB (belowP l))) w) from checkBelow_any ⟨l.toArray⟩ w hE)
  clear hz
  cases hp : belowP l with
  | false =>
    have HV := Lib.hid (show numberedP l z = none by unfold numberedP; rw [if_neg]; intro e; unfold belowP at hp; rw [hp] at e; exact absurd e.1 (by simp))
    rw [hp] at HC
    clear hp
    go_enter Tryz.func41, Tryz.ntmps41
    go_wp2_with fail
    refine (HC.out).mono ?_
    rintro e w1 ⟨rfl, hb1⟩
    go_wp2_with fail
    go_ret2
    rw [HV.out]
    exact ⟨rfl, hb1⟩
  | true =>
    rw [hp] at HC
    by_cases hn : 0 ≤ z ∧ z ≤ 99999
    · obtain ⟨hn1, hn2⟩ := hn
      obtain ⟨u, hzu⟩ : ∃ u : Nat, z = u := ⟨z.toNat, by omega⟩
      have hd := digits_five u (by omega)
      have h64 : l.length ≤ 64 := by
        rcases path_cases l with h | ⟨rfl, _⟩ | ⟨ps, q, _, _, _, _, h⟩
        · rw [(belowP_none h).1] at hp; cases hp
        · simp
        · exact h
      have HV := Lib.hid (show numberedP l z = if (partsOf (l ++ digits5 u)).isSome = true then some (l ++ digits5 u) else none by
        unfold numberedP
        rw [hzu, Int.toNat_natCast]
        by_cases h : (partsOf (l ++ digits5 u)).isSome = true
        · rw [if_pos h, if_pos ⟨hp, by omega, by omega, h⟩]
        · rw [if_neg h, if_neg (fun e => h e.2.2.2)])
      have hil : (Lib.decDigits u).length ≤ 5 := hd.1
      have HI := Lib.hid (fun W (h : Env W) => show Calls Tryz.prog 61 #[.int .i64 z] W (Ans (.string ⟨(Lib.decDigits u).toArray⟩) W) by
        rw [hzu]
        refine (Tryz.strconv_Itoa (u : Int) (by omega) (by omega) W h.2).mono ?_
        rintro e w' ⟨rfl, k, os, rfl⟩
        rw [Lib.itoa_nonneg]
        exact ⟨rfl, below_grew W k os⟩)
      obtain ⟨d, hdd⟩ : ∃ d, d = Lib.decDigits u := ⟨_, rfl⟩
      rw [← hdd] at hd HI hil
      have HR := Lib.hid (fun (c : Int) (hc : c = (5 : Int) - d.length) W => show Calls Tryz.prog 63 #[.string ⟨#[48]⟩, .int .i64 c] W (Ans (.string ⟨(Lib.repeatL [48] (5 - d.length)).toArray⟩) W) by
        rw [show c = ((5 - d.length : Nat) : Int) by omega]
        exact Tryz.strings_Repeat ⟨#[48]⟩ (5 - d.length) W (by omega) (by show 1 * _ ≤ _; omega))
      have HK := Lib.hid (fun (x : ByteArray) W (h : Env W) (hx : x.data.toList = l ++ (Lib.repeatL [48] (5 - d.length) ++ d)) => show Calls Tryz.prog 62 #[.string x] W (Ans (optV (numberedP l z)) W) by
        rw [HV.out]
        have := checked_any x W h
        rw [hx, hd.2] at this
        exact this)
      have HRL := Lib.hid (show (Lib.repeatL [48] (5 - d.length)).length ≤ 5 by
        rw [Lib.repeatL_length]; simp)
      have HE := Lib.hid hE
      generalize Lib.repeatL [48] (5 - d.length) = r at *
      have hrl := HRL.out
      have hwr : IntKind.i64.wrap ((5 : Int) - (d.length : Int)) = (5 : Int) - (d.length : Int) := by simp only [IntKind.wrap, IntKind.bits, IntKind.signed]; simp; omega
      have hu0 : decide (z < 0) = false := by simp; omega
      have hu1 : decide (z ≥ 100000) = false := by simp; omega
      clear hn1 hn2 hzu
      clear hp hd hdd hE HRL HV
      have hop := opt_cases (numberedP l z)
      generalize numberedP l z = o at *
      rcases hop with ⟨rfl, hO⟩ | ⟨x, rfl, hO⟩ <;>
      (rw [hO] at HK
       have HO := Lib.hid hO
       clear hO
       go_enter Tryz.func41, Tryz.ntmps41
       go_wp2_with fail
       refine (HC.out).mono ?_
       rintro e w1 ⟨rfl, hb1⟩
       go_wp2_with fail
       refine (HI.out _ (HE.out.below hb1)).mono ?_
       rintro e w2 ⟨rfl, hb2⟩
       go_wp2_with fail
       refine (HR.out _ ?_ _).mono ?_
       focus first | rfl | (go_num; done) | (simp only [wrap64]; omega)
       rintro e w3 ⟨rfl, hb3⟩
       have s1 := hb1.size
       have s2 := hb2.size
       have hb23 := hb1.trans ((hb2.trans (hb3.mono s2)).mono s1)
       go_wp2_with fail
       refine (HK.out _ _ (HE.out.below hb23) (by simp)).mono ?_
       rintro e w4 ⟨rfl, hb4⟩
       go_wp2_with fail
       go_ret2
       rw [HO.out]
       exact ⟨rfl, hb23.trans (hb4.mono hb23.size)⟩)
    · have HV := Lib.hid (show numberedP l z = none by unfold numberedP; rw [if_neg]; intro e; exact hn ⟨e.2.1, e.2.2.1⟩)
      have h2 : z < 0 ∨ (¬ z < 0 ∧ 100000 ≤ z) := by omega
      clear hn hp
      rcases h2 with h2 | ⟨h2, h3⟩ <;>
      (go_enter Tryz.func41, Tryz.ntmps41
       go_wp2_with fail
       refine (HC.out).mono ?_
       rintro e w1 ⟨rfl, hb1⟩
       go_wp2_with fail
       go_ret2
       rw [HV.out]
       exact ⟨rfl, hb1⟩)
end Go.Proofs.YtgppclmofphlfaaGreatDoor
