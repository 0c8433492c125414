import Derived.Test.YtgniocgcfldiaaaPackLaws1
namespace Go.Proofs.Ytgniocgcfldiaaa
open Go.RowKit
open Pk
set_option linter.unusedVariables false

/-- the bytes of a number that are cut off are too few -/
theorem rd_cut : ∀ (f v i a k : Nat), v < f → k < (enc f v).length → i + k ≤ 8 → (0 < i → 0 < v) → rd i a ((enc f v).take k) = (0, 0, 11) := by
  intro f
  induction f with
  | zero => intro v i a k h; omega
  | succ f ih =>
    intro v i a k h hk hi hz
    simp only [enc] at hk ⊢
    cases k with
    | zero => simp [rd]
    | succ k =>
      by_cases hs : v < 128
      · rw [if_pos hs] at hk; simp at hk
      · rw [if_neg hs] at hk ⊢
        have e : (UInt8.ofNat (v % 128 + 128)).toNat = v % 128 + 128 := by simp; omega
        rw [List.take_succ_cons, rd, e, if_neg (by rintro (⟨h1, _⟩ | ⟨h1, _⟩) <;> omega), if_neg (by omega)]
        exact ih (v / 128) (i + 1) _ k (by omega) (by simpa using hk) (by omega) (fun _ => by omega)
theorem rdN_cut {v k : Nat} (hv : v < 4611686018427387904) (hk : k < (encN v).length) : rdN ((encN v).take k) = (0, 0, 11) :=
  rd_cut (v + 1) v 0 0 k (by omega) hk (by have := encN_len9 hv; omega) (by omega)

theorem encN_mono : ∀ (v w : Nat), v ≤ w → (encN v).length ≤ (encN w).length := by
  intro v
  induction v using Nat.strongRecOn with
  | _ v ih =>
    intro w h
    by_cases hv : v < 128
    · rw [encN_small hv]; have := encN_pos w; simp; omega
    · rw [encN_big (by omega), encN_big (by omega : 128 ≤ w)]
      simp only [List.length_cons]
      have := ih (v / 128) (by omega) (w / 128) (by omega)
      omega
theorem encN_inj {v w : Nat} (hv : v < 4611686018427387904) (hw : w < 4611686018427387904) (h : encN v = encN w) : v = w := by
  have h1 := rdN_enc hv []
  have h2 := rdN_enc hw []
  rw [h] at h1
  rw [h1] at h2
  exact (Prod.mk.injEq .. ▸ h2).1

theorem packCuts_bad (w : World) (v k : Int) (hv : v < 0 ∨ 4611686018427387904 ≤ v) : Calls Try.prog 12 #[.int .i64 v, .int .i64 k] w (Tr w) := by
  have H1 := Lib.hid (fun W => num_bad v W hv)
  clear hv
  go_enter Try.func12, Try.ntmps12
  go_wp2_with fail
  refine (aliveNum_ok _).mono ?_
  rintro e w1 ⟨rfl, hb1⟩
  go_wp2_with fail
  refine (aliveRead_ok _).mono ?_
  rintro e w2 ⟨rfl, hb2⟩
  go_wp2_with fail
  refine (H1.out _).mono ?_
  rintro e w3 ⟨rfl, rfl⟩
  go_wp2_with fail
  go_ret
  exact ⟨rfl, hb1.trans (hb2.mono hb1.size)⟩

theorem packCuts_ok (w : World) (v : Nat) (k : Int) (hv : v < 4611686018427387904) (wk : (Lit.int .i64 k).wf = true) : Calls Try.prog 12 #[.int .i64 v, .int .i64 k] w (Tr w) := by
  have H1 := Lib.hid (fun W => num_ok v W hv)
  have hlen := encN_len9 hv
  have HLEN := Lib.hid hlen
  have HV := Lib.hid hv
  clear hv
  by_cases hk0 : k < 0
  · go_enter Try.func12, Try.ntmps12
    go_wp2_with fail
    refine (aliveNum_ok _).mono ?_
    rintro e w1 ⟨rfl, hb1⟩
    go_wp2_with fail
    refine (aliveRead_ok _).mono ?_
    rintro e w2 ⟨rfl, hb2⟩
    go_wp2_with fail
    refine (H1.out _).mono ?_
    rintro e w3 ⟨A3, n3, c3, rfl, ho3, hb3⟩
    go_wp2_with fail
    go_ret
    exact ⟨rfl, hb1.trans ((hb2.mono hb1.size).trans (hb3.mono (Nat.le_trans hb1.size hb2.size)))⟩
  · obtain ⟨m, rfl⟩ : ∃ m : Nat, k = m := ⟨k.toNat, by omega⟩
    clear hk0 wk
    by_cases hmn : (encN v).length ≤ m
    · have HMN := Lib.hid hmn
      clear hmn hlen
      go_enter Try.func12, Try.ntmps12
      go_wp2_with fail
      refine (aliveNum_ok _).mono ?_
      rintro e w1 ⟨rfl, hb1⟩
      go_wp2_with fail
      refine (aliveRead_ok _).mono ?_
      rintro e w2 ⟨rfl, hb2⟩
      go_wp2_with fail
      refine (H1.out _).mono ?_
      rintro e w3 ⟨A3, n3, c3, rfl, ho3, hb3⟩
      have hn3 : n3 ≤ m := by have := OwnB.len ho3; have := HMN.out; omega
      go_wp2_with fail
      go_ret
      exact ⟨rfl, hb1.trans ((hb2.mono hb1.size).trans (hb3.mono (Nat.le_trans hb1.size hb2.size)))⟩
    · have HMN := Lib.hid (show m < (encN v).length by omega)
      have HR := Lib.hid (rdN_cut HV.out HMN.out)
      clear hmn hlen
      go_enter Try.func12, Try.ntmps12
      go_wp2_with fail
      refine (aliveNum_ok _).mono ?_
      rintro e w1 ⟨rfl, hb1⟩
      go_wp2_with fail
      refine (aliveRead_ok _).mono ?_
      rintro e w2 ⟨rfl, hb2⟩
      go_wp2_with fail
      refine (H1.out _).mono ?_
      rintro e w3 ⟨A3, n3, c3, rfl, ho3, hb3⟩
      have hn3 : m < n3 := by have := OwnB.len ho3; have := HMN.out; omega
      have hn9 : n3 ≤ 9 := by have := OwnB.len ho3; have := HLEN.out; omega
      have hcap := own_cap ho3
      have hcap1 := hcap.1
      have HCAP := Lib.hid hcap.2
      clear hcap
      go_wp2_with fail
      refine (read_any A3 m c3 ((encN v).take m) w3 ?hr (by omega) HCAP.out (by omega)).mono ?_
      case hr =>
        have h8 := ho3.rd.front (k := m) (by omega)
        rw [← List.map_take] at h8
        exact h8
      rintro e w4 ⟨A4, n4, c4, rfl, ho4, hb4⟩
      unfold restN at ho4
      rw [HR.out] at *
      have hl : n4 = 0 := by have := OwnB.len ho4; simpa using this.symm
      subst hl
      go_wp2_with fail
      go_ret
      have s1 := hb1.size
      have s2 := Nat.le_trans s1 hb2.size
      have s3 := Nat.le_trans s2 hb3.size
      exact ⟨ret_bool (by simp; omega), hb1.trans ((hb2.mono s1).trans ((hb3.mono s2).trans (hb4.mono s3)))⟩

theorem packCuts_walk (w : World) (v : Int) (wv : (Lit.int .i64 v).wf = true) (k : Int) (wk : (Lit.int .i64 k).wf = true) : Calls Try.prog 12 #[.int .i64 v, .int .i64 k] w (Tr w) := by
  by_cases hv : v < 0 ∨ 4611686018427387904 ≤ v
  · exact packCuts_bad w v k hv
  · obtain ⟨u, rfl⟩ : ∃ u : Nat, v = u := ⟨v.toNat, by omega⟩
    exact packCuts_ok w u k (by omega) wk

theorem packSizes_bad1 (w : World) (v k : Int) (hv : v < 0 ∨ 4611686018427387904 ≤ v) : Calls Try.prog 13 #[.int .i64 v, .int .i64 k] w (Tr w) := by
  have H1 := Lib.hid (fun W => num_bad v W hv)
  have H2 : ∀ W, ∃ k' : Int, Calls Try.prog 14 #[.int .i64 k] W (fun e w' => (∃ A n c er, e = .returned (.tuple #[.slice A n c, .int .i64 er])) ∧ Below W.heap.size W w') := by
    intro W
    refine ⟨0, ?_⟩
    by_cases hk : k < 0 ∨ 4611686018427387904 ≤ k
    · refine (num_bad k W hk).mono ?_
      rintro e w' ⟨rfl, rfl⟩
      exact ⟨⟨_, _, _, _, rfl⟩, Below.refl _ _⟩
    · obtain ⟨u, rfl⟩ : ∃ u : Nat, k = u := ⟨k.toNat, by omega⟩
      refine (num_ok u W (by omega)).mono ?_
      rintro e w' ⟨A, n, c, rfl, _, hb⟩
      exact ⟨⟨_, _, _, _, rfl⟩, hb⟩
  have H2 := Lib.hid H2
  clear hv
  go_enter Try.func13, Try.ntmps13
  go_wp2_with fail
  refine (aliveNum_ok _).mono ?_
  rintro e w1 ⟨rfl, hb1⟩
  go_wp2_with fail
  refine (H1.out _).mono ?_
  rintro e w3 ⟨rfl, rfl⟩
  go_wp2_with fail
  obtain ⟨_, hC⟩ := H2.out w1
  refine hC.mono ?_
  rintro e w4 ⟨⟨A, n, c, er, rfl⟩, hb2⟩
  go_wp2_with fail
  go_ret
  exact ⟨rfl, hb1.trans (hb2.mono hb1.size)⟩

theorem packSizes_bad2 (w : World) (v : Nat) (k : Int) (hv : v < 4611686018427387904) (hk : k < 0 ∨ 4611686018427387904 ≤ k) : Calls Try.prog 13 #[.int .i64 v, .int .i64 k] w (Tr w) := by
  have H1 := Lib.hid (fun W => num_ok v W hv)
  have H2 := Lib.hid (fun W => num_bad k W hk)
  clear hv hk
  go_enter Try.func13, Try.ntmps13
  go_wp2_with fail
  refine (aliveNum_ok _).mono ?_
  rintro e w1 ⟨rfl, hb1⟩
  go_wp2_with fail
  refine (H1.out _).mono ?_
  rintro e w2 ⟨A, n, c, rfl, ho, hb2⟩
  go_wp2_with fail
  refine (H2.out _).mono ?_
  rintro e w3 ⟨rfl, rfl⟩
  go_wp2_with fail
  go_ret
  exact ⟨rfl, hb1.trans (hb2.mono hb1.size)⟩

theorem packSizes_ok (w : World) (v k : Nat) (hv : v < 4611686018427387904) (hk : k < 4611686018427387904) : Calls Try.prog 13 #[.int .i64 v, .int .i64 k] w (Tr w) := by
  have H1 := Lib.hid (fun W => num_ok v W hv)
  have H2 := Lib.hid (fun W => num_ok k W hk)
  have L1 := Lib.hid (encN_len9 hv)
  have hm1 := Lib.hid (encN_mono v k)
  have hm2 := Lib.hid (encN_mono k v)
  have hi := Lib.hid (fun h : encN v = encN k => encN_inj hv hk h)
  clear hv hk
  rcases Nat.lt_trichotomy v k with hlt | hlt | hlt
  · have h1 : (v : Int) < k := by omega
    have h2 : ((v : Int) == (k : Int)) = false := by rw [beq_eq_false_iff_ne]; omega
    have hd := Lib.hid (show decide (encN v = encN k) = false by simp only [decide_eq_false_iff_not]; intro e; have := hi.out e; omega)
    have hle := Lib.hid (hm1.out (by omega))
    clear hm1 hm2 hi
    go_enter Try.func13, Try.ntmps13
    go_wp2_with fail
    refine (aliveNum_ok _).mono ?_
    rintro e w1 ⟨rfl, hb1⟩
    go_wp2_with fail
    refine (H1.out _).mono ?_
    rintro e w2 ⟨A, n, c, rfl, ho, hb2⟩
    go_wp2_with fail
    refine (H2.out _).mono ?_
    rintro e w3 ⟨A3, n3, c3, rfl, ho3, hb3⟩
    have hn : n ≤ n3 := by have := OwnB.len ho; have := OwnB.len ho3; have := hle.out; omega
    go_wp2_with fail
    refine (sameBytes_any A A3 n n3 c c3 _ (encN v) (encN k) (ho.below hb3).rd ho3.rd (by have := L1.out; have := OwnB.len ho; simp only [maxLen]; omega)).mono ?_
    rintro e w4 ⟨rfl, m, rfl⟩
    rw [hd.out]
    go_wp2_with fail
    go_ret
    exact ⟨rfl, below_drewN (hb1.trans ((hb2.mono hb1.size).trans (hb3.mono (Nat.le_trans hb1.size hb2.size)))) m⟩
  · subst hlt
    clear hm1 hm2 hi
    go_enter Try.func13, Try.ntmps13
    go_wp2_with fail
    refine (aliveNum_ok _).mono ?_
    rintro e w1 ⟨rfl, hb1⟩
    go_wp2_with fail
    refine (H1.out _).mono ?_
    rintro e w2 ⟨A, n, c, rfl, ho, hb2⟩
    go_wp2_with fail
    refine (H2.out _).mono ?_
    rintro e w3 ⟨A3, n3, c3, rfl, ho3, hb3⟩
    have hn : n3 = n := by have := OwnB.len ho; have := OwnB.len ho3; omega
    subst hn
    go_wp2_with fail
    refine (sameBytes_self A A3 n3 n3 c c3 _ (encN v) (ho.below hb3).rd ho3.rd (by have := L1.out; have := OwnB.len ho; simp only [maxLen]; omega)).mono ?_
    rintro e w4 ⟨rfl, m, rfl⟩
    go_wp2_with fail
    go_ret
    exact ⟨rfl, below_drewN (hb1.trans ((hb2.mono hb1.size).trans (hb3.mono (Nat.le_trans hb1.size hb2.size)))) m⟩
  · have h1 : (k : Int) < v := by omega
    have h2 : ((v : Int) == (k : Int)) = false := by rw [beq_eq_false_iff_ne]; omega
    have hd := Lib.hid (show decide (encN v = encN k) = false by simp only [decide_eq_false_iff_not]; intro e; have := hi.out e; omega)
    have hle := Lib.hid (hm2.out (by omega))
    clear hm1 hm2 hi
    go_enter Try.func13, Try.ntmps13
    go_wp2_with fail
    refine (aliveNum_ok _).mono ?_
    rintro e w1 ⟨rfl, hb1⟩
    go_wp2_with fail
    refine (H1.out _).mono ?_
    rintro e w2 ⟨A, n, c, rfl, ho, hb2⟩
    go_wp2_with fail
    refine (H2.out _).mono ?_
    rintro e w3 ⟨A3, n3, c3, rfl, ho3, hb3⟩
    have hn : n3 ≤ n := by have := OwnB.len ho; have := OwnB.len ho3; have := hle.out; omega
    go_wp2_with fail
    refine (sameBytes_any A A3 n n3 c c3 _ (encN v) (encN k) (ho.below hb3).rd ho3.rd (by have := L1.out; have := OwnB.len ho; simp only [maxLen]; omega)).mono ?_
    rintro e w4 ⟨rfl, m, rfl⟩
    rw [hd.out]
    go_wp2_with fail
    go_ret
    exact ⟨rfl, below_drewN (hb1.trans ((hb2.mono hb1.size).trans (hb3.mono (Nat.le_trans hb1.size hb2.size)))) m⟩

theorem packSizes_walk (w : World) (v : Int) (wv : (Lit.int .i64 v).wf = true) (k : Int) (wk : (Lit.int .i64 k).wf = true) : Calls Try.prog 13 #[.int .i64 v, .int .i64 k] w (Tr w) := by
  by_cases hv : v < 0 ∨ 4611686018427387904 ≤ v
  · exact packSizes_bad1 w v k hv
  · obtain ⟨u, rfl⟩ : ∃ u : Nat, v = u := ⟨v.toNat, by omega⟩
    by_cases hk : k < 0 ∨ 4611686018427387904 ≤ k
    · exact packSizes_bad2 w u k (by omega) hk
    · obtain ⟨x, rfl⟩ : ∃ x : Nat, k = x := ⟨k.toNat, by omega⟩
      exact packSizes_ok w u x (by omega) (by omega)
end Go.Proofs.Ytgniocgcfldiaaa
