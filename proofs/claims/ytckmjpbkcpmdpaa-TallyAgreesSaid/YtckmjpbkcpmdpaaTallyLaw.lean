/-
  Words for the laws on tallies; the laws' own 'alive'. Walks; no statement.
-/
import Derived.Test.YtckmjpbkcpmdpaaTallyPut
import Derived.Test.YtckmjpbkcpmdpaaTallyDev3
import Derived.Test.YtckmjpbkcpmdpaaTallyGreat
import Derived.Test.YtckmjpbkcpmdpaaSlConst
namespace Go.Proofs.Ytckmjpbkcpmdpaa
open Go.RowKit Go.Sort Go.Shelf
set_option linter.unusedVariables false
set_option maxRecDepth 100000

/-- the tally g holds these votes, all its blocks are from B on, and below B nothing has turned since w0 -/
structure TOn (B : Nat) (w0 w : World) (F : Nat → Prop) (g : Nat) (N : Int) (vs : List Vo) : Prop where
  tl : Tl w F g N vs
  up : ∀ i, F i → B ≤ i
  be : Below B w0 w
  sz : B ≤ w.heap.size
section
variable {B g : Nat} {w0 w w' : World} {F : Nat → Prop} {N : Int} {vs : List Vo} {v : Vo} {e : Ending}
theorem TOn.kept (h : TOn B w0 w F g N vs) (hb : Below w.heap.size w w') : TOn B w0 w' F g N vs := ⟨h.tl.kept hb, h.up, below_next h.be hb h.sz, Nat.le_trans h.sz hb.size⟩
theorem TOn.alloc (h : TOn B w0 w F g N vs) (o : Obj) : TOn B w0 (w.alloc o) F g N vs := h.kept ((Below.refl _ _).alloc (Nat.le_refl _) o)
theorem TOn.drewN (h : TOn B w0 w F g N vs) (n : Nat) : TOn B w0 (w.drewN n) F g N vs := h.kept (below_drewN (Below.refl _ _) n)
theorem TOn.drew (h : TOn B w0 w F g N vs) : TOn B w0 w.drew F g N vs := h.drewN 1
theorem TOn.lt (h : TOn B w0 w F g N vs) : ∀ i, F i → i < w.heap.size := h.tl.lt
theorem TOn.good (h : TOn B w0 w F g N vs) : TyGood N vs := h.tl.good
/-- the votes behind a Put -/
def tyAfter (N : Int) (vs : List Vo) (v : Vo) : List Vo := if tyTakes N vs v.voter v.rank = true then tyPut vs v else vs
/-- behind a Put -/
theorem TOn.put (h : TOn B w0 w F g N vs) (hd : PutP F g N vs v w e w') : e = .returned (.bool (tyTakes N vs v.voter v.rank)) ∧ ∃ F', TOn B w0 w' F' g N (tyAfter N vs v) ∧ (∀ i, F' i → F i ∨ w.heap.size ≤ i) ∧ Chg F w w' := by
  obtain ⟨he, F', hk, hF, hc⟩ := hd
  exact ⟨he, F', ⟨hk, fun i hi => (hF i hi).elim (h.up i) (Nat.le_trans h.sz), h.be.trans (hc.below h.up h.sz), Nat.le_trans h.sz hc.size⟩, hF, hc⟩
end
theorem MadeT.on {B : Nat} {w0 w w' : World} {N : Int} {e : Ending} (hb : Below B w0 w) (hs : B ≤ w.heap.size) (h : MadeT N w e w') : ∃ g F, e = .returned (.pointer (some ⟨g, 0, none⟩)) ∧ TOn B w0 w' F g N [] ∧ (∀ i, F i → w.heap.size ≤ i) ∧ Below w.heap.size w w' := by
  obtain ⟨g, F, he, hk, hF, hbb⟩ := h
  exact ⟨g, F, he, ⟨hk, fun i hi => Nat.le_trans hs (hF i hi), below_next hb hbb hs, Nat.le_trans hs hbb.size⟩, hF, hbb⟩
theorem OvAt.below {w w' : World} {a : Addr} {o : Ov} (h : OvAt w a o) (hb : Below w.heap.size w w') : OvAt w' a o := by
  obtain ⟨B, p, pc, C, q, qc, h0, h1, h2, h3, k0, k1, hB, hC⟩ := h
  have st : ∀ {j v}, w.cell? (a.add j) = some v → w'.cell? (a.add j) = some v := fun h => (hb.cell (cell_lt h)).trans h
  exact ⟨B, p, pc, C, q, qc, st h0, st h1, st h2, st h3, k0, k1, hB.below hb, hC.below hb⟩
theorem RdOvs.below {w w' : World} {A : Option Addr} {n : Nat} {ops : List Ov} (h : RdOvs w A n ops) (hb : Below w.heap.size w w') : RdOvs w' A n ops :=
  ⟨h.1, fun k o hk => by
    obtain ⟨a, e, hlt, hc⟩ := h.2 k o hk
    exact ⟨a, e, Nat.lt_of_lt_of_le hlt hb.size, hc.below hb⟩⟩
/-- the example's votes -/
def exV1 : List Vo := tyAfter 3 [] ⟨0, 1, [97], [120]⟩
def exV2 : List Vo := tyAfter 3 exV1 ⟨1, 2, [98], []⟩
def exV3 : List Vo := tyAfter 3 exV2 ⟨2, 1, [97], []⟩
theorem ex_votes : tyVoters 3 = 3 ∧ tyTakes 3 [] 0 1 = true ∧ tyTakes 3 exV1 1 2 = true ∧ tyTakes 3 exV2 2 1 = true ∧ tyTakes 3 exV3 0 0 = false ∧ tyHaves exV3 1 [97] = [0, 2] ∧ tyReach exV3 1 = some 2 ∧
    ((tyKnown exV3 1).getD default).rank = 2 ∧ (tyKnown exV3 1).isSome = true ∧ ((tyKnown exV3 0).getD default).load = [120] ∧ tyHaves exV3 2 [98] = [1] := by decide
theorem ex_agree : ∃ v, tyAgree exV3 2 = some v ∧ v.rank = 1 ∧ v.key = [97] := ⟨_, rfl, rfl, rfl⟩
theorem off_lt {F : Nat → Prop} {n : Nat} {K : Option Addr} (hF : ∀ i, F i → i < n) (hK : ∀ b, K = some b → n ≤ b.block) : ∀ b, K = some b → ¬ F b.block := fun b e hf => by
  have := hF _ hf; have := hK b e; omega
set_option maxHeartbeats 3200000 in
theorem alive_votes (w : World) : Calls Try.prog 9 #[] w (Tr w) := by
  have HN := Lib.hid (new_tally 3 w (by omega))
  have HOK := Lib.hid ex_votes
  have HAG := Lib.hid ex_agree
  go_enter Try.func9, Try.ntmps9
  go_wp2_with fail
  refine HN.out.mono ?_
  rintro e w1 hm
  obtain ⟨g, F, rfl, hon, hF, hb1⟩ := MadeT.on (Below.refl w.heap.size w) (Nat.le_refl _) hm
  rw [HOK.out.1] at hon
  have kc1 := conv_const w1 w1.heap.size rfl #[.int .u8 97] 1 1
  have kc2 := conv_const (w1.alloc (.cells #[.int .u8 97] 5 (1, 2))) (w1.heap.size + 1) (by simp) #[.int .u8 120] 1 1
  have hs1 := (Sl.const w1 [97] #[.int .u8 97] 1 w1.heap.size rfl rfl rfl (1, 2) (by simp [maxLen])).alloc (.cells #[.int .u8 120] 5 (1, 2))
  have hs2 := Sl.const (w1.alloc (.cells #[.int .u8 97] 5 (1, 2))) [120] #[.int .u8 120] 1 (w1.heap.size + 1) rfl rfl (by simp) (1, 2) (by simp [maxLen])
  have hon2 := (hon.alloc (.cells #[.int .u8 97] 5 (1, 2))).alloc (.cells #[.int .u8 120] 5 (1, 2))
  have HPU := Lib.hid (put_any 0 1 [97] [120] (some ⟨w1.heap.size, 0, none⟩) 1 1 (some ⟨w1.heap.size + 1, 0, none⟩) 1 1 F g 3 [] _ hon2.tl hs1.rd (off_lt hon.lt (fun b e => by injection e with e; subst e; exact Nat.le_refl _)) hs2.rd (off_lt hon.lt (fun b e => by injection e with e; subst e; simp)) (by simp) (by simp) (by omega))
  have HON := Lib.hid hon2
  clear hm hon hF hb1 hs1 hs2 hon2
  go_wp2_with fail
  refine HPU.out.mono ?_
  rintro e w2 hd
  obtain ⟨rfl, F2, hon, _, _⟩ := HON.out.put hd
  have e1 : tyTakes 3 [] (Vo.mk 0 1 [97] [120]).voter (Vo.mk 0 1 [97] [120]).rank = true := HOK.out.2.1
  rw [e1]
  rw [show tyAfter 3 [] ⟨0, 1, [97], [120]⟩ = exV1 from rfl] at hon
  have kc3 := conv_const w2 w2.heap.size rfl #[.int .u8 98] 1 1
  have hs1 := Sl.const w2 [98] #[.int .u8 98] 1 w2.heap.size rfl rfl rfl (1, 2) (by simp [maxLen])
  have hon2 := hon.alloc (.cells #[.int .u8 98] 5 (1, 2))
  have HPU := Lib.hid (put_any 1 2 [98] [] (some ⟨w2.heap.size, 0, none⟩) 1 1 none 0 0 F2 g 3 exV1 _ hon2.tl hs1.rd (off_lt hon.lt (fun b e => by injection e with e; subst e; exact Nat.le_refl _)) (Rd.nil_ _ _) (fun b e => by cases e) (by simp) (by simp) (by omega))
  have HON := Lib.hid hon2
  clear hd hon hs1 hon2 e1 kc1 kc2
  go_wp2_with fail
  refine HPU.out.mono ?_
  rintro e w3 hd
  obtain ⟨rfl, F3, hon, _, _⟩ := HON.out.put hd
  have e1 : tyTakes 3 exV1 (Vo.mk 1 2 [98] []).voter (Vo.mk 1 2 [98] []).rank = true := HOK.out.2.2.1
  rw [e1]
  rw [show tyAfter 3 exV1 ⟨1, 2, [98], []⟩ = exV2 from rfl] at hon
  have kc4 := conv_const w3 w3.heap.size rfl #[.int .u8 97] 1 1
  have hs1 := Sl.const w3 [97] #[.int .u8 97] 1 w3.heap.size rfl rfl rfl (1, 2) (by simp [maxLen])
  have hon2 := hon.alloc (.cells #[.int .u8 97] 5 (1, 2))
  have HPU := Lib.hid (put_any 2 1 [97] [] (some ⟨w3.heap.size, 0, none⟩) 1 1 none 0 0 F3 g 3 exV2 _ hon2.tl hs1.rd (off_lt hon.lt (fun b e => by injection e with e; subst e; exact Nat.le_refl _)) (Rd.nil_ _ _) (fun b e => by cases e) (by simp) (by simp) (by omega))
  have HON := Lib.hid hon2
  clear hd hon hs1 hon2 e1 kc3
  go_wp2_with fail
  refine HPU.out.mono ?_
  rintro e w4 hd
  obtain ⟨rfl, F4, hon, _, _⟩ := HON.out.put hd
  have e1 : tyTakes 3 exV2 (Vo.mk 2 1 [97] []).voter (Vo.mk 2 1 [97] []).rank = true := HOK.out.2.2.2.1
  rw [e1]
  rw [show tyAfter 3 exV2 ⟨2, 1, [97], []⟩ = exV3 from rfl] at hon
  have kc5 := conv_const w4 w4.heap.size rfl #[.int .u8 99] 1 1
  have hs1 := Sl.const w4 [99] #[.int .u8 99] 1 w4.heap.size rfl rfl rfl (1, 2) (by simp [maxLen])
  have hon2 := hon.alloc (.cells #[.int .u8 99] 5 (1, 2))
  have HPU := Lib.hid (put_any 0 0 [99] [] (some ⟨w4.heap.size, 0, none⟩) 1 1 none 0 0 F4 g 3 exV3 _ hon2.tl hs1.rd (off_lt hon.lt (fun b e => by injection e with e; subst e; exact Nat.le_refl _)) (Rd.nil_ _ _) (fun b e => by cases e) (by simp) (by simp) (by omega))
  have HON := Lib.hid hon2
  clear hd hon hs1 hon2 e1 kc4
  go_wp2_with fail
  refine HPU.out.mono ?_
  rintro e w5 hd
  obtain ⟨rfl, F5, hon, _, _⟩ := HON.out.put hd
  have e1 : tyTakes 3 exV3 (Vo.mk 0 0 [99] []).voter (Vo.mk 0 0 [99] []).rank = false := HOK.out.2.2.2.2.1
  rw [e1]
  rw [show tyAfter 3 exV3 ⟨0, 0, [99], []⟩ = exV3 by unfold tyAfter; rw [e1]; rfl] at hon
  have HAGR := Lib.hid (agree_any 2 F5 g 3 exV3 w5 hon.tl (by omega))
  have HON := Lib.hid hon
  clear hd hon e1 kc5
  go_wp2_with fail
  refine HAGR.out.mono ?_
  rintro e w6 ⟨A6, n6, c6, B6, m6, q6, rfl, hk6, hi6, hb6⟩
  obtain ⟨v, hv, hv1, hv2⟩ := HAG.out
  rw [hv] at hk6 hi6 ⊢
  have hv3 : ((some v : Option Vo).getD default).rank = 1 := hv1
  have hv4 : ((some v : Option Vo).getD default).key = [97] := hv2
  rw [hv3]
  rw [hv4] at hk6
  have hi6' : OwnI w6 w5.heap.size B6 m6 q6 [0, 2] := by
    have : tyHaves exV3 v.rank v.key = [0, 2] := by rw [hv1, hv2]; exact HOK.out.2.2.2.2.2.1
    rw [← this]; exact hi6
  have HK6 := Lib.hid hk6
  have HI6 := Lib.hid hi6'
  have HON := Lib.hid (HON.out.kept hb6)
  have HRE := Lib.hid (reach_any 1 F5 g 3 exV3 w6 HON.out.tl (by omega))
  clear hk6 hi6 hb6 hv hv3 hv4 hi6' hv1 hv2
  go_wp2_with fail
  refine HRE.out.mono ?_
  rintro e w7 ⟨rfl, hb7⟩
  rw [HOK.out.2.2.2.2.2.2.1]
  have HK7 := Lib.hid (HK6.out.below hb7)
  have HI7 := Lib.hid (HI6.out.below hb7)
  have HON := Lib.hid (HON.out.kept hb7)
  have HRA := Lib.hid (rank_any 1 F5 g 3 exV3 w7 HON.out.tl)
  clear hb7
  go_wp2_with fail
  refine HRA.out.mono ?_
  rintro e w8 ⟨rfl, hb8⟩
  rw [HOK.out.2.2.2.2.2.2.2.1, HOK.out.2.2.2.2.2.2.2.2.1]
  have HK8 := Lib.hid (HK7.out.below hb8)
  have HI8 := Lib.hid (HI7.out.below hb8)
  have HON := Lib.hid (HON.out.kept hb8)
  have hcv := conv_rd A6 n6 c6 [97] w8 HK8.out.rd
  have HSI := Lib.hid (sameInts_self B6 (some ⟨w8.heap.size, 0, none⟩) m6 2 q6 2 (w8.alloc (.cells #[.int .i64 0, .int .i64 2] 3)) [0, 2] ((HI8.out.below ((Below.refl w8.heap.size w8).alloc (Nat.le_refl _) _)).rd) (Rd.new w8 [.int .i64 0, .int .i64 2] 3) HI8.out.cap)
  have hlit : ((⟨#[97]⟩ : ByteArray) == ⟨#[97]⟩) = true := by decide
  have HON := Lib.hid (HON.out.alloc (.cells #[.int .i64 0, .int .i64 2] 3))
  clear hb8
  go_wp2_with fail
  refine HSI.out.mono ?_
  rintro e w9 ⟨rfl, q9, rfl⟩
  have HON := Lib.hid (HON.out.drewN q9)
  have HLD := Lib.hid (load_any 0 F5 g 3 exV3 _ HON.out.tl)
  rw [HOK.out.2.2.2.2.2.2.2.2.2.1] at HLD
  clear hcv
  go_wp2_with fail
  refine HLD.out.mono ?_
  rintro e w10 ⟨A10, n10, c10, rfl, ho10, hb10⟩
  have HON := Lib.hid (HON.out.kept hb10)
  have hcv := conv_rd A10 n10 c10 [120] w10 ho10.rd
  have hlit2 : ((⟨#[120]⟩ : ByteArray) == ⟨#[120]⟩) = true := by decide
  have kc6 := conv_const w10 w10.heap.size rfl #[.int .u8 98] 1 1
  have hs1 := Sl.const w10 [98] #[.int .u8 98] 1 w10.heap.size rfl rfl rfl (1, 2) (by simp [maxLen])
  have hon2 := HON.out.alloc (.cells #[.int .u8 98] 5 (1, 2))
  have HHV := Lib.hid (have_any 2 (some ⟨w10.heap.size, 0, none⟩) 1 1 [98] F5 g 3 exV3 _ hon2.tl hs1.rd)
  rw [HOK.out.2.2.2.2.2.2.2.2.2.2] at HHV
  have HON := Lib.hid hon2
  clear ho10 hb10 hs1 hon2
  go_wp2_with fail
  refine HHV.out.mono ?_
  rintro e w11 ⟨B11, m11, q11, rfl, hi11, hb11⟩
  have HON := Lib.hid (HON.out.kept hb11)
  have HSI := Lib.hid (sameInts_self B11 (some ⟨w11.heap.size, 0, none⟩) m11 1 q11 1 (w11.alloc (.cells #[.int .i64 1] 3)) [1] ((hi11.below ((Below.refl w11.heap.size w11).alloc (Nat.le_refl _) _)).rd) (Rd.new w11 [.int .i64 1] 3) hi11.cap)
  have HON := Lib.hid (HON.out.alloc (.cells #[.int .i64 1] 3))
  clear hi11 hb11 hcv kc6
  go_wp2_with fail
  refine HSI.out.mono ?_
  rintro e w12 ⟨rfl, q12, rfl⟩
  have HB := Lib.hid (HON.out.drewN q12).be
  go_wp2_with fail
  go_ret
  exact ⟨rfl, HB.out⟩
end Go.Proofs.Ytckmjpbkcpmdpaa
