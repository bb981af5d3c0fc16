import PyProof.Rows.All
import Wide.All
import OpenK.AllK
import Wide.FinOn
import KE.KStateDown
import HandS.ForMost
import HandS.Lambda
import HandS.HeadWalk
import HandS.Head2
import HandS.HeadHook4
import HandS.Style
import HandS.IsInst
import HandS.WordsExc
import HandS.ExcOwn
import HandS.Star
import HandS.NoneIn
import HandS.DictComp
import HandS.ListItems
import HandS.SetFor
import HandS.Evl
import PySem.Challenge.RW_letterround_k11_whole_claims
import KE.GoesEnum
import KE.GoesZip
import KE.GoesMore
import HandS.Walk
import HandS.ExcInit
import HandS.ExcField
import HandS.TryMany
import HandS.Defaults
import HandS.HeadHook1
import HandS.Codes
import HandS.Base
import HandS.Call
import HandS.List
import HandS.Keys
import KE.KIsAll
import HandS.Dict
import HandS.Iter
import HandS.Comp
import PyProof.CompUse
import HandS.Sort
import HandS.SortOrd
import HandS.SortRule
import PyProof.Rows.SortKeyStr
import PyProof.DictKinds
import KE.KLam
import HandS.Gcd
import KE.KMathGC
import KE.KTupSum
import PyProof.FString5
import HandS.Conv
import HandS.TupLen
import HandS.DictTup
import HandS.Finally
import KE.KDictItemsList
import KE.KDictPairs
import KE.DataFind
import HandS.DeepEq
import KE.KDictZip
import KE.KItemsList
import HandS.More
import KE.KDictSum
import KE.KDictCopyH
import HandS.EndBits
import HandS.EndTab
import PyProof.ReprRoads
set_option Elab.async false
set_option linter.all false
set_option maxRecDepth 100000
set_option maxHeartbeats 4000000
namespace K11
open PySem PySem.Spec PyProof.Rows L2
abbrev FnP (K : PySem.W.Frag) (x : Str) (st : Stmt) (f : Addr) (fd : FuncData) : Prop := FunD K x x (defArgs st) (defBody st) (defScope st) [] [] f fd
def top (i : Nat) : Stmt := PySem.Challenge.pw_letterround_k11_whole_claims.main.body.getD i (.Pass ⟨0, 0, 0, 0⟩)
abbrev sDraw : Stmt := top 57
/-- the stream at p, its cells at c, at most n draws so far -/
def StrN (H : Hp) (p c : Addr) (n L : Nat) : Prop := ∃ (cells : List Int) (a k m : Int), H p = some (.lst [.ref c, .int a, .int k, .int m]) ∧ H c = some (.lst (cells.map V.int)) ∧ cells.length = L ∧ L ≤ 63 ∧ 0 ≤ a ∧ 0 ≤ k ∧ k ≤ n ∧ 0 ≤ m ∧ m < 2147483647
def StrAt (H : Hp) (p c : Addr) (n : Nat) : Prop := ∃ L, StrN H p c n L
theorem str_ne {H : Hp} {p c : Addr} {n L : Nat} (h : StrN H p c n L) : p ≠ c := by
  obtain ⟨cells, a, k, m, h1, h2, _⟩ := h
  refine ne_of h1 h2 fun z => ?_
  injection z with z
  cases cells with
  | nil => cases z
  | cons i r =>
    rw [List.map_cons] at z
    injection z with z1 z2
    cases z1
theorem StrN.set {H : Hp} {p c : Addr} {n' L : Nat} {cells : List Int} {a k m : Int} (h2 : H c = some (.lst (cells.map V.int))) (hne : p ≠ c) (hL : cells.length = L) (hL' : L ≤ 63) (ha : 0 ≤ a) (hk : 0 ≤ k) (hk' : k ≤ n') (hm : 0 ≤ m) (hm' : m < 2147483647) :
    StrN (upd H p (.lst [.ref c, .int a, .int k, .int m])) p c n' L := ⟨cells, a, k, m, upd_same, by rw [upd_ne hne.symm]; exact h2, hL, hL', ha, hk, hk', hm, hm'⟩
theorem StrN.keep {H H' : Hp} {p c : Addr} {n L : Nat} (h : StrN H p c n L) (e : ∀ b o, H b = some o → H' b = some o) : StrN H' p c n L := by
  obtain ⟨cells, a, k, m, h1, h2, r⟩ := h
  exact ⟨cells, a, k, m, e _ _ h1, e _ _ h2, r⟩
theorem StrAt.keep {H H' : Hp} {p c : Addr} {n : Nat} (h : StrAt H p c n) (e : ∀ b o, H b = some o → H' b = some o) : StrAt H' p c n := by
  obtain ⟨L, h⟩ := h
  exact ⟨L, h.keep e⟩
theorem StrAt.new {H : Hp} {p c q : Addr} {n : Nat} {o : HO} (h : StrAt H p c n) (hq : H q = none) : StrAt (upd H q o) p c n := h.keep fun b u e => by
  rw [upd_ne (ne_of_none e hq)]
  exact e
theorem StrAt.mono {H : Hp} {p c : Addr} {n n' : Nat} (h : StrAt H p c n) (hn : n ≤ n') : StrAt H p c n' := by
  obtain ⟨L, cells, a, k, m, h1, h2, h3, h4, h5, h6, h7, h8⟩ := h
  exact ⟨L, cells, a, k, m, h1, h2, h3, h4, h5, h6, by omega, h8⟩
/-- all but the stream stays -/
def Kp (p c : Addr) (H H' : Hp) : Prop := ∀ b o, H b = some o → b ≠ p → b ≠ c → H' b = some o
theorem Kp.refl {p c : Addr} (H : Hp) : Kp p c H H := fun _ _ e _ _ => e
theorem Kp.trans {p c : Addr} {H H1 H2 : Hp} (a : Kp p c H H1) (b : Kp p c H1 H2) : Kp p c H H2 := fun x o e h1 h2 => b x o (a x o e h1 h2) h1 h2
theorem Kp.new {p c q : Addr} {o : HO} {H H' : Hp} (a : Kp p c H H') (h : H' q = none) : Kp p c H (upd H' q o) := fun x u e h1 h2 => by
  have := a x u e h1 h2
  rw [upd_ne (ne_of_none this h)]
  exact this
theorem Kp.stream {p c : Addr} {o : HO} {H H' : Hp} (a : Kp p c H H') : Kp p c H (upd H' p o) := fun x u e h1 h2 => by
  rw [upd_ne h1]
  exact a x u e h1 h2
theorem Kp.cells {p c : Addr} {o : HO} {H H' : Hp} (a : Kp p c H H') : Kp p c H (upd H' c o) := fun x u e h1 h2 => by
  rw [upd_ne h2]
  exact a x u e h1 h2
theorem StrAt.ne {H : Hp} {p c q : Addr} {n : Nat} (h : StrAt H p c n) (hq : H q = none) : q ≠ p ∧ q ≠ c := by
  obtain ⟨L, cells, a, k, m, h1, h2, r⟩ := h
  exact ⟨(ne_of_none h1 hq).symm, (ne_of_none h2 hq).symm⟩
theorem StrAt.upd {H : Hp} {p c q : Addr} {n : Nat} {o : HO} (h : StrAt H p c n) (h1 : q ≠ p) (h2 : q ≠ c) : StrAt (L2.upd H q o) p c n := by
  obtain ⟨L, cells, a, k, m, e1, e2, r⟩ := h
  exact ⟨L, cells, a, k, m, by rw [upd_ne h1.symm]; exact e1, by rw [upd_ne h2.symm]; exact e2, r⟩
theorem Kp.mut {p c q : Addr} {o : HO} {H H' : Hp} (a : Kp p c H H') (h : H q = none) : Kp p c H (L2.upd H' q o) := fun x u e h1 h2 => by
  rw [upd_ne (ne_of_none e h)]
  exact a x u e h1 h2
theorem seq_nat {n j : Nat} (hj : j < n) : seqIndex? (j : Int) n = some j := (ixN_seq (Evl.ixN_nat hj)).1
/-- len of a list or tuple -/
abbrev rLn (K : PySem.W.Frag) : List V → Hp → VK → Prop := fun xs H Q => ∃ p ys, xs = [.ref p] ∧ (SqL K H p ys ∨ SqT K H p ys) ∧ Q (.int ys.length) H
def spDraw : Sp := fun vs H Q _ => ∃ (p c : Addr) (n : Nat) (many : Int), vs = [.ref p, .int many] ∧ StrAt H p c n ∧ n ≤ 1000000000 ∧ 1 ≤ many ∧ many < 1073741824 ∧
  ∀ (d : Int) (H' : Hp), 0 ≤ d → d < many → Kp p c H H' → StrAt H' p c (n + 1) → Q (.int d) H'
theorem dpa_ints {K : PySem.W.Frag} {H : Hp} : ∀ ns : List Int, DpAll K H (ns.map V.int) (ns.map PyData.int)
  | [] => .nil
  | n :: r => .cons (.int n) (dpa_ints r)
theorem dp_ints {K : PySem.W.Frag} {H : Hp} {a : Addr} {ns : List Int} (h : SqL K H a (ns.map V.int)) : Dp K H (.ref a) (.list (ns.map PyData.int)) := .lst h (dpa_ints ns)
theorem lay_ints : ∀ ns : List Int, PyData.canLayAll0 (ns.map PyData.int) = true
  | [] => by simp [PyData.canLayAll0]
  | n :: r => by simp [PyData.canLayAll0, PyData.canLay0, lay_ints r]
theorem depth_ints : ∀ ns : List Int, PyData.depthAll (ns.map PyData.int) = 0
  | [] => by simp [PyData.depthAll]
  | n :: r => by simp [PyData.depthAll, PyData.depth, depth_ints r]
theorem shaped_ints (ns : List Int) : SeqAt.shaped (.list (ns.map PyData.int)) = true := by
  unfold SeqAt.shaped
  simp [PyData.canLay0, PyData.depth, lay_ints, depth_ints]
theorem eqv_nil_ints : ∀ ns : List Int, PyData.eqv (.list (ns.map PyData.int)) (.list []) = ns.isEmpty
  | [] => by simp [PyData.eqv, PyData.eqvAll]
  | n :: r => by simp [PyData.eqv, PyData.eqvAll]
section
variable {P : Program} {w : World} {K : PySem.W.Frag} {mg : Str → Option Value} {base : Heap}
theorem scDraw : FnScope ["stream", "many", "cell", "digit", "mixed"] ["stream", "many"] (defScope sDraw) := ⟨rfl, rfl, rfl, by decide +kernel, rfl, by decide +kernel, by decide +kernel⟩
theorem ok_draw {f : Addr} {fd : FuncData} (F : FnP K "_law_draw" sDraw f fd) (gI : mg "int" = none) : FnOk P w K mg base CX0 1 f fd ["stream", "many"] spDraw := by
  refine F.ok scDraw (fun vs H Q E h => ?_) (fun cdv A outer s H vs Q E hr h => ?_)
  · obtain ⟨p, c, n, many, rfl, _⟩ := h
    rfl
  · obtain ⟨p, c, n, many, rfl, hS, hn, hm1, hm2, k⟩ := h
    refine ⟨_, PSs.nox (pss_cons (ps_asg (pe_op op_add (pe_ix ix_list (pv 0) pe_int (fun _ _ => rfl)) pe_int) (pg_sub (pv 0) pe_int set_list))
      (Evl.pss_cut (ps_while PassesOwn.never (PW.pt (pw_and (pt_cmpR op_eq (pe_ix ix_list (pv 0) pe_int (fun _ _ => rfl)) pe_int (nomark _)) (pw_and1 (pt_cmpR (op_neD hr.units) (pe_ix ix_list (pv 0) pe_int (fun _ _ => rfl)) (pe_lst pa_nil) (nomark _)))))
        (pss_cons (ps_set (i := 2) scDraw.nd rfl (.inl rfl) (pe_bm PySem.F.plainAttrs_list PySem.F.slot_list_pop PySem.F.type_list_pop mt_popAt (pe_ix ix_list (pv 0) pe_int (fun _ _ => rfl)) (pa_cons pe_int pa_nil)))
        (pss_cons (ps_asg (pe_op op_mod (pe_callTy call_int1 rfl gI (by decide +kernel) (pa_cons (pe_op op_add (pe_op op_add (pe_op op_mul (pe_ix ix_list (pv 0) pe_int (fun _ _ => rfl)) pe_int) (pv 2)) pe_int) pa_nil)) pe_int) (pg_sub (pv 0) pe_int set_list))
        (pss_one (ps_asg (pe_ifExp (pt_cmpR op_ge (pv 2) (pe_op op_pow pe_int pe_int) (nomark _)) (pv 2) pe_int) (pg_sub (pv 0) pe_int set_list))))))
      (pss_cons (ps_if (pt_cmpR op_gt (pe_ix ix_list (pv 0) pe_int (fun _ _ => rfl)) pe_int (nomark _))
        (pss_cons (ps_set (i := 3) scDraw.nd rfl (.inl rfl) (pe_op op_mod (pe_callTy call_int1 rfl gI (by decide +kernel) (pa_cons (pe_ix ix_list (pv 0) pe_int (fun _ _ => rfl)) pa_nil)) (pv 1)))
        (pss_cons (ps_asg (pe_op op_fdiv (pe_ix ix_list (pv 0) pe_int (fun _ _ => rfl)) (pv 1)) (pg_sub (pv 0) pe_int set_list))
        (pss_one (ps_ret (pv 3))))) pss_nil)
      (pss_cons (ps_set (i := 4) scDraw.nd rfl (.inl rfl) (pe_op op_mod (pe_callTy call_int1 rfl gI (by decide +kernel) (pa_cons (pe_op op_pow (pe_op op_add (pe_op op_add (pe_ix ix_list (pv 0) pe_int (fun _ _ => rfl)) (pe_op op_mul pe_int (pe_ix ix_list (pv 0) pe_int (fun _ _ => rfl)))) pe_int) pe_int) pa_nil)) pe_int))
      (pss_one (ps_ret (pe_op op_mod (pe_op op_mod (pe_callTy call_int1 rfl gI (by decide +kernel) (pa_cons (pe_op op_pow (pe_op op_add (pe_op op_add (pe_op op_mul (pv 4) pe_int) (pe_op op_mul pe_int (pe_ix ix_list (pv 0) pe_int (fun _ _ => rfl)))) pe_int) pe_int) pa_nil)) pe_int) (pv 1)))))))), ?_⟩
    obtain ⟨L, hS⟩ := hS
    have hpc := str_ne hS
    obtain ⟨cells, a, kk, m, h1, h2, hL, hL6, ha, hk0, hk, hm0, hm⟩ := hS
    refine ⟨_, rfl, p, _, _, _, rfl, rfl, SqL.of h1, rfl, _, _, rfl, rfl, _, rfl, p, _, _, 2, rfl, rfl, h1, rfl, ?_⟩
    show tSeq _ _ _ _ (upd H p (.lst [.ref c, .int a, .int (kk + 1), .int m]))
    have S1 : StrN (upd H p (.lst [.ref c, .int a, .int (kk + 1), .int m])) p c (n + 1) L := StrN.set h2 hpc hL hL6 ha (by omega) (by omega) hm0 hm
    have K1 : Kp p c H (upd H p (.lst [.ref c, .int a, .int (kk + 1), .int m])) := (Kp.refl H).stream
    generalize upd H p (.lst [.ref c, .int a, .int (kk + 1), .int m]) = H1 at S1 K1
    refine ⟨fun σ H' => ∃ v2 v3 v4, σ = [some (.ref p), some (.int many), v2, v3, v4] ∧ Kp p c H H' ∧ ∃ L, StrN H' p c (n + 1) L, ⟨fun L σ H' => ∃ v2 v3 v4, σ = [some (.ref p), some (.int many), v2, v3, v4] ∧ Kp p c H H' ∧ StrN H' p c (n + 1) L, ⟨L, none, none, none, rfl, K1, S1⟩, ?_⟩, ?_⟩
    · rintro L' σ H' ⟨v2, v3, v4, rfl, K2, S2⟩
      obtain ⟨cells', a', k', m', g1, g2, gL, gL6, ga, gk0, gk, gm0, gm⟩ := id S2
      refine ⟨_, rfl, p, _, _, _, rfl, rfl, SqL.of g1, rfl, rfl, _, rfl, ?_⟩
      refine ite2 (fun hz => ?_) (fun hz => ⟨v2, v3, v4, rfl, K2, L', S2⟩)
      refine ⟨_, rfl, p, _, _, _, rfl, rfl, SqL.of g1, rfl, Nat.zero_le _, fun q hq => ?_⟩
      have nqp : p ≠ q := ne_of_none g1 hq
      have nqc : c ≠ q := ne_of_none g2 hq
      have S3 : StrN (upd H' q (.lst [])) p c (n + 1) L' := S2.keep fun b u e => by rw [upd_ne (ne_of_none e hq)]; exact e
      have K3 : Kp p c H (upd H' q (.lst [])) := K2.new hq
      refine ⟨_, _, dp_ints (ns := cells') (SqL.of (by rw [upd_ne nqc]; exact g2)), dp_ints (ns := []) (SqL.of upd_same), shaped_ints _, shaped_ints _, _, rfl, ?_⟩
      rw [show (List.map PyData.int ([] : List Int)) = [] from rfl, eqv_nil_ints]
      have g1' : upd H' q (.lst []) p = some (.lst [.ref c, .int a', .int k', .int m']) := by rw [upd_ne nqp]; exact g1
      have g2' : upd H' q (.lst []) c = some (.lst (cells'.map V.int)) := by rw [upd_ne nqc]; exact g2
      generalize upd H' q (.lst []) = H3 at S3 K3 g1' g2'
      cases cells' with
      | nil => exact iteF ⟨v2, v3, v4, rfl, K3, L', S3⟩
      | cons z r =>
        refine iteT ⟨fun σ' H' => ∃ v2 v3 v4, σ' = [some (.ref p), some (.int many), v2, v3, v4] ∧ Kp p c H H' ∧ StrN H' p c (n + 1) r.length, fun σ' H' q => ⟨r.length, by rw [← gL]; exact Nat.lt_succ_self _, q⟩, ?_⟩
        refine ⟨_, rfl, p, _, _, _, rfl, rfl, SqL.of g1', rfl, .inl ⟨rfl, _, SqL.of g2'⟩, c, _, 0, 0, .int z, rfl, rfl, g2', by decide, by decide, by unfold seqIndex?; simp, rfl, ?_⟩
        have hr63 : r.length ≤ 63 := by
          rw [List.length_cons] at gL
          omega
        have g1c : upd H3 c (.lst (r.map V.int)) p = some (.lst [.ref c, .int a', .int k', .int m']) := by rw [upd_ne hpc]; exact g1'
        have g2c : upd H3 c (.lst (r.map V.int)) c = some (.lst (r.map V.int)) := upd_same
        have K4 : Kp p c H (upd H3 c (.lst (r.map V.int))) := K3.cells
        show tSeq _ _ _ _ (upd H3 c (.lst (r.map V.int)))
        generalize upd H3 c (.lst (r.map V.int)) = H4 at g1c g2c K4
        refine ⟨_, rfl, p, _, _, _, rfl, rfl, SqL.of g1c, rfl, _, _, rfl, rfl, .inr (by decide), _, rfl, _, _, rfl, rfl, _, _, rfl, rfl, .inl ⟨_, rfl, _, _, rfl, rfl, by show (0 : Int) < 2147483647; decide, ?_⟩⟩
        have hmm := Int.emod_nonneg (m' * 8191 + z + 3) (b := 2147483647) (by decide)
        have hmm2 := Int.emod_lt_of_pos (m' * 8191 + z + 3) (b := 2147483647) (by decide)
        refine ⟨_, rfl, p, _, _, 3, rfl, rfl, g1c, rfl, ?_⟩
        dsimp only [List.set]
        have g1d : upd H4 p (.lst [.ref c, .int a', .int k', .int ((m' * 8191 + z + 3) % 2147483647)]) p = some (.lst [.ref c, .int a', .int k', .int ((m' * 8191 + z + 3) % 2147483647)]) := upd_same
        have g2d : upd H4 p (.lst [.ref c, .int a', .int k', .int ((m' * 8191 + z + 3) % 2147483647)]) c = some (.lst (r.map V.int)) := by rw [upd_ne hpc.symm]; exact g2c
        have K5 : Kp p c H (upd H4 p (.lst [.ref c, .int a', .int k', .int ((m' * 8191 + z + 3) % 2147483647)])) := K4.stream
        generalize upd H4 p (.lst [.ref c, .int a', .int k', .int ((m' * 8191 + z + 3) % 2147483647)]) = H5 at g1d g2d K5
        refine ⟨_, rfl, _, _, rfl, rfl, ⟨by decide, by decide, by decide⟩, _, _, rfl, rfl, _, rfl, ?_⟩
        refine ite2 (fun hge => ⟨_, rfl, _, rfl, p, _, _, 1, rfl, rfl, g1d, rfl, ?_⟩) (fun _ => ⟨_, rfl, p, _, _, 1, rfl, rfl, g1d, rfl, ?_⟩)
        · have hz0 : 0 ≤ z := by
            have := of_decide_eq_true hge
            have e : (10 : Int) ^ (18 : Int).toNat = 1000000000000000000 := by decide
            rw [e] at this
            omega
          exact ⟨_, _, _, rfl, K5.stream, StrN.set g2d hpc rfl hr63 hz0 gk0 gk hmm hmm2⟩
        · exact ⟨_, _, _, rfl, K5.stream, StrN.set g2d hpc rfl hr63 (Int.le_refl 0) gk0 gk hmm hmm2⟩
    · rintro σ H' ⟨v2, v3, v4, rfl, K2, L', S2⟩
      obtain ⟨cells', a', k', m', g1, g2, gL, gL6, ga, gk0, gk, gm0, gm⟩ := id S2
      refine ⟨_, rfl, p, _, _, _, rfl, rfl, SqL.of g1, rfl, _, _, rfl, rfl, _, rfl, ?_⟩
      refine ite2 (fun hz => ?_) (fun hz => ?_)
      · have hpos : 0 < a' := of_decide_eq_true hz
        refine ⟨_, rfl, p, _, _, _, rfl, rfl, SqL.of g1, rfl, .inl ⟨_, rfl, _, rfl, _, _, rfl, rfl, by show (0 : Int) < many; omega, ?_⟩⟩
        refine ⟨_, rfl, p, _, _, _, rfl, rfl, SqL.of g1, rfl, _, rfl, _, _, rfl, rfl, ⟨by omega, by omega⟩, _, rfl, p, _, _, 1, rfl, rfl, g1, rfl, ?_⟩
        refine ⟨_, rfl, ?_⟩
        refine k _ _ (Int.emod_nonneg _ (by omega)) (Int.emod_lt_of_pos _ (by omega)) K2.stream ⟨L', StrN.set g2 hpc gL gL6 (Int.ediv_nonneg (by omega) (by omega)) gk0 gk gm0 gm⟩
      · have b1 : 0 ≤ m' + 7919 * k' + 104729 := by omega
        have b2 : m' + 7919 * k' + 104729 < 2 ^ 60 := by omega
        refine ⟨_, rfl, p, _, _, _, rfl, rfl, SqL.of g1, rfl, _, rfl, p, _, _, _, rfl, rfl, SqL.of g1, rfl, _, _, rfl, rfl, .inl (by decide), _, _, rfl, rfl, _, _, rfl, rfl, _, _, rfl, rfl, ⟨by decide, by decide, by omega⟩, .inl ⟨_, rfl, _, _, rfl, rfl, by show (0 : Int) < 2147483629; decide, ?_⟩⟩
        have hmm := Int.emod_nonneg ((m' + 7919 * k' + 104729) ^ (5 : Int).toNat) (b := 2147483629) (by decide)
        have hmm2 := Int.emod_lt_of_pos ((m' + 7919 * k' + 104729) ^ (5 : Int).toNat) (b := 2147483629) (by decide)
        dsimp only [gName]
        generalize (m' + 7919 * k' + 104729) ^ (5 : Int).toNat % 2147483629 = mx at hmm hmm2 ⊢
        refine ⟨_, rfl, _, _, rfl, rfl, .inr (by decide), _, rfl, p, _, _, _, rfl, rfl, SqL.of g1, rfl, _, _, rfl, rfl, .inl (by decide), _, _, rfl, rfl, _, _, rfl, rfl, _, _, rfl, rfl, ⟨by decide, by decide, by omega⟩, .inl ⟨_, rfl, _, _, rfl, rfl, by show (0 : Int) < 1000000007; decide, _, rfl, _, _, rfl, rfl, by show (0 : Int) < many; omega, ?_⟩⟩
        exact k _ _ (Int.emod_nonneg _ (by omega)) (Int.emod_lt_of_pos _ (by omega)) K2 ⟨L', S2⟩

/-! ### _law_start, _law_pick, _law_mixed -/
abbrev sStart : Stmt := top 56
def spStart (K : PySem.W.Frag) : Sp := fun vs H Q _ => ∃ (a : Addr) (ns : List Int), vs = [.ref a] ∧ SqL K H a (ns.map V.int) ∧ ns.length ≤ 63 ∧
  ∀ (p c : Addr) (H' : Hp), H p = none → H c = none → (∀ b o, H b = some o → H' b = some o) → StrAt H' p c 0 → Q (.ref p) H'
theorem scStart : FnScope ["script"] ["script"] (defScope sStart) := ⟨rfl, rfl, rfl, by decide +kernel, rfl, by decide +kernel, by decide +kernel⟩
theorem ok_start {f : Addr} {fd : FuncData} (F : FnP K "_law_start" sStart f fd) (gL : mg "list" = none) : FnOk P w K mg base CX0 1 f fd ["script"] (spStart K) := by
  refine F.ok scStart (fun vs H Q E h => ?_) (fun cdv A outer s H vs Q E hr h => ?_)
  · obtain ⟨a, ns, rfl, _⟩ := h
    rfl
  · obtain ⟨a, ns, rfl, hS, hl, k⟩ := h
    refine ⟨_, PSs.nox (pss_one (ps_ret (pe_lst (pa_cons (pe_callTy call_list_of rfl gL (by decide +kernel) (pa_cons (pv 0) pa_nil)) (pa_cons pe_int (pa_cons pe_int (pa_cons pe_int pa_nil))))))), ?_⟩
    refine ⟨_, rfl, a, _, rfl, .inl hS, fun c hc => ⟨by show 4 ≤ sizeLine; decide, fun p hp => ?_⟩⟩
    have hpc : p ≠ c := fun e => by
      rw [e, upd_same] at hp
      cases hp
    refine k p c _ (by rw [upd_ne hpc] at hp; exact hp) hc (fun b o e => ?_) ⟨ns.length, ns, 0, 0, 11, upd_same, by rw [upd_ne hpc.symm]; exact upd_same, rfl, hl, Int.le_refl _, Int.le_refl _, Int.le_refl _, by decide, by decide⟩
    have hbc := ne_of_none e hc
    have hbp : b ≠ p := fun z => by
      rw [z] at e
      rw [upd_ne hpc, e] at hp
      cases hp
    rw [upd_ne hbp, upd_ne hbc]
    exact e

abbrev sPick : Stmt := top 58
/-- some: a list | a tuple that is no part of the stream -/
def spPick (K : PySem.W.Frag) : Sp := fun vs H Q _ => ∃ (p c l : Addr) (n : Nat) (xs : List V), vs = [.ref p, .ref l] ∧ StrAt H p c n ∧ n ≤ 1000000000 ∧ l ≠ p ∧ l ≠ c ∧ (H l = some (.lst xs) ∨ H l = some (.tup xs)) ∧ 1 ≤ xs.length ∧ xs.length < 1000000 ∧
  ∀ (x : V) (j : Nat) (H' : Hp), xs[j]? = some x → Kp p c H H' → StrAt H' p c (n + 1) → Q x H'
theorem scPick : FnScope ["stream", "some"] ["stream", "some"] (defScope sPick) := ⟨rfl, rfl, rfl, by decide +kernel, rfl, by decide +kernel, by decide +kernel⟩
theorem ok_pick {f fD : Addr} {fd fdD : FuncData} (F : FnP K "_law_pick" sPick f fd) (FD : FnP K "_law_draw" sDraw fD fdD) (gI : mg "int" = none) (gD : mg "_law_draw" = some (.ref fD)) (gL : mg "len" = none) : FnOk P w K mg base CX0 2 f fd ["stream", "some"] (spPick K) := by
  have GD : FnOk P w K mg base CX0 1 fD fdD ["stream", "many"] spDraw := ok_draw FD gI
  have bD : Binds K fdD ["stream", "many"] [] := FD.bindsN fun _ _ _ _ _ _ us hl => match us, hl with | [_, _], _ => rfl
  refine F.ok scPick (fun vs H Q E h => ?_) (fun cdv A outer s H vs Q E hr h => ?_)
  · obtain ⟨p, c, l, n, xs, rfl, _⟩ := h
    rfl
  · obtain ⟨p, c, l, n, xs, rfl, hS, hn, hlp, hlc, hl, h1, h2, k⟩ := h
    refine ⟨_, PSs.nox (pss_one (ps_ret (pe_ix ix_seq (pv 1) (pe_call GD hr rfl gD FD.kp bD .nil pass0 (pa_cons (pv 0) (pa_cons (pe_callB call_len_seq (by rfl) gL PySem.boot_len (pa_cons (pv 1) pa_nil)) pa_nil))) (fun _ _ => rfl)))), ?_⟩
    refine ⟨_, rfl, _, rfl, _, rfl, l, xs, rfl, hl.imp SqL.of SqT.of, p, c, n, (xs.length : Int), rfl, hS, hn, by omega, by omega, fun d H' d0 d1 hK hS' => ?_⟩
    obtain ⟨j, rfl⟩ : ∃ j : Nat, d = (j : Int) := ⟨d.toNat, by omega⟩
    have hj : j < xs.length := by omega
    have ex : xs[j]? = some xs[j] := List.getElem?_eq_getElem hj
    rcases hl with hl | hl
    · exact .inl ⟨l, xs, (j : Int), _, rfl, rfl, SqL.of (hK l _ hl hlp hlc), atI_nat ex, k _ j _ ex hK hS'⟩
    · exact .inr (.inl ⟨l, xs, (j : Int), _, rfl, rfl, SqT.of (hK l _ hl hlp hlc), atI_nat ex, k _ j _ ex hK hS'⟩)

abbrev sMixed : Stmt := top 59
def spMixed (K : PySem.W.Frag) : Sp := fun vs H Q _ => ∃ (p c l : Addr) (n : Nat) (xs : List V), vs = [.ref p, .ref l] ∧ StrAt H p c n ∧ n + xs.length ≤ 1000000000 ∧ (SqL K H l xs ∨ SqT K H l xs) ∧ xs.length ≤ 1000 ∧
  ∀ (q : Addr) (ys : List V) (H' : Hp), H q = none → H' q = some (.lst ys) → ys.Perm xs → Kp p c H H' → StrAt H' p c (n + xs.length) → Q (.ref q) H'
theorem perm_erase {α : Type} {l : List α} {j : Nat} {x : α} (h : l[j]? = some x) : (x :: l.eraseIdx j).Perm l := by
  induction l generalizing j with
  | nil => simp at h
  | cons a r ih =>
    cases j with
    | zero =>
      simp only [List.getElem?_cons_zero, Option.some.injEq] at h
      subst h
      simp
    | succ j =>
      simp only [List.getElem?_cons_succ] at h
      rw [List.eraseIdx_cons_succ]
      exact (List.Perm.swap a x _).trans ((ih h).cons a)
theorem scMixed : FnScope ["stream", "some", "left", "k"] ["stream", "some"] (defScope sMixed) := ⟨rfl, rfl, rfl, by decide +kernel, rfl, by decide +kernel, by decide +kernel⟩
theorem ok_mixed {f fD : Addr} {fd fdD : FuncData} (F : FnP K "_law_mixed" sMixed f fd) (FD : FnP K "_law_draw" sDraw fD fdD) (gI : mg "int" = none) (gD : mg "_law_draw" = some (.ref fD)) (gL : mg "len" = none) (gLi : mg "list" = none) (gR : mg "range" = none) : FnOk P w K mg base CX0 2 f fd ["stream", "some"] (spMixed K) := by
  have GD : FnOk P w K mg base CX0 1 fD fdD ["stream", "many"] spDraw := ok_draw FD gI
  have bD : Binds K fdD ["stream", "many"] [] := FD.bindsN fun _ _ _ _ _ _ us hl => match us, hl with | [_, _], _ => rfl
  refine F.ok scMixed (fun vs H Q E h => ?_) (fun cdv A outer s H vs Q E hr h => ?_)
  · obtain ⟨p, c, l, n, xs, rfl, _⟩ := h
    rfl
  · obtain ⟨p, c, l, n, xs, rfl, hS, hn, hl, hx, k⟩ := h
    refine' ⟨_, PSs.nox (pss_cons (ps_set (i := 2) scMixed.nd rfl (.inr rfl) (pe_callTy call_list_of rfl gLi (by decide +kernel) (pa_cons (pv 1) pa_nil)))
      (pss_one (ps_ret ?lc))), ?rd⟩
    case lc =>
      refine pe_lc (own := [("k", 3)]) (g := gName 3) (tt := tYes) (te := tBM K "list" rPopAt (tVar 2) (tCons (tCall spDraw [] E0 (tCons (tVar 0) (tCons (tCB (rLn K) (tCons (tVar 2) tNil)) tNil))) tNil)) rfl scMixed.nd (pi_range1 rfl gR (pa_cons (pe_callB call_len_seq (by rfl) gL PySem.boot_len (pa_cons (pv 2) pa_nil)) pa_nil))
        (blkOk_by (own := [("k", 3)]) (N := ["stream", "some", "left", "k"]) (sc := defScope sMixed) (by decide +kernel)) (fun _ _ _ _ _ => pg_name (i := 3) scMixed.nd rfl (.inl rfl)) (fun _ _ _ _ _ => pts_nil) ?_
      intro _ _ _ _ _
      exact pe_bm PySem.F.plainAttrs_list PySem.F.slot_list_pop PySem.F.type_list_pop mt_popAt (pv 2) (pa_cons (pe_call GD hr rfl gD FD.kp bD .nil pass0 (pa_cons (pv 0) (pa_cons (pe_callB call_len_seq (by rfl) gL PySem.boot_len (pa_cons (pv 2) pa_nil)) pa_nil))) pa_nil)
    refine ⟨_, rfl, l, xs, rfl, hl, fun t ht => ?_⟩
    have S1 : StrAt (upd H t (.lst xs)) p c n := hS.new ht
    refine ⟨_, rfl, t, xs, rfl, .inl (SqL.of upd_same), _, rfl, by omega, by omega, fun D hD => ?_⟩
    have hDt : t ≠ D := ne_of_none upd_same hD
    have hDH : H D = none := by rw [upd_ne hDt.symm] at hD; exact hD
    refine lc_range (lo := 0) (n := ((xs.length : Nat) : Int).toNat) (fun i H' => ∃ (left acc : List V), H' t = some (.lst left) ∧ H' D = some (.lst acc) ∧ left.length + i = xs.length ∧ acc.length = i ∧ (acc ++ left).Perm xs ∧ Kp p c H H' ∧ StrAt H' p c (n + i)) ?_ ?_ ?_
    · exact ⟨xs, [], by rw [upd_ne hDt]; exact upd_same, upd_same, by omega, rfl, List.Perm.refl _, ((Kp.refl H).new ht).new hD, S1.new hD⟩
    · rintro i H1 hi ⟨left, acc, e1, e2, e3, e4, e5, e6, e7⟩
      have hil : i < xs.length := by omega
      refine ⟨rfl, _, rfl, .inl ⟨rfl, _, SqL.of e1⟩, ?_⟩
      refine ⟨_, rfl, _, rfl, t, left, rfl, .inl (SqL.of e1), p, c, n + i, (left.length : Int), rfl, e7, by omega, by omega, by omega, fun d H2 d0 d1 hK hS2 => ?_⟩
      obtain ⟨S7a, S7b⟩ := hS.ne ht
      obtain ⟨S8a, S8b⟩ := hS.ne hDH
      obtain ⟨j, rfl⟩ : ∃ j : Nat, d = (j : Int) := ⟨d.toNat, by omega⟩
      have hj : j < left.length := by omega
      have ex : left[j]? = some left[j] := List.getElem?_eq_getElem hj
      have f1 := hK t _ e1 S7a S7b
      have f2 := hK D _ e2 S8a S8b
      refine ⟨t, left, (j : Int), j, left[j], rfl, rfl, f1, by omega, by omega, seq_nat hj, ex, ?_⟩
      refine ⟨acc, by rw [upd_ne hDt.symm]; exact f2, Nat.lt_of_lt_of_le (show acc.length < 1000 by omega) (by decide), left.eraseIdx j, acc ++ [left[j]], ?_, upd_same, ?_, ?_, ?_, ?_, ?_⟩
      · rw [upd_ne hDt]
        exact upd_same
      · rw [List.length_eraseIdx_of_lt hj]
        omega
      · rw [List.length_append, e4]
        rfl
      · refine List.Perm.trans ?_ e5
        rw [List.append_assoc]
        exact (perm_erase ex).append_left acc
      · exact ((e6.trans hK).mut ht).mut hDH
      · exact (hS2.upd S7a S7b).upd S8a S8b
    · rintro H1 ⟨left, acc, e1, e2, e3, e4, e5, e6, e7⟩
      have h0 : left = [] := by
        have : left.length = 0 := by omega
        exact List.length_eq_zero_iff.mp this
      subst h0
      have e8 : ((xs.length : Nat) : Int).toNat = xs.length := by omega
      rw [e8] at e7
      exact k D acc H1 hDH e2 (by rw [List.append_nil] at e5; exact e5) e6 e7
end
end K11

namespace Sq
open PySem PySem.Spec PyProof.Rows L2
/-! ### a list or a tuple, by a flag: t true for a tuple -/
def SqK (K : PySem.W.Frag) (H : Hp) (t : Bool) (a : Addr) (xs : List V) : Prop := match t with
  | true => SqT K H a xs
  | false => SqL K H a xs
def IsSq (t : Bool) (h : Heap) (a : Addr) (its : Array Value) : Prop := match t with
  | true => h.IsTuple a its
  | false => h.IsList a its
def IsIt (t : Bool) (h : Heap) (it a : Addr) (i : Nat) : Prop := match t with
  | true => h.IsTupleIter it a i
  | false => h.IsListIter it a i
def itObj (t : Bool) (a : Addr) : Obj := match t with
  | true => { cls := .type "tuple_iterator", data := .fields #[.ref a, .int 0 0] }
  | false => { cls := .type "list_iterator", data := .fields #[.ref a, .int 0 0] }
theorem itObj_it {t : Bool} {h : Heap} {it a : Addr} (e : h.get? it = some (itObj t a)) : IsIt t h it a 0 := by
  cases t <;> exact ⟨_, e, rfl, rfl⟩
theorem IsIt.at_ {t : Bool} {h h' : Heap} {it a : Addr} {i : Nat} (x : IsIt t h it a i) (k : ∀ o, h.get? it = some o → h'.get? it = some o) : IsIt t h' it a i := by
  cases t with
  | true => exact Heap.IsTupleIter.at x k
  | false => exact Heap.IsListIter.at x k
theorem IsIt.obj {t : Bool} {h : Heap} {it a : Addr} {i : Nat} (x : IsIt t h it a i) : ∃ o, h.get? it = some o ∧ ∀ v, o.data ≠ .cell v := by
  cases t <;> (obtain ⟨o, h1, _, h2⟩ := x; exact ⟨o, h1, fun v q => by rw [h2] at q; cases q⟩)
theorem draws {t : Bool} {prog : Program} {w : World} {A : Around} (hh : A.handled = none) (it a : Addr) (hne : a ≠ it) (its : Array Value) :
    Draws prog w A it [it, a] its.size (fun i v => its[i]? = some v) (fun i h => IsIt t h it a i ∧ IsSq t h a its) := by
  cases t with
  | true => exact Draws.tuple hh it a hne its
  | false => exact Draws.list hh it a hne its
theorem begins (t : Bool) (a : Addr) (its : Array Value) : Begins (.ref a) (itObj t a) fun h => IsSq t h a its := by
  cases t with
  | true => exact begins_tuple a its
  | false => exact begins_list a its
section
variable {X : Cx} {pins : List (Addr × Obj)} {σ : L2.St} {H : Hp} {s : Shared} {a : Addr} {xs ys : List V} {t : Bool}
theorem sq_get (I : Inv X pins σ H s) (h : SqK X.K H t a xs) : ∃ its : List Value, Vals xs its ∧ IsSq t s.heap a its.toArray := by
  cases t with
  | true =>
    obtain ⟨its, r, p, _⟩ := I.tuple h
    exact ⟨its, r, p⟩
  | false =>
    obtain ⟨its, r, p, _⟩ := I.list h
    exact ⟨its, r, p.isList⟩
theorem sq_inj (I : Inv X pins σ H s) (h : SqK X.K H t a xs) (h' : SqK X.K H t a ys) : xs = ys := by
  cases t with
  | true => exact I.tuple_inj h h'
  | false => exact I.list_inj h h'
theorem sq_live (I : Inv X pins σ H s) (h : SqK X.K H t a xs) : a < s.heap.objs.size := by
  obtain ⟨its, _, q⟩ := sq_get I h
  cases t <;> (obtain ⟨o, e, _⟩ := q; exact Heap.lt_size e)
end
theorem keepSq {t : Bool} {h h' : Heap} {a : Addr} {its : Array Value} (x : IsSq t h a its) (k : ∀ o, h.get? a = some o → h'.get? a = some o) : IsSq t h' a its := by
  cases t with
  | true =>
    obtain ⟨o, e, r⟩ := x
    exact ⟨o, k o e, r⟩
  | false =>
    obtain ⟨o, e, r⟩ := x
    exact ⟨o, k o e, r⟩
/-! ### enumerate of either -/
def ItE (K : PySem.W.Frag) (t : Bool) (a : Addr) : It :=
  ⟨fun i H => ∃ (xs : List V) (x : V), SqK K H t a xs ∧ xs[i]? = some x, fun i H v H' => ∃ T x, v = .ref T ∧ H T = none ∧ H' = upd H T (.tup [.int (i : Nat), x]) ∧ ∀ xs, SqK K H t a xs → xs[i]? = some x, fun i H => ∃ xs : List V, SqK K H t a xs ∧ xs.length = i⟩
theorem turnE {P : Program} {w : World} {K : PySem.W.Frag} {elts : List Expr} {kk : Nat} {tpos : Pos} (t : Bool) (a e it : Addr) (hne : e ≠ it) (hea : e ≠ a) (hia : a ≠ it) :
    Turn P w K (.Tuple elts kk tpos) (ItE K t a) [e, it] e (fun i h => (∃ old, IsEnum h e it (0 + (i : Int)) old) ∧ IsIt t h it a i) where
  mem := by simp
  obj := fun i h st b hb => by
    obtain ⟨⟨old, he⟩, hi⟩ := st
    rcases List.mem_cons.mp hb with z | z
    · rw [z]
      exact ⟨_, he, fun v q => nomatch q⟩
    · rw [List.mem_singleton.mp z]
      exact hi.obj
  keep := fun i h h' st k => by
    obtain ⟨⟨old, he⟩, hi⟩ := st
    exact ⟨⟨old, k e (by simp) _ he⟩, hi.at_ fun o q => k it (by simp) o q⟩
  item := by
    intro X hP hw hK hc i pins s σ H E I hf st hg
    subst hP hw hK
    obtain ⟨he, hi⟩ := st
    obtain ⟨xs, x, hq, hx⟩ := hg
    obtain ⟨its, rv, hsq⟩ := sq_get I hq
    obtain ⟨u, hu, ru⟩ := rv.get hx
    have hlt : i < its.toArray.size := by simpa using (List.getElem?_eq_some_iff.mp hu).1
    have hal := sq_live I hq
    have WT := WalksT.enumFrom (prog := X.prog) (w := X.w) (A := X.A) 0 (draws (t := t) (A := X.A.in1) (I.ok.hd hc) it a hia its.toArray) e hne (by simp [hne, hea]) (by simp)
    refine WT.item i s _ _ hlt ⟨he, hi, hsq⟩ fun T vals h' tk hv hT htup hmid hk => ?_
    refine ⟨_, rfl, WT.go elts kk tpos i T _ _ _ hmid fun h'' st' hk2 => ?_⟩
    obtain ⟨tok, y, hy, rfl⟩ := hv
    have ey : y = u := by
      have q : its.toArray[i]? = some u := by simpa using hu
      exact Option.some.inj (hy.symm.trans q)
    subst ey
    have tw := WT.apart i T _ hmid
    have new : ObjOk X.prog X.w (upd H T (.tup [.int (i : Nat), x])) h'' T (.tup [.int (i : Nat), x]) := by
      obtain ⟨o, ho, hcl, n, hd⟩ := htup
      refine ⟨by show 2 ≤ sizeLine; decide, [.int (0 + (i : Int)) tok, y], .cons ⟨tok, by rw [Int.zero_add]⟩ (.cons ru .nil), ⟨o, hk2 T o tw ho, hcl, n, hd⟩⟩
    have I1 : Inv X pins σ (upd H T (.tup [.int (i : Nat), x])) { s with heap := h'', toks := tk } := I.turnedNew (ch := [e, it]) (fun b o hb q => hk2 b o hb (hk b o hb q)) hf hT new
    have hn : H T = none := I.hok.fresh hT
    refine ⟨.ref T, _, I1, rfl, ⟨T, x, rfl, hn, rfl, fun zs hz => by rw [sq_inj I hz hq]; exact hx⟩, ⟨?_, st'.2.1⟩, fun b hb => ?_⟩
    · exact st'.1
    · have hbs : b < s.heap.objs.size := by
        rcases List.mem_cons.mp hb with z | z
        · obtain ⟨old, q⟩ := he
          rw [z]
          exact Heap.lt_size q
        · obtain ⟨o, q, _⟩ := hi.obj
          rw [List.mem_singleton.mp z]
          exact Heap.lt_size q
      rw [upd_ne (Nat.ne_of_lt (Nat.lt_of_lt_of_le hbs hT))]
      exact (hf b hb).1
  done := by
    intro X hP hw hK hc i pins s σ H E I hf st hg
    subst hP hw hK
    obtain ⟨he, hi⟩ := st
    obtain ⟨xs, hq, hx⟩ := hg
    obtain ⟨its, rv, hsq⟩ := sq_get I hq
    have hl := rv.length
    have en : its.toArray.size = i := by
      rw [List.size_toArray]
      omega
    have WT := WalksT.enumFrom (prog := X.prog) (w := X.w) (A := X.A) 0 (draws (t := t) (A := X.A.in1) (I.ok.hd hc) it a hia its.toArray) e hne (by simp [hne, hea]) (by simp)
    refine WT.done s _ _ (by rw [en]; exact ⟨he, hi, hsq⟩) fun h' tk hk => ⟨rfl, I.turnedL (ch := [e, it]) (fun b o hb q => hk b o hb q) hf⟩
  self := fun A i s Q E st h => let ⟨⟨_, he⟩, _⟩ := st; wpAny_pyIter_enum he h
theorem meets_enum {v : Value} {o : Obj} {H : Heap → Prop} (B : Begins v o H) :
    Meets (Builtin.«enumerate.__new__» ⟨[.type "enumerate", v], []⟩) (fun _ R s => H s.heap ∧
      R (.ok (.ret (.ref (s.heap.push o).objs.size))) { s with heap := (s.heap.push o).push { cls := .type "enumerate", data := .fields #[.none, .bool false, .ref s.heap.objs.size, rawInt 0, .none, .none] } }) :=
  .of_wp fun prog w A R s h => by
    obtain ⟨hp, g, d, tk, os⟩ := s
    obtain ⟨h1, h2⟩ := h
    have sub := sub_enumerate
    have it1 : ∀ {A' : Around} {E : Value → Shared → Prop} {Q : Value → Shared → Prop}, Q (.ref hp.objs.size) ⟨hp.push o, g, d, tk, os⟩ → wpAny (model prog w) A' (pyIter v) Q E ⟨hp, g, d, tk, os⟩ :=
      fun q => B.iter prog w _ _ ⟨hp, g, d, tk, os⟩ _ h1 q
    wp_walk using it1
    refine wpAny_stack_any fun st => wpAny_pure ?_
    split
    · rename_i c _ _ _ _ _
      cases (c == Value.type "enumerate") <;> (wp_walk using it1; exact ⟨_, rfl, h2⟩)
    · wp_walk using it1
      exact ⟨_, rfl, h2⟩
theorem call_enum {prog : Program} {w : World} {A : Around} {E : Value → Shared → Prop} {s : Shared} {v : Value} {o : Obj} {H : Heap → Prop} {Q : Value → Shared → Prop} (B : Begins v o H) (h1 : H s.heap)
    (h : ∀ h', IsEnum h' (s.heap.objs.size + 1) s.heap.objs.size 0 .none → h'.get? s.heap.objs.size = some o → (∀ b u, s.heap.get? b = some u → h'.get? b = some u) → Q (.ref (s.heap.objs.size + 1)) { s with heap := h' }) :
    wpAny (model prog w) A (call (.type "enumerate") [v]) Q E s := by
  refine callType_new F.called_enumerate (by decide) (F.typeCall_enumerate_1 _) (F.newCall_enumerate_1 _) (fun obj => F.args_object_init_2 obj _) F.entry_enumerate_new (meets_enum B) ⟨h1, ?_⟩
  have hz : (s.heap.push o).objs.size = s.heap.objs.size + 1 := Heap.size_push ..
  rw [hz]
  have he : IsEnum ((s.heap.push o).push { cls := .type "enumerate", data := .fields #[.none, .bool false, .ref s.heap.objs.size, rawInt 0, .none, .none] }) (s.heap.objs.size + 1) s.heap.objs.size 0 .none := by
    have q := Heap.get?_push_size (s.heap.push o) (o := { cls := .type "enumerate", data := .fields #[.none, .bool false, .ref s.heap.objs.size, rawInt 0, .none, .none] }) rfl
    rw [hz] at q
    exact q
  exact ⟨⟨_, he, rfl⟩, h _ he (Heap.get?_push_of_some _ (Heap.get?_push_size _ B.free)) fun b u x => Heap.get?_push_of_some _ (Heap.get?_push_of_some _ x)⟩
/-- enumerate(e), e a list or a tuple -/
def iEnumA (K : PySem.W.Frag) (ta : TA) : TI := fun σ H R => ta σ H fun vs H1 => ∃ t a xs, vs = [.ref a] ∧ SqK K H1 t a xs ∧ R (ItE K t a) H1
theorem pi_enumA {X : Cx} {e : Expr} {ta : TA} {p pos tpos : Pos} {elts : List Expr} {kk : Nat} (hg : Gl X "enumerate") (hm : X.mg "enumerate" = none) (ha : PA X [e] ta) (hs : starEach [e] X.env = [(false, eval e X.env)] := by rfl) :
    PI X (.Tuple elts kk tpos) (.Call (.Name "enumerate" p) [e] [] pos) (iEnumA X.K ta) := by
  refine ⟨fun pins s σ H R I h => ?_⟩
  refine Call_ (ld_blt I hg hm boot_enumerate (PyProof.Rows.callWith_type1 (thn (ha.run pos pins s σ H _ I h) fun us s1 hh => ?_) hs rfl))
  obtain ⟨vs, H1, I1, r1, t, a, xs, rfl, hq, q⟩ := hh
  cases r1 with
  | cons r rr =>
    cases rr
    cases r
    obtain ⟨its, rv, hsq⟩ := sq_get I1 hq
    have hal := sq_live I1 hq
    refine call_enum (begins t a its.toArray) hsq fun h' he hit hk => wpAny_pyIter_enum he ?_
    have I2 : Inv X pins σ H1 { s1 with heap := h' } := I1.kept (t' := s1.toks) hk
    have n1 : s1.heap.objs.size + 1 ≠ s1.heap.objs.size := Nat.succ_ne_self _
    have n2 : s1.heap.objs.size + 1 ≠ a := Nat.ne_of_gt (Nat.lt_succ_of_lt hal)
    refine ⟨s1.heap.objs.size + 1, _, _, _, H1, rfl, I2, turnE t a (s1.heap.objs.size + 1) s1.heap.objs.size n1 n2 (Nat.ne_of_lt hal), ⟨⟨.none, he⟩, itObj_it hit⟩, fun b hb => ?_, q⟩
    have hle : s1.heap.objs.size ≤ b := by
      rcases List.mem_cons.mp hb with z | z
      · rw [z]
        exact Nat.le_succ _
      · rw [List.mem_singleton.mp z]
        exact Nat.le_refl _
    exact I1.fpOk hle (I1.hok.fresh hle)
theorem walk_enumA {K : PySem.W.Frag} {t : Bool} {a : Addr} {xs : List V} : Walk (ItE K t a) xs.length (fun H => SqK K H t a xs) (YPair (fun i => some (.int (i : Nat))) (fun i => xs[i]?)) where
  goes := fun i _ hi q => ⟨xs, xs[i], q, by simp [hi]⟩
  stops := fun _ q => ⟨xs, q, rfl⟩
  yields := fun i H v H' _ q y => by
    obtain ⟨T, x, h1, h2, h3, h4⟩ := y
    exact ⟨T, .int (i : Nat), x, h1, h2, h3, rfl, h4 xs q⟩
/-! ### zip of two, each a list or a tuple -/
def ItZ (K : PySem.W.Frag) (t1 t2 : Bool) (a b : Addr) : It :=
  ⟨fun i H => ∃ (xs ys : List V) (x y : V), SqK K H t1 a xs ∧ SqK K H t2 b ys ∧ xs[i]? = some x ∧ ys[i]? = some y,
   fun i H v H' => ∃ T x y, v = .ref T ∧ H T = none ∧ H' = upd H T (.tup [x, y]) ∧ (∀ xs, SqK K H t1 a xs → xs[i]? = some x) ∧ ∀ ys, SqK K H t2 b ys → ys[i]? = some y,
   fun i H => ∃ xs ys : List V, SqK K H t1 a xs ∧ SqK K H t2 b ys ∧ min xs.length ys.length = i⟩
def stZ (t1 t2 : Bool) (z TI TO i1 i2 a b : Addr) (i : Nat) (h : Heap) : Prop :=
  IsZip h z TI TO .none ∧ IsTupOf2 h TI (.ref i1) (.ref i2) ∧ (∃ a1 a2, IsTupOf2 h TO a1 a2) ∧ IsIt t1 h i1 a i ∧ IsIt t2 h i2 b i
theorem turnZ {P : Program} {w : World} {K : PySem.W.Frag} {elts : List Expr} {kk : Nat} {tpos : Pos} {t1 t2 : Bool} {z TI TO i1 i2 a b : Addr} (S : ZipSep2 z TI TO i1 i2 [i1, a] [i2, b]) (h1a : a ≠ i1) (h2b : b ≠ i2) (hTa : TI ≠ a) (hTb : TI ≠ b) :
    Turn P w K (.Tuple elts kk tpos) (ItZ K t1 t2 a b) [z, TI, TO, i1, i2] z (stZ t1 t2 z TI TO i1 i2 a b) where
  mem := by simp
  obj := fun i h st c hc => by
    obtain ⟨hz, hTI, ⟨x, y, hTO⟩, d1, d2⟩ := st
    simp only [List.mem_cons, List.not_mem_nil, or_false] at hc
    rcases hc with q | q | q | q | q
    · rw [q]
      exact ⟨_, hz, fun v q => nomatch q⟩
    · rw [q]
      exact ⟨_, hTI, fun v q => nomatch q⟩
    · rw [q]
      exact ⟨_, hTO, fun v q => nomatch q⟩
    · rw [q]
      exact d1.obj
    · rw [q]
      exact d2.obj
  keep := fun i h h' st k => by
    obtain ⟨hz, hTI, ⟨x, y, hTO⟩, d1, d2⟩ := st
    exact ⟨k z (by simp) _ hz, k TI (by simp) _ hTI, ⟨x, y, k TO (by simp) _ hTO⟩, d1.at_ fun o q => k i1 (by simp) o q, d2.at_ fun o q => k i2 (by simp) o q⟩
  item := by
    intro X hP hw hK hc i pins s σ H E I hf st hg
    subst hP hw hK
    obtain ⟨xs, ys, x, y, hqx, hqy, hx, hy⟩ := hg
    obtain ⟨its, rv, hsq⟩ := sq_get I hqx
    obtain ⟨jts, rw', hsr⟩ := sq_get I hqy
    obtain ⟨u, hu, ru⟩ := rv.get hx
    obtain ⟨v, hv, rv2⟩ := rw'.get hy
    have hu' : its.toArray[i]? = some u := by simpa using hu
    have hv' : jts.toArray[i]? = some v := by simpa using hv
    have hlt : i < min its.toArray.size jts.toArray.size := by
      have q1 := (Array.getElem?_eq_some_iff.mp hu').1
      have q2 := (Array.getElem?_eq_some_iff.mp hv').1
      omega
    have WT := WalksT.zipD2 (prog := X.prog) (w := X.w) (A := X.A) S (draws (t := t1) (A := X.A.in1) (I.ok.hd hc) i1 a h1a its.toArray) (draws (t := t2) (A := X.A.in1) (I.ok.hd hc) i2 b h2b jts.toArray)
    obtain ⟨s1, s2, s3, s4, s5⟩ := id st
    refine WT.item i s _ _ hlt ⟨s1, s2, s3, ⟨s4, hsq⟩, ⟨s5, hsr⟩⟩ fun T vals h' tk hvals hT htup hmid hk => ?_
    refine ⟨_, rfl, WT.go elts kk tpos i T _ _ _ hmid fun h'' st' hk2 => ?_⟩
    obtain ⟨x1, y1, e1, e2, rfl⟩ := hvals
    have ex1 : x1 = u := Option.some.inj (e1.symm.trans hu')
    have ey1 : y1 = v := Option.some.inj (e2.symm.trans hv')
    subst ex1 ey1
    have tw := WT.apart i T _ hmid
    have new : ObjOk X.prog X.w (upd H T (.tup [x, y])) h'' T (.tup [x, y]) := by
      obtain ⟨o, ho, hcl, n, hd⟩ := htup
      exact ⟨by show 2 ≤ sizeLine; decide, [x1, y1], .cons ru (.cons rv2 .nil), ⟨o, hk2 T o tw ho, hcl, n, hd⟩⟩
    have sub : ∀ c, c ∈ [z, TO, i1, i2] → c ∈ [z, TI, TO, i1, i2] := fun c hc => by
      simp only [List.mem_cons, List.not_mem_nil, or_false] at hc ⊢
      rcases hc with q | q | q | q
      · exact .inl q
      · exact .inr (.inr (.inl q))
      · exact .inr (.inr (.inr (.inl q)))
      · exact .inr (.inr (.inr (.inr q)))
    have I1 : Inv X pins σ (upd H T (.tup [x, y])) { s with heap := h'', toks := tk } := I.turnedNew (ch := [z, TI, TO, i1, i2]) (fun c o hc q => hk2 c o (fun m => hc (sub c m)) (hk c o (fun m => hc (sub c m)) q)) hf hT new
    have hn : H T = none := I.hok.fresh hT
    obtain ⟨r1, r2, r3, ⟨r4, _⟩, ⟨r5, _⟩⟩ := st'
    refine ⟨.ref T, _, I1, rfl, ⟨T, x, y, rfl, hn, rfl, fun zs hz => by rw [sq_inj I hz hqx]; exact hx, fun zs hz => by rw [sq_inj I hz hqy]; exact hy⟩, ⟨r1, r2, r3, r4, r5⟩, fun c hc => ?_⟩
    have hcs : c < s.heap.objs.size := by
      obtain ⟨a1, a2, s3⟩ := s3
      obtain ⟨o4, q4, _⟩ := s4.obj
      obtain ⟨o5, q5, _⟩ := s5.obj
      simp only [List.mem_cons, List.not_mem_nil, or_false] at hc
      rcases hc with q | q | q | q | q <;> rw [q]
      · exact Heap.lt_size s1
      · exact Heap.lt_size s2
      · exact Heap.lt_size s3
      · exact Heap.lt_size q4
      · exact Heap.lt_size q5
    rw [upd_ne (Nat.ne_of_lt (Nat.lt_of_lt_of_le hcs hT))]
    exact (hf c hc).1
  done := by
    intro X hP hw hK hc i pins s σ H E I hf st hg
    subst hP hw hK
    obtain ⟨xs, ys, hqx, hqy, hend⟩ := hg
    obtain ⟨its, rv, hsq⟩ := sq_get I hqx
    obtain ⟨jts, rw', hsr⟩ := sq_get I hqy
    have l1 := rv.length
    have l2 := rw'.length
    have en : min its.toArray.size jts.toArray.size = i := by
      rw [List.size_toArray, List.size_toArray, ← l1, ← l2]
      exact hend
    have WT := WalksT.zipD2 (prog := X.prog) (w := X.w) (A := X.A) S (draws (t := t1) (A := X.A.in1) (I.ok.hd hc) i1 a h1a its.toArray) (draws (t := t2) (A := X.A.in1) (I.ok.hd hc) i2 b h2b jts.toArray)
    obtain ⟨s1, s2, s3, s4, s5⟩ := id st
    refine WT.done s _ _ (by rw [en]; exact ⟨s1, s2, s3, ⟨s4, hsq⟩, ⟨s5, hsr⟩⟩) fun h' tk hk => ⟨rfl, I.turnedL (ch := [z, TI, TO, i1, i2]) (fun c o hb q => hk c o (fun m => hb ?_) q) hf⟩
    simp only [List.mem_cons, List.not_mem_nil, or_false] at m ⊢
    rcases m with q | q | q | q
    · exact .inl q
    · exact .inr (.inr (.inl q))
    · exact .inr (.inr (.inr (.inl q)))
    · exact .inr (.inr (.inr (.inr q)))
  self := fun A i s Q E st h => wpAny_pyIter_zip st.1 h
/-- zip(e, f), each a list or a tuple -/
def iZip2 (K : PySem.W.Frag) (ta : TA) : TI := fun σ H R => ta σ H fun vs H1 => ∃ t1 t2 a b xs ys, vs = [.ref a, .ref b] ∧ SqK K H1 t1 a xs ∧ SqK K H1 t2 b ys ∧ R (ItZ K t1 t2 a b) H1
theorem pi_zip2 {X : Cx} {e f : Expr} {ta : TA} {p pos tpos : Pos} {elts : List Expr} {kk : Nat} (hg : Gl X "zip") (hm : X.mg "zip" = none) (ha : PA X [e, f] ta) (hs : starEach [e, f] X.env = (false, eval e X.env) :: starEach [f] X.env := by rfl) (hp2 : (backTo pos (starEach [f] X.env)).any (·.1) = false := by rfl) :
    PI X (.Tuple elts kk tpos) (.Call (.Name "zip" p) [e, f] [] pos) (iZip2 X.K ta) := by
  refine ⟨fun pins s σ H R I h => ?_⟩
  refine Call_ (ld_blt I hg hm PyProof.Rows.boot_zip (PyProof.Rows.callWith_type1 (thn (ha.run pos pins s σ H _ I h) fun us s1 hh => ?_) hs hp2))
  obtain ⟨vs, H1, I1, r1, t1, t2, a, b, xs, ys, rfl, hqx, hqy, q⟩ := hh
  cases r1 with
  | cons r rr =>
    cases rr with
    | cons r' rr =>
      cases rr
      cases r
      cases r'
      obtain ⟨its, rv, p1⟩ := sq_get I1 hqx
      obtain ⟨jts, rw', p2⟩ := sq_get I1 hqy
      have la := sq_live I1 hqx
      have lb := sq_live I1 hqy
      refine zip_begins2 (begins t1 a its.toArray) (begins t2 b jts.toArray) p1 p2 fun h' hz hTI hTO d1 d2 hsz hk => wpAny_pyIter_zip hz ?_
      have I2 : Inv X pins σ H1 { s1 with heap := h' } := I1.kept (t' := s1.toks) hk
      refine ⟨s1.heap.objs.size + 4, _, _, _, H1, rfl, I2, turnZ (t1 := t1) (t2 := t2) (TI := s1.heap.objs.size + 2) (TO := s1.heap.objs.size + 3) (i1 := s1.heap.objs.size) (i2 := s1.heap.objs.size + 1) (a := a) (b := b)
        (zip_sep2 (fun c hc => by rw [List.mem_singleton.mp hc]; exact la) (fun c hc => by rw [List.mem_singleton.mp hc]; exact lb)) (Nat.ne_of_lt la) (Nat.ne_of_lt (Nat.lt_succ_of_lt lb)) (Nat.ne_of_gt (Nat.lt_of_lt_of_le la (Nat.le_add_right _ _))) (Nat.ne_of_gt (Nat.lt_of_lt_of_le lb (Nat.le_add_right _ _))),
        ⟨hz, hTI, ⟨_, _, hTO⟩, itObj_it d1, itObj_it d2⟩, fun c hc => ?_, q⟩
      have hle : s1.heap.objs.size ≤ c := by
        simp only [List.mem_cons, List.not_mem_nil, or_false] at hc
        rcases hc with z | z | z | z | z <;> rw [z] <;> first | exact Nat.le_refl _ | exact Nat.le_add_right _ _
      exact I1.fpOk hle (I1.hok.fresh hle)
theorem walk_zip2 {K : PySem.W.Frag} {t1 t2 : Bool} {a b : Addr} {xs ys : List V} {n : Nat} (hn : n = min xs.length ys.length) : Walk (ItZ K t1 t2 a b) n (fun H => SqK K H t1 a xs ∧ SqK K H t2 b ys) (YPair (fun i => xs[i]?) (fun i => ys[i]?)) where
  goes := fun i _ hi q => ⟨xs, ys, xs[i]'(by omega), ys[i]'(by omega), q.1, q.2, by simp, by simp⟩
  stops := fun _ q => ⟨xs, ys, q.1, q.2, hn.symm⟩
  yields := fun i H v H' _ q y => by
    obtain ⟨T, x, y, h1, h2, h3, h4, h5⟩ := y
    exact ⟨T, x, y, h1, h2, h3, h4 xs q.1, h5 ys q.2⟩
end Sq

namespace Exs
open PySem PySem.Spec PyProof.Rows L2
/-! ### an own error class beneath ValueError, whose __init__ keeps one thing -/
def clsB (K : PySem.W.Frag) (C : Addr) : Bool := match K.lookup C with
  | some ⟨.type t, _, .cls cd, sl⟩ => (match cd.mro, sl.toList with
    | .ref D :: bm, [_, _, _, _, some (.builtin n), _] => decide (t = "type") && (decide (D = C) && (decide (n = "ValueError.__new__") && (!cd.hasDel && (cd.hasDict && PySem.HandSPX.refsVE bm))))
    | _, _ => false)
  | _ => false
theorem clsB_ok {K : PySem.W.Frag} {C : Addr} (h : clsB K C = true) :
    ∃ nm q N bs bm sn sub ab col dd k0 k1 k2 k3 k5, K.lookup C = some (excClassObj nm q C N bs bm true sn sub ab col dd k0 k1 k2 k3 k5 "ValueError.__new__") ∧ PySem.HandSPX.refsVE bm = true := by
  unfold clsB at h
  split at h
  · rename_i t dd cd sl hl
    split at h
    · rename_i D bm k0 k1 k2 k3 n k5 hm hs
      simp only [Bool.and_eq_true, decide_eq_true_eq, Bool.not_eq_true'] at h
      obtain ⟨rfl, rfl, rfl, h1, h2, h3⟩ := h
      obtain ⟨nm, bs, mro, ns, qn, hd, sn, sub, ab, col, del⟩ := cd
      dsimp only at hm h1 h2
      subst hm h1 h2
      have es : sl = #[k0, k1, k2, k3, some (.builtin "ValueError.__new__"), k5] := by
        obtain ⟨l⟩ := sl
        dsimp only at hs
        rw [hs]
      subst es
      exact ⟨nm, qn, ns, bs, bm, sn, sub, ab, col, dd, k0, k1, k2, k3, k5, hl, h3⟩
    · cases h
  · cases h
def errB (K : PySem.W.Frag) (C fI : Addr) (f : Str) : Bool := clsB K C && (He.eqO (PySem.W.findIn K (.ref C) "__setattr__") (some (some (.builtin "object.__setattr__"))) && (decide (PySem.W.subIn K (.ref C) (.type "BaseException") = some true) &&
  (decide (PySem.W.typeIn K (.ref C) = some (.type "type")) && (PySem.W.keepIn K (.ref C) && (xfB K C && (He.eqO (PySem.W.findIn K (.ref C) f) (some none) && (He.eqO (PySem.W.findIn K (.ref C) "__init__") (some (some (.ref fI))) &&
  (decide (PySem.W.typeIn K (.ref fI) = some (.type "function")) && decide (PySem.W.exmOne K (.ref C) (.ref C) = some true)))))))))
structure ErrC (K : PySem.W.Frag) (C fI : Addr) (f : Str) : Prop where
  oc : OexC K C
  xf : XfC K C
  no : PySem.W.findIn K (.ref C) f = some none
  iC : PySem.W.findIn K (.ref C) "__init__" = some (some (.ref fI))
  tI : PySem.W.typeIn K (.ref fI) = some (.type "function")
  me : PySem.W.exmOne K (.ref C) (.ref C) = some true
theorem errB_ok {K : PySem.W.Frag} {C fI : Addr} {f : Str} (h : errB K C fI f = true) : ErrC K C fI f := by
  obtain ⟨h1, h⟩ := He.ba h
  obtain ⟨h2, h⟩ := He.ba h
  obtain ⟨h3, h⟩ := He.ba h
  obtain ⟨h4, h⟩ := He.ba h
  obtain ⟨h5, h⟩ := He.ba h
  obtain ⟨h6, h⟩ := He.ba h
  obtain ⟨h7, h⟩ := He.ba h
  obtain ⟨h8, h⟩ := He.ba h
  obtain ⟨h9, h0⟩ := He.ba h
  exact ⟨⟨clsB_ok h1, He.eqO_ok h2, of_decide_eq_true h3, of_decide_eq_true h4, h5⟩, xfB_ok h6, He.eqO_ok h7, He.eqO_ok h8, of_decide_eq_true h9, of_decide_eq_true h0⟩
/-- what __init__ does: the thing under its name -/
def spInit (C : Addr) (f : Str) : Sp := fun vs H Q _ => ∃ (a : Addr) (v : V), vs = [.ref a, v] ∧ H a = some (exo a C none) ∧ ∀ dx, H dx = none → dx ≠ a → Q .non (upd (upd H dx (exd dx [(f, v)])) a (exo a C (some dx)))
/-- self.f = f, the block of such an __init__, wherever it stands -/
abbrev initB (f : Str) (p1 p2 p3 p4 : Pos) : List Stmt := [.Assign [.Attribute (.Name "self" p1) f p2] (.Name f p3) p4]
section
variable {P : Program} {w : World} {K : PySem.W.Frag} {mg : Str → Option Value} {base : Heap}
theorem ok_init {x f : Str} {C fI : Addr} {fd : FuncData} {pa : Arguments} {bd : List Stmt} {sc : Scope} {p1 p2 p3 p4 : Pos} (T : ErrC K C fI f) (F : FunD K "__init__" x pa bd sc [] [] fI fd) (hb : bd = initB f p1 p2 p3 p4)
    (S : FnScope ["self", f] ["self", f] sc) (v0 : sc.names.lookup ("self" : Str) = some NameKind.local) (v1 : sc.names.lookup f = some NameKind.local) (hd : (f == ("__debug__" : Str)) = false) (hc : (f == ("__classdict__" : Str)) = false) :
    FnOk P w K mg base CX0 1 fI fd ["self", f] (spInit C f) := by
  subst hb
  refine F.ok S (fun vs H Q E h => ?_) (fun cdv A outer s H vs Q E hr h => ?_)
  · obtain ⟨a, v, rfl, _⟩ := h
    rfl
  · obtain ⟨a, v, rfl, ha, k⟩ := h
    refine ⟨_, PSs.nox (pss_one (ps_ost (pe_var (i := 0) rfl (.inl v0)) (pe_var (i := 1) rfl (.inl v1) hd hc))), ?_⟩
    exact ⟨_, rfl, _, rfl, a, C, rfl, T.oc, T.no, .inl ⟨ha, fun dx n ne => k dx n ne⟩⟩
/-- all that a raise of such an error asks -/
structure Err (P : Program) (w : World) (K : PySem.W.Frag) (mg : Str → Option Value) (base : Heap) (x f : Str) (C fI : Addr) : Prop where
  c : ErrC K C fI f
  g : mg x = some (.ref C)
  fn : ∃ fd, FnOk P w K mg base CX0 1 fI fd ["self", f] (spInit C f) ∧ L2.Binds K fd ["self", f] []
end
/-- what the making of such an error of v asks -/
def RaiseP (C : Addr) (f : Str) (W : XK) (v : V) (H1 : Hp) : Prop := [v].length ≤ 1000 ∧ ∀ a, H1 a = none → spInit C f (.ref a :: ([v] ++ [])) (upd H1 a (exo a C none))
  (fun u H2 => u = .non ∧ ∃ (d : Addr) (fs : List (Str × V)), H2 a = some (exo a C (some d)) ∧ H2 d = some (exd d fs) ∧ H1 d = none ∧ W (.ref C) (some d) (upd (del H2 a) d (.xd fs))) (fun _ _ _ => False)
theorem raiseP {C : Addr} {f : Str} {W : XK} {v : V} {H1 : Hp} (h : ∀ d, H1 d = none → W (.ref C) (some d) (upd H1 d (.xd [(f, v)]))) : RaiseP C f W v H1 := by
  refine ⟨by show 1 ≤ 1000; decide, fun a ha => ⟨a, v, rfl, upd_same, fun dx hdx ne => ⟨rfl, dx, [(f, v)], upd_same, ?_, ?_, ?_⟩⟩⟩
  · rw [upd_ne ne]
    exact upd_same
  · rw [upd_ne ne] at hdx
    exact hdx
  · have hd1 : H1 dx = none := by
      rw [upd_ne ne] at hdx
      exact hdx
    have e : upd (del (upd (upd (upd H1 a (exo a C none)) dx (exd dx [(f, v)])) a (exo a C (some dx))) a) dx (.xd [(f, v)]) = upd H1 dx (.xd [(f, v)]) := by
      funext b
      by_cases hb : b = dx
      · rw [hb, upd_same, upd_same]
      · rw [upd_ne hb, upd_ne hb]
        by_cases hba : b = a
        · rw [hba, del_same, ha]
        · rw [del_ne hba, upd_ne hba, upd_ne hb, upd_ne hba]
    rw [e]
    exact h dx hd1
/-- raise x(e) -/
def tRaise1 (C : Addr) (f : Str) (W : WX) (te : TE) : TS := fun _ σ H => te σ H fun v H1 => RaiseP C f (fun cls d H' => W cls d σ H') v H1
section
variable {X : Cx}
theorem ps_raise1 {x f : Str} {C fI : Addr} {e : Expr} {te : TE} {W : WX} {p pos pos2 : Pos} (hc : X.calm = true) (T : Err X.prog X.w X.K X.mg X.base x f C fI) (hr : Room 2 X.A) (tk : Takes X W) (hg : Gl X x) (he : PE X e te)
    (hdb : (x == ("__debug__" : Str)) = false := by decide) (hs : starEach [e] X.env = (false, eval e X.env) :: starEach [] X.env := by rfl) (hpl : (backTo pos (starEach [] X.env)).any (·.1) = false := by rfl) :
    PS X (.Raise (some (.Call (.Name x p) [e] [] pos)) none pos2) (tRaise1 C f W te) := by
  obtain ⟨fd, F, b⟩ := T.fn
  have base := ps_raise (pos := pos2) hc tk (pmk_oex (p := p) (pos := pos) T.c.oc T.c.iC T.c.tI F hr b .nil pass0 hg T.g (pa_cons he pa_nil hs) hdb hs hpl)
  exact ⟨fun pins s σ H D I h => base.run pins s σ H D I h⟩
end
end Exs
namespace Exs
open PySem PySem.Spec PyProof.Rows L2
/-! ### try with several clauses, each «except X as n» -/
abbrev Suite : Type := Addr → Value → Option Addr → TS
/-- behind a suite its name's slot i is empty -/
def EndsAs (i : Nat) (D : Ends) : Ends := { nx := fun σ H => D.nx (σ.set i none) H, rt := D.rt, bk := fun σ H => D.bk (σ.set i none) H, ct := fun σ H => D.ct (σ.set i none) H }
def wClauses (K : PySem.W.Frag) (nN : Nat) (Wout : WX) (D : Ends) : List (Value × Nat × Suite) → WX
  | [] => Wout
  | (c, i, ts) :: r => fun cls d σ H => ∃ b, PySem.W.exmOne K cls c = some b ∧ (b = true → ∀ a, H a = none → σ.length = nN → ts a cls d (EndsAs i D) (σ.set i (some (.ref a))) H) ∧ (b = false → wClauses K nN Wout D r cls d σ H)
inductive Clauses (X : Cx) : List ExceptHandler → List (Value × Nat × Suite) → Prop
  | nil : Clauses X [] []
  | cons {x n : Str} {c : Value} {i : Nat} {ts : Suite} {st : Stmt} {sts : List Stmt} {p1 p2 : Pos} {hs : List ExceptHandler} {l : List (Value × Nat × Suite)} (hc : Names X x c) (hi : X.N[i]? = some n) (hn : X.env.kindOf n = some .local)
      (go : ∀ (a : Addr) (oe : Obj) (cls : Value) (d : Option Addr) (pn : List (Addr × Obj)), Zc cls d oe → (∃ vs, oe.data = .fields vs) → PSs (X.suite a ((a, oe) :: pn)) (st :: sts) (ts a cls d)) (r : Clauses X hs l) :
      Clauses X (.ExceptHandler (some (.Name x p1)) (some n) (st :: sts) p2 :: hs) ((c, i, ts) :: l)
section
variable {X : Cx} {body : List Stmt} {h0 : ExceptHandler} {hs : List ExceptHandler} {l : List (Value × Nat × Suite)} {pos : Pos} {tb : WX → TS} {Wout : WX}
theorem ps_try_clauses (es : X.stack = X.env :: X.outer) (ef : X.env.frame = some X.env.locals) (hN : X.N.Nodup) (tk : Takes X Wout)
    (hb : ∀ (W : WX) (pn : List (Addr × Obj)) (xe : Value → Shared → Prop), Takes (X.tr pn xe) W → PassesOwn (model X.prog X.w) X.A X.env xe → PSs (X.tr pn xe) body (tb W))
    (cl : Clauses X (h0 :: hs) l) : PS X (.Try body (h0 :: hs) [] [] pos) (fun D σ H => tb (wClauses X.K X.N.length Wout D l) D σ H) := by
  refine ⟨fun pins s σ H D I h => ?_⟩
  have ok := I.ok
  have frs0 : X.A.frames = some (X.env :: X.outer) := by rw [ok.frames, es]
  refine wpAny_Try_except ?_
  refine wpAny_mono ((hb (wClauses X.K X.N.length Wout D l) (X.pn ++ pins) (fun e s1 => wpAny (model X.prog X.w) X.A (noteFrame e X.env) (fun _ s2 => wpAny (model X.prog X.w) X.A (setFlight e none) (fun _ s3 =>
    wpAny (model X.prog X.w) X.A (handleBy e X.env (h0 :: hs)) (SP X pins D) X.xe s3) X.xe s2) X.xe s1) (fun u s' xx => ?_) PassesOwn.looking).run [] s σ H D (I.toTry _) h) (fun f s1 q => ?_) (fun e s1 q => q)
  · obtain ⟨a, B, sI, pins1, σ1, H1, cls, d, rfl, J0, nb, up, sky, na, os, ag, wish⟩ := xx
    have J : Inv X pins σ1 H1 sI := J0.ofTry ok
    rw [es] at sky
    refine (show wpAny (model X.prog X.w) X.A (noteFrame (.ref a) X.env) _ _ _ from Sky.land Zc.steady frs0 ef sky fun h3 fl3 up3 => ?_)
    have J3 : Inv X pins σ1 H1 { s' with heap := h3 } := J.landed nb fl3.1 (up.trans up3) os ag
    obtain ⟨oe3, vs3, he3, hz3, hd3⟩ := fl3.there
    have apart : a ∉ frs (X.env :: X.outer) := fun hm => by
      obtain ⟨_, o2, e2, no⟩ := fl3.2.2.1.mem hm
      rw [he3] at e2
      cases e2
      exact no _ hd3
    have aL : a ≠ X.env.locals := fun z => apart (List.mem_filterMap.mpr ⟨X.env, List.mem_cons_self, by rw [ef, z]⟩)
    have aF : a ∉ X.fs := fun hm => by
      obtain ⟨e, he, q⟩ := List.mem_filterMap.mp hm
      exact apart (List.mem_filterMap.mpr ⟨e, List.mem_cons_of_mem _ he, q⟩)
    have S3 := J3.suite he3 hd3 na aL aF
    have steps : ∀ {hs2 : List ExceptHandler} {l2 : List (Value × Nat × Suite)}, Clauses X hs2 l2 → wClauses X.K X.N.length Wout D l2 cls d σ1 H1 →
        wpAny (model X.prog X.w) X.A (handleBy (.ref a) X.env hs2) (SP X pins D) X.xe { s' with heap := h3 } := by
      intro hs2 l2 hk
      induction hk with
      | nil =>
        intro wish2
        refine wpAny_handleBy_nil ?_
        obtain ⟨k1, k2, k3, oe, vs, T, oT, ts2, he, hz, hd, f1, hr⟩ := id fl3
        unfold PySem.passOn
        refine wpAny_bind (wpAny_field he hd f1 ?_)
        have isT : ¬ ((Value.ref T == Value.none) = true) := by simp
        rw [if_neg isT]
        have out : wpAny (model X.prog X.w) X.A (setFlight (.ref a) X.env.frame) (fun _ s4 => wpAny (model X.prog X.w) X.A (throw (.ref a) : Sem Flow) (SP X pins D) X.xe s4) X.xe { s' with heap := h3 } := by
          rw [ef]
          refine HandSPX.setFlight_upZ fl3 fun h4 held up4 => wpAny_throw (tk _ _ ⟨a, B, sI, pins, σ1, H1, cls, d, rfl, J, nb, (up.trans up3).trans up4, ?_, na, os, ag, wish2⟩)
          rw [es]
          exact .inr (.inr held)
        first | exact wpAny_bind (wpAny_pure (wpAny_bind out)) | exact wpAny_bind out
      | @cons x n c i ts st sts p1 p2 hs3 l3 hc hi hn go r ih =>
        intro wish2
        obtain ⟨b, hb1, yes, no⟩ := wish2
        have hloc : Loc X.env.scope n := .inl hn
        refine wpAny_handleBy_cons (codeAny_handlers_test ?_) (by intro q; cases q)
        have ofCls : PySem.W.Looks (model X.prog X.w) h3 (typeOf (.ref a)) cls := fun A Q E s k q => wpAny_typeOf_ref (k _ _ he3) (by rw [hz3.1]; exact q)
        have meets := PySem.W.exm_one (M := model X.prog X.w) J3.kIn ofCls hb1
        have asks : ∀ {Q : Value → Shared → Prop} {E : Value → Shared → Prop}, Q c { s' with heap := h3 } → wpAny (model X.prog X.w) (X.A.mark (some (.ref a))) (eval (.Name x p1) X.env) Q E { s' with heap := h3 } := fun {Q E} q => by
          obtain ⟨g1, g2, g3 | ⟨g3, g4, g5⟩⟩ := hc
          · exact ld_glob (X := X.suite a ((a, oe3) :: (X.pn ++ pins))) S3 g1 g3 q g2
          · exact ld_blt (X := X.suite a ((a, oe3) :: (X.pn ++ pins))) S3 g1 g3 g4 q g5 g2
        refine asks (meets.here ?_)
        cases b with
        | true =>
          refine codeAny_handlers_suite_as (HandSPX.lands_againZ fl3 fun h4 fl4 up4 => ?_)
          have J4 : Inv X pins σ1 H1 { s' with heap := h4 } := J.landed nb fl4.1 ((up.trans up3).trans up4) os ag
          obtain ⟨oe4, vs4, he4, hz4, hd4⟩ := fl4.there
          refine store_ok (X := X.suite a ((a, oe4) :: (X.pn ++ pins))) (v := .ref a) (J4.suite he4 hd4 na aL aF) hN hi hloc rfl (fun s5 S5 => ?_) (.inr hn)
          refine wpAny_mono ((go a oe4 cls d (X.pn ++ pins) hz4 ⟨_, hd4⟩).run [] s5 _ H1 _ S5 (yes rfl a na J.len)) (fun f s6 q6 => ?_) (fun _ _ z => False.elim z)
          have away : ∀ {σ6 : L2.St} {H6 : Hp} {Q : Shared → Prop}, Inv (X.suite a ((a, oe4) :: (X.pn ++ pins))) [] σ6 H6 s6 → (∀ s7, Inv X pins (σ6.set i none) H6 s7 → Q s7) →
              wpAny (model X.prog X.w) X.A (do bindName X.env n .none; unbindBehindTheSuite X.env n p2) (fun _ s7 => Q s7) X.xe s6 := fun S6 q => gone_ok (S6.unsuite ok) hN hi hn q
          cases f with
          | next =>
            obtain ⟨σ6, H6, S6, q7⟩ := q6
            exact away S6 fun s7 J7 => ⟨_, _, J7, q7⟩
          | brk =>
            obtain ⟨σ6, H6, S6, q7⟩ := q6
            exact away S6 fun s7 J7 => ⟨_, _, J7, q7⟩
          | cont =>
            obtain ⟨σ6, H6, S6, q7⟩ := q6
            exact away S6 fun s7 J7 => ⟨_, _, J7, q7⟩
          | ret u =>
            obtain ⟨v6, σ6, H6, S6, r6, q7⟩ := q6
            exact away S6 fun s7 J7 => ⟨_, _, _, J7, r6, q7⟩
        | false => exact (show wpAny _ X.A (handleBy (.ref a) X.env hs3) _ _ _ from ih (no rfl))
    exact steps cl wish
  · cases f with
    | next =>
      obtain ⟨σ2, H2, J2, q2⟩ := q
      exact wpAny_execs_nil ⟨σ2, H2, J2.ofTry ok, q2⟩
    | brk =>
      obtain ⟨σ2, H2, J2, q2⟩ := q
      exact ⟨σ2, H2, J2.ofTry ok, q2⟩
    | cont =>
      obtain ⟨σ2, H2, J2, q2⟩ := q
      exact ⟨σ2, H2, J2.ofTry ok, q2⟩
    | ret u =>
      obtain ⟨v, σ2, H2, J2, r2, q2⟩ := q
      exact ⟨v, σ2, H2, J2.ofTry ok, r2, q2⟩
end
end Exs

namespace K11H
open PySem PySem.Spec PyProof.Rows L2 Exs K11
/-! ### the head -/
def meth (i : Nat) : Stmt := (C8.clsBody (top 21)).getD i (.Pass ⟨0, 0, 0, 0⟩)
def iniS (i : Nat) : Stmt := (C8.clsBody (top i)).getD 0 (.Pass ⟨0, 0, 0, 0⟩)
def dd (x : Str) (i : Nat) : He.DefD := ⟨(x, none), x, x, defArgs (top i), defBody (top i), defScope (top i), [], []⟩
def di (C q : Str) (i : Nat) : He.DefD := ⟨(C, some "__init__"), "__init__", q, defArgs (iniS i), defBody (iniS i), defScope (iniS i), [], []⟩
def dm (m q : Str) (i : Nat) : He.DefD := ⟨("Village", some m), m, q, defArgs (meth i), defBody (meth i), defScope (meth i), [], []⟩
def fn : List He.DefD := [dd "is_name" 13, dd "is_integer" 14, dd "is_number" 15, dd "is_listed" 16, dd "is_pair" 17, dd "has_just" 18, dd "is_table" 19, dd "check_houses" 22, dd "checked_paths" 23, dd "joined_groups" 24, dd "near_houses" 25, dd "path_between" 26, dd "is_house" 27, dd "rooted" 29, dd "steps_towards" 30, dd "is_letters" 32, dd "ask_letters" 33, dd "first_no_house" 34, dd "round_flaw" 35, dd "ask_round" 36, dd "letters_of" 37, dd "walked" 39, dd "times_gone" 40, dd "walk_of" 41, dd "ledger_of" 42, dd "is_ledger" 43, dd "ask_ledger" 44, dd "ask_both" 46, dd "round_fault" 47, dd "_law_m_made" 49, dd "_law_m_ledger" 50, dd "_law_m_shown" 51, dd "_law_m_near" 52, dd "_law_m_odd_letters" 53, dd "_law_m_odd_ledger" 54, dd "_law_m_held" 55, dd "_law_start" 56, dd "_law_draw" 57, dd "_law_pick" 58, dd "_law_mixed" 59, dd "_law_same" 60, dd "_law_loose" 61, dd "_law_v_names" 62, dd "_law_v_paths" 63, dd "_law_v_village" 64, dd "_law_v_keys" 65, dd "_law_v_beside" 66, dd "_law_v_way" 67, dd "_law_v_round" 68, dd "_law_v_letters" 69, dd "_law_v_walk" 70, dd "_law_v_ledger" 71, dd "_law_met" 72, dd "_law_fault" 73, dd "_law_things" 74, dd "law" 75, di "BadLetters" "BadLetters.__init__" 4, di "BadLedger" "BadLedger.__init__" 3, di "BadRound" "BadRound.__init__" 6, dm "__init__" "Village.__init__" 0, dm "houses" "Village.houses" 1, dm "near" "Village.near" 3, dm "paths" "Village.paths" 2]
def fa : List He.Fa := [.glo "is_name", .glo "is_integer", .glo "is_number", .glo "is_listed", .glo "is_pair", .glo "has_just", .glo "is_table", .glo "check_houses", .glo "checked_paths", .glo "joined_groups", .glo "near_houses", .glo "path_between", .glo "is_house", .glo "rooted", .glo "steps_towards", .glo "is_letters", .glo "ask_letters", .glo "first_no_house", .glo "round_flaw", .glo "ask_round", .glo "letters_of", .glo "walked", .glo "times_gone", .glo "walk_of", .glo "ledger_of", .glo "is_ledger", .glo "ask_ledger", .glo "ask_both", .glo "round_fault", .glo "_law_m_made", .glo "_law_m_ledger", .glo "_law_m_shown", .glo "_law_m_near", .glo "_law_m_odd_letters", .glo "_law_m_odd_ledger", .glo "_law_m_held", .glo "_law_start", .glo "_law_draw", .glo "_law_pick", .glo "_law_mixed", .glo "_law_same", .glo "_law_loose", .glo "_law_v_names", .glo "_law_v_paths", .glo "_law_v_village", .glo "_law_v_keys", .glo "_law_v_beside", .glo "_law_v_way", .glo "_law_v_round", .glo "_law_v_letters", .glo "_law_v_walk", .glo "_law_v_ledger", .glo "_law_met", .glo "_law_fault", .glo "_law_things", .glo "law", .glo "BadLetters", .glo "BadLedger", .glo "BadRound", .glo "Village", .free "int", .free "bool", .free "str", .free "isinstance", .free "list", .free "tuple", .free "len", .free "all", .free "zip", .free "enumerate", .free "range", .free "max", .free "min", .free "sorted", .free "dict", .free "any", .int "LONGEST_NAME" 12, .str "SMALL_LETTERS" "abcdefghijklmnopqrstuvwxyz", .str "FIGURES" "0123456789", .cls "Village", .noat "Village" "_houses", .noat "Village" "_paths", .noat "Village" "_near", .meth "Village" "houses", .meth "Village" "near", .meth "Village" "paths", .mkr "Village", .exm "BadLedger" "BadLetters" false]
def tf : List He.Defn := [("law", none)]
def ex (K : PySem.W.Frag) : Bool := errB K (He.ga K "BadLetters") (He.fAd K ("BadLetters", some "__init__")) "thing" && errB K (He.ga K "BadLedger") (He.fAd K ("BadLedger", some "__init__")) "thing" && errB K (He.ga K "BadRound") (He.fAd K ("BadRound", some "__init__")) "index"
abbrev R : PySem.W.OpenRow := PySem.W.OpenLaw.row PySem.Challenge.rw_letterround_k11_whole_claims
abbrev hk : PySem.W.Hook := He.hookX 4 fa fn [] tf ex
def ob (s : PySem.W.SharedT) : He.AlX := He.obsX 4 fa fn [] tf ex (HandSHeadRun.getT s)
theorem ob_eq (s : PySem.W.SharedT) : ob s = hk.obs s.abs := He.obsX_eq (HandSHeadRun.getT_eq s)
def loose0 : List Str := ["SMALL_LETTERS", "FIGURES", "LONGEST_NAME", "PostError", "BadHouses", "BadLedger", "BadLetters", "BadPaths", "BadRound", "NotJoined", "OwnThing", "Village", "is_name", "is_integer", "is_number"]
def loose1 : List Str := ["is_listed", "is_pair", "has_just", "is_table", "check_houses", "checked_paths", "joined_groups", "near_houses", "path_between", "is_house", "rooted", "steps_towards", "is_letters", "ask_letters", "first_no_house"]
def loose2 : List Str := ["round_flaw", "ask_round", "letters_of", "walked", "times_gone", "walk_of", "ledger_of", "is_ledger", "ask_ledger", "ask_both", "round_fault", "_law_m_made", "_law_m_ledger", "_law_m_shown", "_law_m_near"]
def loose3 : List Str := ["_law_m_odd_letters", "_law_m_odd_ledger", "_law_m_held", "_law_start", "_law_draw", "_law_pick", "_law_mixed", "_law_same", "_law_loose", "_law_v_names", "_law_v_paths", "_law_v_village", "_law_v_keys", "_law_v_beside", "_law_v_way"]
def loose4 : List Str := ["_law_v_round", "_law_v_letters", "_law_v_walk", "_law_v_ledger", "_law_met", "_law_fault", "_law_things"]
def loose : List Str := loose0 ++ loose1 ++ loose2 ++ loose3 ++ loose4
theorem run (w : World) : HandSHeadRun.RunEq R (PySem.W.view R.prog [75]) hk ob 40000 loose w := by
  unfold HandSHeadRun.RunEq
  intro os
  kernel_rfl
end K11H

/-! Trees of names: one way to a root, from each house; law-independent, no machine. -/
namespace Tr
open PySem
abbrev Prs := List (Str × Str)
def Adj (ps : Prs) (x y : Str) : Prop := (x, y) ∈ ps ∨ (y, x) ∈ ps
theorem Adj.symm {ps : Prs} {x y : Str} (h : Adj ps x y) : Adj ps y x := Or.symm h
structure Tree (hs : List Str) (ps : Prs) : Prop where
  nd : hs.Nodup
  np : ps.Nodup
  once : ∀ a b, (a, b) ∈ ps → (b, a) ∉ ps
  ex : ∃ (par : Str → Option Str) (rk : Str → Nat) (top : Str), top ∈ hs ∧ par top = none ∧ (∀ x ∈ hs, x ≠ top → ∃ y, par x = some y) ∧
    (∀ x y, par x = some y → x ∈ hs ∧ y ∈ hs ∧ rk y < rk x) ∧ (∀ x y, Adj ps x y ↔ (par x = some y ∨ par y = some x))
theorem Tree.perm {hs hs' : List Str} {ps ps' : Prs} (T : Tree hs ps) (h : hs'.Perm hs) (p : ps'.Perm ps) : Tree hs' ps' := by
  obtain ⟨par, rk, top, h1, h2, h3, h4, h5⟩ := T.ex
  refine ⟨h.nodup_iff.mpr T.nd, p.nodup_iff.mpr T.np, fun a b e f => T.once a b (p.mem_iff.mp e) (p.mem_iff.mp f), par, rk, top, h.mem_iff.mpr h1, h2, fun x hx => h3 x (h.mem_iff.mp hx), fun x y e => ?_, fun x y => ?_⟩
  · obtain ⟨q1, q2, q3⟩ := h4 x y e
    exact ⟨h.mem_iff.mpr q1, h.mem_iff.mpr q2, q3⟩
  · rw [← h5]
    unfold Adj
    rw [p.mem_iff, p.mem_iff]
theorem Tree.mem {hs : List Str} {ps : Prs} (T : Tree hs ps) {x y : Str} (h : Adj ps x y) : x ∈ hs ∧ y ∈ hs := by
  obtain ⟨par, rk, top, h1, h2, h3, h4, h5⟩ := T.ex
  rcases (h5 x y).mp h with e | e
  · exact ⟨(h4 _ _ e).1, (h4 _ _ e).2.1⟩
  · exact ⟨(h4 _ _ e).2.1, (h4 _ _ e).1⟩
theorem Tree.irr {hs : List Str} {ps : Prs} (T : Tree hs ps) {x : Str} (h : Adj ps x x) : False := by
  obtain ⟨par, rk, top, h1, h2, h3, h4, h5⟩ := T.ex
  rcases (h5 x x).mp h with e | e <;> exact absurd (h4 _ _ e).2.2 (Nat.lt_irrefl _)
theorem Tree.sole (x : Str) : Tree [x] [] := by
  refine ⟨by simp, by simp, fun a b h => by simp at h, fun _ => none, fun _ => 0, x, by simp, rfl, fun y hy hn => ?_, fun y z e => (by cases e), fun y z => ?_⟩
  · simp only [List.mem_singleton] at hy
    exact absurd hy hn
  · simp [Adj]
/-- one house more, by a path to one that is there -/
theorem Tree.leaf {hs : List Str} {ps : Prs} (T : Tree hs ps) {a b : Str} (ha : a ∈ hs) (hb : b ∉ hs) {q : Str × Str} (hq : q = (a, b) ∨ q = (b, a)) : Tree (hs ++ [b]) (ps ++ [q]) := by
  have no : ∀ x, Adj ps x b → False := fun x h => hb (T.mem h).2
  have hab : a ≠ b := fun z => hb (z ▸ ha)
  obtain ⟨par, rk, top, h1, h2, h3, h4, h5⟩ := T.ex
  have adj : ∀ x y, Adj (ps ++ [q]) x y ↔ (Adj ps x y ∨ (x = a ∧ y = b) ∨ (x = b ∧ y = a)) := fun x y => by
    unfold Adj
    rcases hq with rfl | rfl <;> simp only [List.mem_append, List.mem_singleton, Prod.mk.injEq] <;> grind
  have pb : ∀ y, par b ≠ some y := fun y e => hb (h4 _ _ e).1
  have pb2 : ∀ y, par y ≠ some b := fun y e => hb (h4 _ _ e).2.1
  have mem1 : ∀ {x y}, (x, y) ∈ ps → x ∈ hs ∧ y ∈ hs := fun h => T.mem (.inl h)
  refine ⟨?_, ?_, fun x y e f => ?_, fun x => if x = b then some a else par x, fun x => if x = b then rk a + 1 else rk x, top, List.mem_append_left _ h1, ?_, fun x hx hn => ?_, fun x y e => ?_, fun x y => ?_⟩
  · rw [List.nodup_append]
    refine ⟨T.nd, by simp, fun x hx y hy => ?_⟩
    simp only [List.mem_singleton] at hy
    exact fun z => hb (by rw [← hy, ← z]; exact hx)
  · rw [List.nodup_append]
    refine ⟨T.np, by simp, fun x hx y hy => ?_⟩
    simp only [List.mem_singleton] at hy
    intro z
    subst z hy
    rcases hq with rfl | rfl
    · exact hb (mem1 hx).2
    · exact hb (mem1 hx).1
  · rcases List.mem_append.mp e with e1 | e1 <;> rcases List.mem_append.mp f with f1 | f1
    · exact T.once _ _ e1 f1
    · have m := mem1 e1
      simp only [List.mem_singleton] at f1
      rcases hq with z | z
      · rw [z] at f1; cases f1; exact hb m.1
      · rw [z] at f1; cases f1; exact hb m.2
    · have m := mem1 f1
      simp only [List.mem_singleton] at e1
      rcases hq with z | z
      · rw [z] at e1; cases e1; exact hb m.1
      · rw [z] at e1; cases e1; exact hb m.2
    · simp only [List.mem_singleton] at e1 f1
      rcases hq with z | z
      · rw [z] at e1 f1; cases e1; cases f1; exact hab rfl
      · rw [z] at e1 f1; cases e1; cases f1; exact hab rfl
  · show (if top = b then some a else par top) = none
    rw [if_neg (fun z : top = b => hb (by rw [← z]; exact h1))]
    exact h2
  · by_cases e : x = b
    · exact ⟨a, if_pos e⟩
    · rcases List.mem_append.mp hx with hx | hx
      · obtain ⟨y, hy⟩ := h3 x hx hn
        exact ⟨y, by show (if x = b then some a else par x) = some y; rw [if_neg e]; exact hy⟩
      · simp only [List.mem_singleton] at hx
        exact absurd hx e
  · have e : (if x = b then some a else par x) = some y := e
    show x ∈ hs ++ [b] ∧ y ∈ hs ++ [b] ∧ (if y = b then rk a + 1 else rk y) < (if x = b then rk a + 1 else rk x)
    by_cases ex : x = b
    · rw [if_pos ex] at e
      cases e
      rw [if_pos ex, if_neg hab]
      exact ⟨by rw [ex]; simp, List.mem_append_left _ ha, Nat.lt_succ_self _⟩
    · rw [if_neg ex] at e
      obtain ⟨q1, q2, q3⟩ := h4 _ _ e
      rw [if_neg ex, if_neg (fun z : y = b => hb (by rw [← z]; exact q2))]
      exact ⟨List.mem_append_left _ q1, List.mem_append_left _ q2, q3⟩
  · rw [adj]
    show _ ↔ ((if x = b then some a else par x) = some y ∨ (if y = b then some a else par y) = some x)
    rw [h5]
    by_cases ex : x = b <;> by_cases ey : y = b <;> simp only [ex, ey, if_true, if_false] <;> grind
/-- each path told in one of its two ways -/
theorem Tree.turn {hs : List Str} {ps : Prs} (T : Tree hs ps) (f : Str × Str → Str × Str) (hf : ∀ q, f q = q ∨ f q = (q.2, q.1)) : Tree hs (ps.map f) := by
  have one : ∀ q ∈ ps, ∀ r ∈ ps, (f q = f r ∨ f q = ((f r).2, (f r).1)) → q = r := fun q hq r hr e => by
    obtain ⟨a, b⟩ := q
    obtain ⟨c, d⟩ := r
    have n := T.once c d hr
    have key : (a, b) = (c, d) ∨ (a, b) = (d, c) := by
      rcases hf (a, b) with h1 | h1 <;> rcases hf (c, d) with h2 | h2 <;> rw [h1, h2] at e <;> simp only [Prod.mk.injEq] at e ⊢ <;> grind
    rcases key with h | h
    · exact h
    · rw [h] at hq
      exact absurd hq n
  have adj : ∀ x y, Adj (ps.map f) x y ↔ Adj ps x y := fun x y => by
    have k : ∀ q, f q = (x, y) ∨ f q = (y, x) ↔ q = (x, y) ∨ q = (y, x) := fun q => by
      obtain ⟨a, b⟩ := q
      rcases hf (a, b) with h1 | h1 <;> rw [h1] <;> simp only [Prod.mk.injEq] <;> grind
    unfold Adj
    simp only [List.mem_map]
    constructor
    · rintro (⟨q, hq, e⟩ | ⟨q, hq, e⟩)
      · rcases (k q).mp (.inl e) with h | h
        · exact .inl (h ▸ hq)
        · exact .inr (h ▸ hq)
      · rcases (k q).mp (.inr e) with h | h
        · exact .inl (h ▸ hq)
        · exact .inr (h ▸ hq)
    · rintro (h | h)
      · rcases (k _).mpr (.inl rfl) with e | e
        · exact .inl ⟨_, h, e⟩
        · exact .inr ⟨_, h, e⟩
      · rcases (k _).mpr (.inr rfl) with e | e
        · exact .inl ⟨_, h, e⟩
        · exact .inr ⟨_, h, e⟩
  obtain ⟨par, rk, top, h1, h2, h3, h4, h5⟩ := T.ex
  refine ⟨T.nd, ?_, fun a b e g => ?_, par, rk, top, h1, h2, h3, h4, fun x y => (adj x y).trans (h5 x y)⟩
  · refine List.pairwise_map.mpr (List.Pairwise.imp_of_mem (fun {q r} hq hr hn e => hn (one q hq r hr (.inl e))) T.np)
  · obtain ⟨q, hq, e1⟩ := List.mem_map.mp e
    obtain ⟨r, hr, e2⟩ := List.mem_map.mp g
    have := one q hq r hr (.inr (by rw [e1, e2]))
    subst this
    rw [e1] at e2
    cases e2
    exact T.irr ((adj a a).mp (.inl e))
/-! ### ways to a root -/
inductive Pth (f : Str → Option Str) (r : Str) : Str → List Str → Prop
  | nil : Pth f r r [r]
  | cons {x y : Str} {l : List Str} (h : f x = some y) (p : Pth f r y l) : Pth f r x (x :: l)
structure Rt (hs : List Str) (ps : Prs) (r : Str) (f : Str → Option Str) : Prop where
  none : f r = none
  adj : ∀ x y, f x = some y → Adj ps x y
  one : ∀ x y, Adj ps x y → f x = some y ∨ f y = some x
  way : ∀ x ∈ hs, ∃ l, Pth f r x l
theorem Pth.ne {f : Str → Option Str} {r x : Str} {l : List Str} (h : Pth f r x l) : l ≠ [] := by cases h <;> simp
theorem Pth.head {f : Str → Option Str} {r x : Str} {l : List Str} (h : Pth f r x l) : ∃ t, l = x :: t := by cases h <;> exact ⟨_, rfl⟩
theorem Pth.uniq {f : Str → Option Str} {r x : Str} {l : List Str} (hr : f r = Option.none) (h : Pth f r x l) : ∀ {m}, Pth f r x m → l = m := by
  induction h with
  | nil =>
    intro m h2
    cases h2 with
    | nil => rfl
    | cons e _ => rw [hr] at e; cases e
  | cons e p ih =>
    intro m h2
    cases h2 with
    | nil => rw [hr] at e; cases e
    | cons e2 p2 =>
      rw [e] at e2
      cases e2
      rw [ih p2]
/-- what stands further on the way has its own way -/
theorem Pth.tail {f : Str → Option Str} {r x : Str} {l : List Str} (h : Pth f r x l) : ∀ y ∈ l, ∃ m, Pth f r y m ∧ m.length ≤ l.length ∧ (y ≠ x → m.length < l.length) := by
  induction h with
  | nil =>
    intro y hy
    simp only [List.mem_singleton] at hy
    subst hy
    exact ⟨_, .nil, Nat.le_refl _, fun z => absurd rfl z⟩
  | cons e p ih =>
    rename_i x' y' l'
    intro y hy
    rcases List.mem_cons.mp hy with rfl | hy
    · exact ⟨_, .cons e p, Nat.le_refl _, fun z => absurd rfl z⟩
    · obtain ⟨m, q, h1, _⟩ := ih y hy
      exact ⟨m, q, by rw [List.length_cons]; omega, fun _ => by rw [List.length_cons]; omega⟩
theorem Pth.nodup {f : Str → Option Str} {r x : Str} {l : List Str} (hr : f r = Option.none) (h : Pth f r x l) : l.Nodup := by
  induction h with
  | nil => simp
  | cons e p ih =>
    rename_i x' y' l'
    refine List.nodup_cons.mpr ⟨fun hx => ?_, ih⟩
    obtain ⟨m, q, h1, _⟩ := p.tail _ hx
    have := q.uniq hr (.cons e p)
    rw [this, List.length_cons] at h1
    omega
theorem Rt.mem {hs : List Str} {ps : Prs} {r : Str} {f : Str → Option Str} (T : Tree hs ps) (R : Rt hs ps r f) {x : Str} {l : List Str} (h : Pth f r x l) (hr : r ∈ hs) : ∀ y ∈ l, y ∈ hs := by
  induction h with
  | nil => intro y hy; simp only [List.mem_singleton] at hy; rw [hy]; exact hr
  | cons e p ih =>
    intro y hy
    rcases List.mem_cons.mp hy with rfl | hy
    · exact (T.mem (R.adj _ _ e)).1
    · exact ih y hy
/-- so many unlike ones, all among these: no more -/
theorem nodup_le {α : Type} [DecidableEq α] : ∀ {l m : List α}, l.Nodup → (∀ x ∈ l, x ∈ m) → l.length ≤ m.length
  | [], _, _, _ => Nat.zero_le _
  | a :: r, m, h, k => by
    have hm : a ∈ m := k a List.mem_cons_self
    have h2 := nodup_le (m := m.erase a) (List.nodup_cons.mp h).2 (fun x hx => by
      have hne : x ≠ a := fun z => (List.nodup_cons.mp h).1 (z ▸ hx)
      exact (List.mem_erase_of_ne hne).mpr (k x (List.mem_cons_of_mem _ hx)))
    rw [List.length_erase_of_mem hm] at h2
    have : 0 < m.length := List.length_pos_of_mem hm
    rw [List.length_cons]
    omega
theorem Rt.len {hs : List Str} {ps : Prs} {r : Str} {f : Str → Option Str} (T : Tree hs ps) (R : Rt hs ps r f) {x : Str} {l : List Str} (h : Pth f r x l) (hr : r ∈ hs) : l.length ≤ hs.length := nodup_le (h.nodup R.none) (R.mem T h hr)
/-- the root moved to a neighbour -/
def mv (f : Str → Option Str) (r r' : Str) : Str → Option Str := fun x => if x = r' then Option.none else if x = r then some r' else f x
theorem Rt.move {hs : List Str} {ps : Prs} {r r' : Str} {f : Str → Option Str} (T : Tree hs ps) (R : Rt hs ps r f) (h : Adj ps r r') : Rt hs ps r' (mv f r r') := by
  have hne : r ≠ r' := fun z => T.irr (z ▸ h : Adj ps r r)
  have e1 : f r' = some r := by
    rcases R.one _ _ h with e | e
    · rw [R.none] at e; cases e
    · exact e
  have m1 : mv f r r' r' = Option.none := by simp [mv]
  have m2 : mv f r r' r = some r' := by simp [mv, hne]
  have m3 : ∀ x, x ≠ r → x ≠ r' → mv f r r' x = f x := fun x a b => by simp [mv, a, b]
  refine ⟨m1, fun x y e => ?_, fun x y a => ?_, fun x hx => ?_⟩
  · by_cases hx : x = r'
    · rw [hx, m1] at e; cases e
    · by_cases hx2 : x = r
      · rw [hx2, m2] at e
        cases e
        rw [hx2]; exact h
      · rw [m3 x hx2 hx] at e
        exact R.adj _ _ e
  · have key : ∀ x y, f x = some y → (mv f r r' x = some y ∨ mv f r r' y = some x) := fun x y e => by
      by_cases hx : x = r'
      · subst hx
        rw [e1] at e
        cases e
        exact .inr m2
      · have hxr : x ≠ r := fun z => by rw [z, R.none] at e; cases e
        rw [m3 x hxr hx]
        exact .inl e
    rcases R.one _ _ a with e | e
    · exact key x y e
    · exact (key y x e).symm
  · obtain ⟨l, p⟩ := R.way x hx
    clear hx
    induction p with
    | nil => exact ⟨_, .cons m2 .nil⟩
    | cons e p ih =>
      rename_i x' y' l'
      by_cases hx : x' = r'
      · subst hx
        exact ⟨_, .nil⟩
      · have hxr : x' ≠ r := fun z => by rw [z, R.none] at e; cases e
        obtain ⟨m, q⟩ := ih
        exact ⟨_, .cons (by rw [m3 x' hxr hx]; exact e) q⟩
theorem Tree.root {hs : List Str} {ps : Prs} (T : Tree hs ps) : ∀ {r : Str}, r ∈ hs → ∃ f, Rt hs ps r f := by
  obtain ⟨par, rk, top, h1, h2, h3, h4, h5⟩ := T.ex
  have R0 : Rt hs ps top par := by
    refine ⟨h2, fun x y e => (h5 x y).mpr (.inl e), fun x y a => (h5 x y).mp a, ?_⟩
    have key : ∀ n x, rk x ≤ n → x ∈ hs → ∃ l, Pth par top x l := by
      intro n
      induction n with
      | zero =>
        intro x hn hx
        by_cases e : x = top
        · subst e
          exact ⟨_, Pth.nil⟩
        · obtain ⟨y, hy⟩ := h3 x hx e
          have := (h4 _ _ hy).2.2
          omega
      | succ n ih =>
        intro x hn hx
        by_cases e : x = top
        · subst e
          exact ⟨_, Pth.nil⟩
        · obtain ⟨y, hy⟩ := h3 x hx e
          obtain ⟨q1, q2, q3⟩ := h4 _ _ hy
          obtain ⟨l, p⟩ := ih y (by omega) q2
          exact ⟨_, .cons hy p⟩
    exact fun x hx => key _ x (Nat.le_refl _) hx
  have key : ∀ n r, rk r ≤ n → r ∈ hs → ∃ f, Rt hs ps r f := by
    intro n
    induction n with
    | zero =>
      intro r hn hr
      by_cases e : r = top
      · exact ⟨par, e ▸ R0⟩
      · obtain ⟨y, hy⟩ := h3 r hr e
        have := (h4 _ _ hy).2.2
        omega
    | succ n ih =>
      intro r hn hr
      by_cases e : r = top
      · exact ⟨par, e ▸ R0⟩
      · obtain ⟨y, hy⟩ := h3 r hr e
        obtain ⟨q1, q2, q3⟩ := h4 _ _ hy
        obtain ⟨f, R⟩ := ih y (by omega) q2
        exact ⟨_, R.move T ((h5 y r).mpr (.inr hy))⟩
  exact fun {r} hr => key _ r (Nat.le_refl _) hr
/-- two such functions agree -/
theorem Rt.agree {hs : List Str} {ps : Prs} {r : Str} {f g : Str → Option Str} (T : Tree hs ps) (R : Rt hs ps r f) (S : Rt hs ps r g) : ∀ x ∈ hs, f x = g x := by
  intro x hx
  obtain ⟨l, p⟩ := R.way x hx
  induction p with
  | nil => rw [R.none, S.none]
  | cons e p ih =>
    rename_i x' y' l'
    have ha := R.adj _ _ e
    have hy := (T.mem ha).2
    rcases S.one _ _ ha with q | q
    · rw [e, q]
    · have := ih hy
      rw [q] at this
      -- f y' = some x', but f x' = some y'
      obtain ⟨m, p2⟩ := R.way y' hy
      have a1 := p2.uniq R.none p
      subst a1
      obtain ⟨n, p3, hl, _⟩ := (Pth.cons this (Pth.cons e p2)).tail x' (by simp)
      have a2 := (Pth.cons this (Pth.cons e p2)).uniq R.none p2
      have := congrArg List.length a2
      simp at this
      omega
/-! ### rows of houses, each beside the one before -/
def Row (ps : Prs) (l : List Str) : Prop := ∀ i a b, l[i]? = some a → l[i + 1]? = some b → Adj ps a b
theorem Row.tail {ps : Prs} {x : Str} {l : List Str} (h : Row ps (x :: l)) : Row ps l := fun i a b e1 e2 => h (i + 1) a b e1 e2
theorem Rt.away {hs : List Str} {ps : Prs} {r : Str} {f : Str → Option Str} (R : Rt hs ps r f) : ∀ (t : List Str) (u v : Str), f v = some u → (u :: v :: t).Nodup → Row ps (v :: t) → (v :: t).getLast? = some r → False := by
  intro t
  induction t with
  | nil =>
    intro u v e _ _ q
    simp only [List.getLast?_singleton, Option.some.injEq] at q
    rw [q, R.none] at e
    cases e
  | cons w t ih2 =>
    intro u v e hn ha q
    have a2 : Adj ps v w := ha 0 v w rfl rfl
    rcases R.one _ _ a2 with e2 | e2
    · rw [e] at e2
      cases e2
      exact (List.nodup_cons.mp hn).1 (by simp)
    · exact ih2 v w e2 (List.nodup_cons.mp hn).2 ha.tail (by rw [List.getLast?_cons_cons] at q; exact q)
/-- a simple row that ends at the root is the way -/
theorem Rt.row {hs : List Str} {ps : Prs} {r : Str} {f : Str → Option Str} (R : Rt hs ps r f) :
    ∀ (l : List Str) (x : Str), (x :: l).Nodup → Row ps (x :: l) → (x :: l).getLast? = some r → Pth f r x (x :: l) := by
  intro l
  induction l with
  | nil =>
    intro x _ _ h
    simp only [List.getLast?_singleton, Option.some.injEq] at h
    subst h
    exact .nil
  | cons y t ih =>
    intro x hn ha hl
    have hl' : (y :: t).getLast? = some r := by rw [List.getLast?_cons_cons] at hl; exact hl
    rcases R.one _ _ (ha 0 x y rfl rfl) with e | e
    · exact .cons e (ih y (List.nodup_cons.mp hn).2 ha.tail hl')
    · exact (R.away t x y e hn ha.tail hl').elim
theorem Pth.last {f : Str → Option Str} {r x : Str} {l : List Str} (h : Pth f r x l) : l.getLast? = some r := by
  induction h with
  | nil => rfl
  | cons e p ih =>
    obtain ⟨t, rfl⟩ := p.head
    rw [List.getLast?_cons_cons]
    exact ih
theorem Pth.next {f : Str → Option Str} {r x : Str} {l : List Str} (h : Pth f r x l) : ∀ i a b, l[i]? = some a → l[i + 1]? = some b → f a = some b := by
  induction h with
  | nil => intro i a b h1 h2; simp at h2
  | cons e p ih =>
    intro i a b h1 h2
    cases i with
    | zero =>
      obtain ⟨t, rfl⟩ := p.head
      simp at h1 h2
      rw [← h1, ← h2]
      exact e
    | succ i => exact ih i a b h1 h2
theorem Pth.row {hs : List Str} {ps : Prs} {r x : Str} {f : Str → Option Str} {l : List Str} (R : Rt hs ps r f) (h : Pth f r x l) : Row ps l := fun i a b e1 e2 => R.adj _ _ (h.next i a b e1 e2)
/-! ### groups: what hangs together by some of the paths -/
theorem merge {h : Str → Str} {u v : Str} (huv : u ≠ v) (x y : Str) : ((if h x = u then v else h x) = (if h y = u then v else h y)) ↔ (h x = h y ∨ ((h x = u ∨ h x = v) ∧ (h y = u ∨ h y = v))) := by
  by_cases a : h x = u <;> by_cases b : h y = u <;> grind
theorem Tree.groups {hs : List Str} {ps : Prs} (T : Tree hs ps) : ∃ I : Prs → (Str → Str) → Prop,
    (∀ g, (∀ x ∈ hs, ∀ y ∈ hs, g x = g y → x = y) → I [] g) ∧
    (∀ d g a b, I d g → (a, b) ∈ ps → (∀ q ∈ d, q ∈ ps) → (a, b) ∉ d → g a ≠ g b ∧ ∀ g', (∀ x ∈ hs, g' x = if g x = g b then g a else g x) → I (d ++ [(a, b)]) g') ∧
    (∀ d g, I d g → (∀ q ∈ ps, q ∈ d) → ∀ x ∈ hs, ∀ y ∈ hs, g x = g y) := by
  obtain ⟨par, rk, top, h1, h2, h3, h4, h5⟩ := T.ex
  let ch : Str × Str → Str := fun q => if par q.1 = some q.2 then q.1 else q.2
  have chOf : ∀ x p, par x = some p → ch (x, p) = x ∧ ch (p, x) = x := fun x p e => by
    refine ⟨by simp [ch, e], ?_⟩
    have : par p ≠ some x := fun z => by
      have a := (h4 _ _ e).2.2
      have b := (h4 _ _ z).2.2
      omega
    simp [ch, this]
  have inv : ∀ a b, (a, b) ∈ ps → ∃ c p, par c = some p ∧ ch (a, b) = c ∧ ((a = c ∧ b = p) ∨ (a = p ∧ b = c)) := fun a b e => by
    rcases (h5 a b).mp (.inl e) with q | q
    · exact ⟨a, b, q, (chOf _ _ q).1, .inl ⟨rfl, rfl⟩⟩
    · exact ⟨b, a, q, (chOf _ _ q).2, .inr ⟨rfl, rfl⟩⟩
  refine ⟨fun d g => ∃ rep : Str → Str, (∀ x ∈ hs, (∀ q ∈ d, ch q ≠ x) → rep x = x) ∧ (∀ q ∈ d, ∀ p, par (ch q) = some p → rep (ch q) = rep p) ∧ ∀ x ∈ hs, ∀ y ∈ hs, g x = g y ↔ rep x = rep y, ?_, ?_, ?_⟩
  · intro g hg
    exact ⟨id, fun _ _ _ => rfl, fun q hq => absurd hq (by simp), fun x hx y hy => ⟨hg x hx y hy, fun e => by rw [show x = y from e]⟩⟩
  · rintro d g a b ⟨rep, r1, r2, r3⟩ hab hd hn
    obtain ⟨c, p, hc, ec, hcp⟩ := inv a b hab
    obtain ⟨mc, mp, lt⟩ := h4 _ _ hc
    have fresh : ∀ q ∈ d, ch q ≠ c := fun q hq e => by
      obtain ⟨a', b'⟩ := q
      obtain ⟨c', p', hc', ec', hcp'⟩ := inv a' b' (hd _ hq)
      have : c' = c := by rw [← ec', e]
      subst this
      rw [hc] at hc'
      cases hc'
      rcases hcp with ⟨rfl, rfl⟩ | ⟨rfl, rfl⟩ <;> rcases hcp' with ⟨rfl, rfl⟩ | ⟨rfl, rfl⟩
      · exact hn hq
      · exact T.once _ _ hab (hd _ hq)
      · exact T.once _ _ hab (hd _ hq)
      · exact hn hq
    have rkle : ∀ n x, rk x ≤ n → x ∈ hs → rk (rep x) ≤ rk x := by
      intro n
      induction n with
      | zero =>
        intro x hx hm
        by_cases e : ∀ q ∈ d, ch q ≠ x
        · rw [r1 x hm e]; exact Nat.le_refl _
        · obtain ⟨q, hq⟩ := Classical.not_forall.mp e
          obtain ⟨hq, hx2⟩ := Classical.not_imp.mp hq
          have hx2 : ch q = x := Classical.not_not.mp hx2
          obtain ⟨a', b'⟩ := q
          obtain ⟨c', p', hc', ec', _⟩ := inv a' b' (hd _ hq)
          rw [hx2] at ec'
          subst ec'
          have := (h4 _ _ hc').2.2
          omega
      | succ n ih =>
        intro x hx hm
        by_cases e : ∀ q ∈ d, ch q ≠ x
        · rw [r1 x hm e]; exact Nat.le_refl _
        · obtain ⟨q, hq⟩ := Classical.not_forall.mp e
          obtain ⟨hq, hx2⟩ := Classical.not_imp.mp hq
          have hx2 : ch q = x := Classical.not_not.mp hx2
          have e3 := r2 q hq
          obtain ⟨a', b'⟩ := q
          obtain ⟨c', p', hc', ec', _⟩ := inv a' b' (hd _ hq)
          rw [hx2] at ec' e3
          subst ec'
          rw [e3 p' hc']
          have := h4 _ _ hc'
          have := ih p' (by omega) this.2.1
          omega
    have rc : rep c = c := r1 c mc fresh
    have rp : rep p ≠ c := fun z => by
      have := rkle _ p (Nat.le_refl _) mp
      rw [z] at this
      omega
    have ma := T.mem (.inl hab)
    have hne : rep a ≠ rep b := by
      rcases hcp with ⟨rfl, rfl⟩ | ⟨rfl, rfl⟩
      · rw [rc]; exact fun z => rp z.symm
      · rw [rc]; exact rp
    have gne : g a ≠ g b := fun z => hne ((r3 _ ma.1 _ ma.2).mp z)
    refine ⟨gne, fun g' hg' => ⟨fun x => if rep x = c then rep p else rep x, fun x hx hq => ?_, fun q hq p' hp' => ?_, fun x hx y hy => ?_⟩⟩
    · have e1 := r1 x hx (fun q hq2 => hq q (List.mem_append_left _ hq2))
      have e2 : ch (a, b) ≠ x := hq _ (by simp)
      rw [ec] at e2
      show (if rep x = c then rep p else rep x) = x
      rw [e1, if_neg (fun z => e2 z.symm)]
    · show (if rep (ch q) = c then rep p else rep (ch q)) = (if rep p' = c then rep p else rep p')
      rcases List.mem_append.mp hq with hq | hq
      · rw [r2 q hq p' hp']
      · simp only [List.mem_singleton] at hq
        subst hq
        rw [ec] at hp' ⊢
        rw [hc] at hp'
        cases hp'
        rw [rc, if_pos rfl, if_neg rp]
    · rw [hg' x hx, hg' y hy, merge (Ne.symm gne), show ((if rep x = c then rep p else rep x) = (if rep y = c then rep p else rep y)) ↔ _ from merge (h := rep) (Ne.symm rp) x y]
      rw [r3 x hx y hy, r3 x hx b ma.2, r3 x hx a ma.1, r3 y hy b ma.2, r3 y hy a ma.1]
      rcases hcp with ⟨rfl, rfl⟩ | ⟨rfl, rfl⟩
      · rw [rc]
        constructor
        · rintro (e | ⟨e1, e2⟩)
          · exact .inl e
          · exact .inr ⟨e1.symm, e2.symm⟩
        · rintro (e | ⟨e1, e2⟩)
          · exact .inl e
          · exact .inr ⟨e1.symm, e2.symm⟩
      · rw [rc]
  · rintro d g ⟨rep, r1, r2, r3⟩ hall x hx y hy
    have key : ∀ n z, rk z ≤ n → z ∈ hs → rep z = rep top := by
      intro n
      induction n with
      | zero =>
        intro z hz hm
        by_cases e : z = top
        · rw [e]
        · obtain ⟨p, hp⟩ := h3 z hm e
          have := (h4 _ _ hp).2.2
          omega
      | succ n ih =>
        intro z hz hm
        by_cases e : z = top
        · rw [e]
        · obtain ⟨p, hp⟩ := h3 z hm e
          obtain ⟨_, mp, lt⟩ := h4 _ _ hp
          have e2 : rep z = rep p := by
            rcases (h5 z p).mpr (.inl hp) with q | q
            · have := r2 _ (hall _ q) p (by rw [(chOf _ _ hp).1]; exact hp)
              rwa [(chOf _ _ hp).1] at this
            · have := r2 _ (hall _ q) p (by rw [(chOf _ _ hp).2]; exact hp)
              rwa [(chOf _ _ hp).2] at this
          rw [e2]
          exact ih p (by omega) mp
    exact (r3 x hx y hy).mpr ((key _ x (Nat.le_refl _) hx).trans (key _ y (Nat.le_refl _) hy).symm)
/-! ### what lies beside a house -/
def nearL : Prs → Str → List Str
  | [], _ => []
  | (a, b) :: r, x => (if a = x then [b] else []) ++ ((if b = x then [a] else []) ++ nearL r x)
theorem nearL_snoc (ps : Prs) (a b x : Str) : nearL (ps ++ [(a, b)]) x = nearL ps x ++ ((if a = x then [b] else []) ++ (if b = x then [a] else [])) := by
  induction ps with
  | nil => simp [nearL]
  | cons q r ih =>
    obtain ⟨c, d⟩ := q
    show (if c = x then [d] else []) ++ ((if d = x then [c] else []) ++ nearL (r ++ [(a, b)]) x) = _
    rw [ih]
    simp [nearL, List.append_assoc]
theorem nearL_mem {ps : Prs} {x y : Str} : y ∈ nearL ps x ↔ Adj ps x y := by
  induction ps with
  | nil => simp [nearL, Adj]
  | cons q r ih =>
    obtain ⟨c, d⟩ := q
    unfold Adj at ih ⊢
    simp only [nearL, List.mem_append, ih, List.mem_cons, Prod.mk.injEq]
    constructor
    · rintro (h | h | h | h)
      · split at h
        · simp at h; subst h; rename_i e; exact .inl (.inl ⟨e.symm, rfl⟩)
        · simp at h
      · split at h
        · simp at h; subst h; rename_i e; exact .inr (.inl ⟨rfl, e.symm⟩)
        · simp at h
      · exact .inl (.inr h)
      · exact .inr (.inr h)
    · rintro ((⟨rfl, rfl⟩ | h) | (⟨rfl, rfl⟩ | h))
      · exact .inl (by simp)
      · exact .inr (.inr (.inl h))
      · exact .inr (.inl (by simp))
      · exact .inr (.inr (.inr h))
theorem nearL_nodup {x : Str} : ∀ {ps : Prs}, ps.Nodup → (∀ a b, (a, b) ∈ ps → (b, a) ∉ ps) → (nearL ps x).Nodup
  | [], _, _ => by simp [nearL]
  | (a, b) :: r, hn, ho => by
    have ih := nearL_nodup (x := x) (List.nodup_cons.mp hn).2 (fun c d h1 h2 => ho c d (List.mem_cons_of_mem _ h1) (List.mem_cons_of_mem _ h2))
    have hab : a ≠ b := fun z => by
      subst z
      exact ho a a List.mem_cons_self List.mem_cons_self
    have k1 : (a, b) ∉ r := (List.nodup_cons.mp hn).1
    have k2 : (b, a) ∉ r := fun z => ho a b List.mem_cons_self (List.mem_cons_of_mem _ z)
    by_cases e1 : a = x
    · subst e1
      have e2 : ¬ b = a := fun z => hab z.symm
      simp only [nearL, if_true, e2, if_false, List.nil_append, List.singleton_append]
      exact List.nodup_cons.mpr ⟨fun z => by
        rcases nearL_mem.mp z with q | q
        · exact k1 q
        · exact k2 q, ih⟩
    · by_cases e2 : b = x
      · subst e2
        simp only [nearL, e1, if_false, if_true, List.nil_append, List.singleton_append]
        exact List.nodup_cons.mpr ⟨fun z => by
          rcases nearL_mem.mp z with q | q
          · exact k2 q
          · exact k1 q, ih⟩
      · simp only [nearL, e1, e2, if_false, List.nil_append]
        exact ih
theorem Tree.near {hs : List Str} {ps : Prs} (T : Tree hs ps) (x : Str) : (nearL ps x).Nodup := nearL_nodup T.np T.once
end Tr

/-! t[::-1] of a pair; law-independent. -/
namespace HT
open PySem PySem.Calls PyProof.Rows
section
variable {prog : Program} {w : World} {A : Around} {E : Value → Shared → Prop} {s : Shared}
theorem sliceApplied_back {sl : Addr} {st : Tok} {Q : Int × Int × Nat → Shared → Prop} (hs : s.heap.IsSliceOf sl .none .none (.int (-1) st))
    (h : Q (1, -1, 2) s) : wpAny (model prog w) A (Builtin.Slice.sliceApplied (.ref sl) (pure (2 : Int))) Q E s := by
  obtain ⟨os, hos, hcs, hds⟩ := id hs
  unfold Builtin.Slice.sliceApplied Builtin.Slice.sliceFields
  refine wpAny_bind (wpAny_bind (wpAny_field hos hds (x := .none) rfl (wpAny_bind (wpAny_field hos hds (x := .none) rfl (wpAny_bind (wpAny_field hos hds (x := .int (-1) st) rfl (wpAny_pure ?_)))))))
  refine wpAny_bind (slicePart_int ?_)
  show wpAny _ _ (if ((-1 : Int) == 0) = true then _ else _) _ _ s
  rw [if_neg (by decide)]
  refine wpAny_bind (slicePart_none (wpAny_bind (slicePart_none (wpAny_bind (wpAny_pure ?_)))))
  exact wpAny_pure h
theorem getItem_pair_back {t sl : Addr} {u v : Value} {st : Tok} {Q : Value → Shared → Prop} (ht : IsTup s.heap t #[u, v]) (hs : s.heap.IsSliceOf sl .none .none (.int (-1) st))
    (h : Q (.ref s.heap.objs.size) { s with heap := s.heap.push { cls := .type "tuple", data := .seq #[v, u] } }) : wpAny (model prog w) A (getItem (.ref t) (.ref sl)) Q E s := by
  obtain ⟨os, hos, hcs, hds⟩ := id hs
  have hTs : s.TypeIs (.ref sl) "slice" := ⟨os, hos, hcs⟩
  have hso : sizeOk (.seq #[v, u]) := by show 2 ≤ sizeLine; decide
  unfold getItem
  try with_reducible refine wpAny_holding ?_
  first | refine wpAny_bind (wpAny_pure ?_) | skip
  refine wpAny_bind (wpAny_sequenceKey ht.typeIs (by decide) ?_)
  refine wpAny_bind (wpAny_callSpecial?_slot (name := Str.ofString "__getitem__") ht.typeIs PyProof.Rows.slot_tuple_getitem
    (wpAny_call_entry PyProof.Rows.slot_tuple_getitem ht.typeIs entry_tuple_getitem ?_ (args_tuple_getitem _ _)))
  show wpAny _ _ (Builtin.Tuple.tupleItemsOf (.ref t) >>= _) _ _ s
  refine wpAny_bind (tupleItemsOf_ ht ?_)
  refine wpAny_bind (wpAny_typeOf hTs ?_)
  rw [if_pos (by decide)]
  refine wpAny_bind (sliceApplied_back (st := st) hs ?_)
  show wpAny _ _ (if (((1 : Int) == 0 && (-1 : Int) == 1 && (2 == 2))) = true then _ else _) _ _ s
  rw [if_neg (by decide)]
  have e : ((List.range 2).filterMap fun (m : Nat) => (#[u, v] : Array Value)[((1 : Int) + (m : Int) * (-1)).toNat]?).toArray = #[v, u] := rfl
  rw [e]
  first
    | exact wpAny_bind (m := Builtin.Tuple.tupleExact _) (wpAny_newObj_type (wpAny_pure ⟨_, rfl, wpAny_pure h⟩) hso)
    | exact wpAny_bind (m := Builtin.Tuple.tupleExact _) (wpAny_newObj_type (wpAny_bind (wpAny_pure (wpAny_pure ⟨_, rfl, wpAny_pure h⟩))) hso)
    | exact wpAny_bind (wpAny_bind (m := Builtin.Tuple.tupleExact _) (wpAny_newObj_type (wpAny_pure (wpAny_pure ⟨_, rfl, wpAny_pure h⟩)) hso))
    | exact wpAny_bind (wpAny_bind (m := Builtin.Tuple.tupleExact _) (wpAny_newObj_type (wpAny_pure ⟨_, rfl, wpAny_pure h⟩) hso))
end
end HT
namespace L2
open PySem PySem.Spec PyProof.Rows
variable {X : Cx}
def tRevT (K : PySem.W.Frag) (te : TE) : TE := fun σ H Q => te σ H fun x H1 => ∃ a u v, x = .ref a ∧ SqT K H1 a [u, v] ∧ ∀ p, H1 p = none → Q (.ref p) (upd H1 p (.tup [v, u]))
theorem pe_revT {e : Expr} {te : TE} {k : Nat} {p1 p2 p3 pos : Pos} (he : PE X e te) : PE X (.Subscript e (.Slice none none (some (.UnaryOp .USub (.Constant (.int 1) k p1) p2)) p3) pos) (tRevT X.K te) := by
  refine ⟨fun pins s σ H Q I h => ?_⟩
  refine Subscript_ (thn (he.run pins s σ H _ I h) fun v s1 ⟨x, H1, I1, r1, q1⟩ => ?_)
  obtain ⟨a, x0, x1, ex, hx, q⟩ := q1
  subst ex
  cases r1
  have hst : PO X (some (.UnaryOp .USub (.Constant (.int 1) k p1) p2)) (tPart (tUn (rU fun i => .int (-i)) (tC (.int 1)))) := po_some (pe_un un_neg pe_int)
  refine wpAny_Slice (thn (po_none.run pins s1 σ H1 (fun o H2 => o = none ∧ H2 = H1) I1 ⟨rfl, rfl⟩) fun vl s2 ⟨l, H2, I2, pl, el, e2⟩ => ?_)
  subst el e2
  refine thn (po_none.run pins s2 σ H2 (fun o H3 => o = none ∧ H3 = H2) I2 ⟨rfl, rfl⟩) fun vu s3 ⟨u, H3, I3, pu, eu, e3⟩ => ?_
  subst eu e3
  refine thn (hst.run pins s3 σ H3 (fun o H4 => o = some (-1) ∧ H4 = H3) I3 ⟨1, rfl, -1, rfl, rfl, rfl⟩) fun vs s4 ⟨o, H4, I4, ps, eo, e4⟩ => ?_
  subst eo e4
  have I5 : Inv X pins σ H4 { s4 with heap := s4.heap.push { cls := .type "slice", data := .fields #[vl, vu, vs] } } := I4.kept (t' := s4.toks) fun b ob q => Heap.get?_push_of_some _ q
  obtain ⟨its, r, ht, hz⟩ := I5.tuple hx
  obtain ⟨v0, v1, rfl, r0, r1⟩ := vals2 r
  cases pl
  cases pu
  cases ps
  show wpAny (model X.prog X.w) X.A (subscriptTail e (.Slice none none (some (.UnaryOp .USub (.Constant (.int 1) k p1) p2)) p3) (.ref a) (.ref s4.heap.objs.size)) (EP X pins σ Q) X.xe { s4 with heap := s4.heap.push { cls := .type "slice", data := .fields #[.none, .none, .int (-1) _] } }
  refine tail_any (ops := [.ref a, .ref s4.heap.objs.size]) ht.typeIs (PyProof.Rows.slot_tuple_getitem.lookup) ?_ (by with_unfolding_all rfl)
  refine HT.getItem_pair_back ht (Heap.IsSliceOf.new _ _ _ _) ?_
  refine ⟨.ref _, _, I5.laid (t' := s4.toks) (o := .tup [x1, x0]) (fun b ob q => Heap.get?_push_of_some _ q) (Nat.le_refl _) ?_, rfl, q _ (I5.hok.fresh (Nat.le_refl _))⟩
  exact ⟨by show 2 ≤ sizeLine; decide, _, .cons r1 (.cons r0 .nil), IsTup.new _ _⟩
end L2

namespace K11
open PySem PySem.Spec PyProof.Rows L2
/-! ### drawn names, paths, a village -/
def names12 : List Str := ["b", "aa", "c1", "mill", "z9", "a", "m3", "abcdefghijk1", "inn", "no", "q7", "forge"]
theorem map_back {α β : Type} {f : α → β} {g : β → α} (hg : ∀ x, g (f x) = x) {l : List α} {m : List β} (h : m.Perm (l.map f)) : ∃ l' : List α, l'.Perm l ∧ m = l'.map f := by
  have e : ∀ y ∈ m, f (g y) = y := fun y hy => by
    obtain ⟨x, _, rfl⟩ := List.mem_map.mp (h.mem_iff.mp hy)
    rw [hg]
  refine ⟨m.map g, ?_, ?_⟩
  · have := h.map g
    rw [List.map_map, show g ∘ f = id from funext hg, List.map_id] at this
    exact this
  · rw [List.map_map]
    conv => lhs; rw [← List.map_id m]
    exact List.map_congr_left fun y hy => (e y hy).symm
/-- what is new behind was new ahead -/
theorem Kp.fresh {p c r : Addr} {n : Nat} {H H' : Hp} (a : Kp p c H H') (h : StrAt H' p c n) (hr : H' r = none) : H r = none := by
  cases e : H r with
  | none => rfl
  | some o =>
    obtain ⟨h1, h2⟩ := h.ne hr
    have := a _ _ e h1 h2
    rw [hr] at this
    cases this
def strV : V → Str
  | .str z => z
  | _ => ⟨#[]⟩
theorem perm_strs {zs : List Str} {ys : List V} (h : ys.Perm (zs.map V.str)) : ∃ xs : List Str, xs.Perm zs ∧ ys = xs.map V.str := map_back (g := strV) (fun _ => rfl) h
theorem cutV_take {xs : List V} (k : Nat) : cutV xs none (some (k : Int)) = xs.take k := by
  unfold cutV
  rw [HT.sIx_nat, HT.sIx_none, List.drop_zero, Nat.sub_zero]
  by_cases h : k ≤ xs.length
  · rw [Nat.min_eq_left h]
  · rw [Nat.min_eq_right (by omega), List.take_of_length_le (Nat.le_refl _), List.take_of_length_le (by omega)]
abbrev sNames : Stmt := top 62
def spNames : Sp := fun vs H Q _ => ∃ (p c : Addr) (n many : Nat), vs = [.ref p, .int (many : Nat)] ∧ StrAt H p c n ∧ n + 12 ≤ 1000000000 ∧ 1 ≤ many ∧ many ≤ 12 ∧
  ∀ (q : Addr) (hs : List Str) (H' : Hp), H q = none → H' q = some (.lst (hs.map V.str)) → hs.length = many → hs.Nodup → (∀ h ∈ hs, h ∈ names12) → Kp p c H H' → StrAt H' p c (n + 12) → Q (.ref q) H'
section
variable {P : Program} {w : World} {K : PySem.W.Frag} {mg : Str → Option Value} {base : Heap}
theorem scNames : FnScope ["stream", "many", "some"] ["stream", "many"] (defScope sNames) := ⟨rfl, rfl, rfl, by decide +kernel, rfl, by decide +kernel, by decide +kernel⟩
theorem ok_names {f fM : Addr} {fd fdM : FuncData} (F : FnP K "_law_v_names" sNames f fd) (GM : FnOk P w K mg base CX0 2 fM fdM ["stream", "some"] (spMixed K)) (bM : Binds K fdM ["stream", "some"] []) (kM : PySem.W.keepIn K (.ref fM) = true) (gM : mg "_law_mixed" = some (.ref fM)) :
    FnOk P w K mg base CX0 3 f fd ["stream", "many"] spNames := by
  refine F.ok scNames (fun vs H Q E h => ?_) (fun cdv A outer s H vs Q E hr h => ?_)
  · obtain ⟨p, c, n, many, rfl, _⟩ := h
    rfl
  · obtain ⟨p, c, n, many, rfl, hS, hn, hm1, hm2, k⟩ := h
    refine ⟨_, PSs.nox (pss_cons (ps_set (i := 2) scNames.nd rfl (.inl rfl) (pe_lst (pa_cons pe_str (pa_cons pe_str (pa_cons pe_str (pa_cons pe_str (pa_cons pe_str (pa_cons pe_str (pa_cons pe_str (pa_cons pe_str (pa_cons pe_str (pa_cons pe_str (pa_cons pe_str (pa_cons pe_str pa_nil))))))))))))))
      (pss_one (ps_ret (pe_slice sl_list (pe_call GM hr rfl gM kM bM .nil pass0 (pa_cons (pv 0) (pa_cons (pv 2) pa_nil))) po_none (po_some (pv 1)))))), ?_⟩
    refine ⟨by show 12 ≤ sizeLine; decide, fun a ha => ?_⟩
    have S1 : StrAt (upd H a (.lst (names12.map V.str))) p c n := hS.new ha
    refine ⟨_, rfl, _, rfl, p, c, a, n, names12.map V.str, rfl, S1, hn, .inl (SqL.of upd_same), by decide, fun q ys H' hq hq' hp hK hS' => ?_⟩
    obtain ⟨zs, hz, rfl⟩ := perm_strs hp
    refine ⟨_, rfl, _, rfl, q, _, rfl, SqL.of hq', fun r hr' => ?_⟩
    rw [cutV_take, ← List.map_take]
    have hqa : q ≠ a := fun z => by rw [z, upd_same] at hq; cases hq
    have K1 : Kp p c H H' := ((Kp.refl H).new ha).trans hK
    have hrH : H r = none := K1.fresh hS' hr'
    refine k r (zs.take many) _ hrH upd_same ?_ ?_ (fun h hh => hz.mem_iff.mp (List.mem_of_mem_take hh)) (K1.new hr') (hS'.new hr')
    · rw [List.length_take, hz.length_eq]
      show min many 12 = many
      omega
    · exact List.Nodup.sublist (List.take_sublist _ _) (hz.nodup_iff.mpr (by decide +kernel))
end
end K11

namespace K11
open PySem PySem.Spec PyProof.Rows L2 Tr
/-- pairs of texts, each at its place -/
abbrev PrL : Type := List (Addr × Str × Str)
def PrsAt (H : Hp) (qs : PrL) : Prop := ∀ t ∈ qs, H t.1 = some (.tup [.str t.2.1, .str t.2.2])
def refsL (qs : PrL) : List V := qs.map fun t => .ref t.1
theorem PrsAt.keep {H H' : Hp} {qs : PrL} (h : PrsAt H qs) (e : ∀ t ∈ qs, ∀ o, H t.1 = some o → H' t.1 = some o) : PrsAt H' qs := fun t ht => e t ht _ (h t ht)
theorem PrsAt.ex {H H' : Hp} {qs : PrL} (h : PrsAt H qs) (e : Evl.Ex H H') : PrsAt H' qs := fun t ht => e _ _ (h t ht)
theorem PrsAt.kp {H0 H H' : Hp} {qs : PrL} {p c : Addr} (h : PrsAt H qs) (e : Kp p c H H') (hp : ∀ t ∈ qs, t.1 ≠ p ∧ t.1 ≠ c) : PrsAt H' qs := fun t ht => e _ _ (h t ht) (hp t ht).1 (hp t ht).2
theorem PrsAt.nep {H : Hp} {qs : PrL} {p c : Addr} {n : Nat} (h : PrsAt H qs) (hS : StrAt H p c n) : ∀ t ∈ qs, t.1 ≠ p ∧ t.1 ≠ c := fun t ht => by
  obtain ⟨L, cells, a', k', m', g1, g2, _⟩ := hS
  have e := h t ht
  refine ⟨fun z => ?_, fun z => ?_⟩
  · rw [z, g1] at e
    cases e
  · rw [z, g2] at e
    cases e
/-- a list of names is no part of the stream -/
theorem strs_nep {H : Hp} {l p c : Addr} {n : Nat} {hs : List Str} (h : H l = some (.lst (hs.map V.str))) (hne : hs ≠ []) (hS : StrAt H p c n) : l ≠ p ∧ l ≠ c := by
  obtain ⟨L, cells, a', k', m', g1, g2, _⟩ := hS
  refine ⟨fun z => ?_, fun z => ?_⟩
  · rw [z, g1] at h
    cases hs with
    | nil => exact hne rfl
    | cons x r => cases h
  · rw [z, g2] at h
    cases hs with
    | nil => exact hne rfl
    | cons x r =>
      have h := Option.some.inj h
      injection h with h
      cases cells with
      | nil => cases h
      | cons i t => injection h with h1 _; cases h1
abbrev sPaths : Stmt := top 63
def spPaths : Sp := fun vs H Q _ => ∃ (p c l : Addr) (n : Nat) (hs : List Str), vs = [.ref p, .ref l] ∧ StrAt H p c n ∧ n + 64 ≤ 1000000000 ∧ H l = some (.lst (hs.map V.str)) ∧ hs ≠ [] ∧ hs.length ≤ 12 ∧ hs.Nodup ∧
  ∀ (q : Addr) (qs : PrL) (H' : Hp), H q = none → H' q = some (.lst (refsL qs)) → PrsAt H' qs → (∀ t ∈ qs, H t.1 = none) → Tree hs (qs.map (·.2)) → qs.length + 1 = hs.length → Kp p c H H' → StrAt H' p c (n + 64) → Q (.ref q) H'
theorem getD_of {α : Type} {l : List α} {i : Nat} (h : i < l.length) : ∃ x, l[i]? = some x := ⟨l[i], List.getElem?_eq_getElem h⟩
theorem snd_refs {xs : List V} {qs : PrL} (h : xs.Perm (refsL qs)) : ∃ zs : PrL, zs.Perm qs ∧ xs = refsL zs := by
  obtain ⟨ys, p, e⟩ := perm_lift (fun t : Addr × Str × Str => V.ref t.1) h qs rfl
  exact ⟨ys, p, e.symm⟩
section
variable {P : Program} {w : World} {K : PySem.W.Frag} {mg : Str → Option Value} {base : Heap}
theorem scPaths : FnScope ["stream", "houses", "shape", "found", "k", "at", "pair"] ["stream", "houses"] (defScope sPaths) := ⟨rfl, rfl, rfl, by decide +kernel, rfl, by decide +kernel, by decide +kernel⟩
theorem ok_paths {f fD fM : Addr} {fd fdD fdM : FuncData} (F : FnP K "_law_v_paths" sPaths f fd) (GD : FnOk P w K mg base CX0 1 fD fdD ["stream", "many"] spDraw) (bD : Binds K fdD ["stream", "many"] []) (kD : PySem.W.keepIn K (.ref fD) = true) (gD : mg "_law_draw" = some (.ref fD))
    (GM : FnOk P w K mg base CX0 2 fM fdM ["stream", "some"] (spMixed K)) (bM : Binds K fdM ["stream", "some"] []) (kM : PySem.W.keepIn K (.ref fM) = true) (gM : mg "_law_mixed" = some (.ref fM)) (gR : mg "range" = none) (gL : mg "len" = none) (gX : mg "max" = none) :
    FnOk P w K mg base CX0 3 f fd ["stream", "houses"] spPaths := by
  refine F.ok scPaths (fun vs H Q E h => ?_) (fun cdv A outer s H vs Q E hr h => ?_)
  · obtain ⟨p, c, l, n, hs, rfl, _⟩ := h
    rfl
  · obtain ⟨p, c, l, n, hs, rfl, hS, hn, hl, hne, h12, hnd, k⟩ := h
    refine ⟨_, PSs.nox (pss_cons (ps_par (i := 2) (j := 3) rfl scPaths.nd rfl rfl (by decide) rfl rfl (pa_cons (pe_call GD (hr.mono (by decide)) rfl gD kD bD .nil pass0 (pa_cons (pv 0) (pa_cons pe_int pa_nil))) (pa_cons (pe_lst pa_nil) pa_nil)) rfl)
      (pss_cons (ps_for PassesOwn.never rfl (pi_range2 rfl gR (pa_cons pe_int (pa_cons (pe_callB call_len_seq (by rfl) gL PySem.boot_len (pa_cons (pv 1) pa_nil)) pa_nil))) (pg_name (i := 4) scPaths.nd rfl (.inl rfl))
        (pss_cons (ps_set (i := 5) scPaths.nd rfl (.inl rfl) (pe_ix ix_list (pe_lst (pa_cons (pe_op op_sub (pv 4) pe_int) (pa_cons pe_int (pa_cons (pe_call GD (hr.mono (by decide)) rfl gD kD bD .nil pass0 (pa_cons (pv 0) (pa_cons (pv 4) pa_nil)))
            (pa_cons (pe_callB (call_max2 rfl) (by rfl) gX (by decide +kernel) (pa_cons pe_int (pa_cons (pe_op op_sub (pe_op op_sub (pv 4) pe_int) (pe_call GD (hr.mono (by decide)) rfl gD kD bD .nil pass0 (pa_cons (pv 0) (pa_cons pe_int pa_nil)))) pa_nil))) pa_nil))))) (pv 2) (fun _ _ => rfl)))
        (pss_cons (ps_set (i := 6) scPaths.nd rfl (.inl rfl) (pe_tup (pa_cons (pe_ix ix_list (pv 1) (pv 5) (fun _ _ => rfl)) (pa_cons (pe_ix ix_list (pv 1) (pv 4) (fun _ _ => rfl)) pa_nil))))
        (pss_one (ps_expr (pe_bm PySem.F.plainAttrs_list PySem.F.slot_list_append PySem.F.type_list_append mt_append (pv 3) (pa_cons (pe_ifExp (pt_cmpR op_eq (pe_call GD (hr.mono (by decide)) rfl gD kD bD .nil pass0 (pa_cons (pv 0) (pa_cons pe_int pa_nil))) pe_int (nomark _)) (pv 6) (pe_revT (pv 6))) pa_nil)))))))
      (pss_one (ps_ret (pe_call GM hr rfl gM kM bM .nil pass0 (pa_cons (pv 0) (pa_cons (pv 3) pa_nil))))))), ?_⟩
    obtain ⟨hlp, hlc⟩ := strs_nep hl hne hS
    have hl1 : 1 ≤ hs.length := List.length_pos_iff.mpr hne
    refine ⟨_, rfl, p, c, n, 4, rfl, hS, by omega, by decide, by decide, fun d H1 d0 d4 hK1 hS1 => ?_⟩
    refine ⟨by show 0 ≤ sizeLine; decide, fun fo hfo => ⟨_, _, rfl, ?_⟩⟩
    have hl1' : H1 l = some (.lst (hs.map V.str)) := hK1 _ _ hl hlp hlc
    have hlfo : l ≠ fo := ne_of_none hl1' hfo
    have lenS : (hs.map V.str).length = hs.length := List.length_map _
    refine ⟨_, rfl, l, _, rfl, .inl (SqL.of (by rw [upd_ne hlfo]; exact hl1')), 1, (hs.length : Nat), by rw [lenS], ⟨by decide, by decide, by omega, by omega⟩, ?_⟩
    obtain ⟨nfp, nfc⟩ := hS1.ne hfo
    have hfoH : H fo = none := hK1.fresh hS1 hfo
    refine for_it walk_range (fun i σ H' => ∃ (v4 v5 v6 : Option V) (qs : PrL), σ = [some (.ref p), some (.ref l), some (.int d), some (.ref fo), v4, v5, v6] ∧ H' fo = some (.lst (refsL qs)) ∧ PrsAt H' qs ∧ (∀ t ∈ qs, H t.1 = none) ∧ qs.length = i ∧ Tree (hs.take (i + 1)) (qs.map (·.2)) ∧ Kp p c H H' ∧ StrAt H' p c (n + 1 + 3 * i))
      ?_ (fun _ _ _ _ _ => trivial) (fun i x σ H' H'' hi hp hy => ?_) (fun σ H' hp => ?_)
    · refine ⟨none, none, none, [], rfl, upd_same, fun t ht => absurd ht (by simp), fun t ht => absurd ht (by simp), rfl, ?_, hK1.new hfo, hS1.new hfo⟩
      cases hs with
      | nil => exact absurd rfl hne
      | cons h0 r => exact Tree.sole h0
    · obtain ⟨v4, v5, v6, qs, rfl, e1, e2, e3, e4, e5, e6, e7⟩ := hp
      obtain ⟨rfl, rfl⟩ := hy
      have hi' : i + 1 < hs.length := by omega
      have ek : (1 : Int) + (i : Nat) = ((i + 1 : Nat) : Int) := by omega
      have hlx : H'' l = some (.lst (hs.map V.str)) := e6 _ _ hl hlp hlc
      -- the four places
      refine ⟨_, rfl, _, _, rfl, rfl, _, rfl, _, rfl, p, c, n + 1 + 3 * i, 1 + (i : Nat), rfl, e7, by omega, by omega, by omega, fun d1 H2 a1 b1 hK2 hS2 => ?_⟩
      refine ⟨_, rfl, _, _, rfl, rfl, _, rfl, p, c, n + 1 + 3 * i + 1, 2, rfl, hS2, by omega, by decide, by decide, fun d2 H3 a2 b2 hK3 hS3 => ?_⟩
      refine ⟨_, _, rfl, rfl, _, _, rfl, ?_⟩
      refine ⟨by show 4 ≤ sizeLine; decide, fun la hla => ?_⟩
      have hK23 : Kp p c H H3 := (e6.trans hK2).trans hK3
      obtain ⟨j, rfl⟩ : ∃ j : Nat, d = (j : Int) := ⟨d.toNat, by omega⟩
      have hj4 : j < 4 := by omega
      -- the place drawn
      obtain ⟨at_, hat, hle⟩ : ∃ at_ : Nat, [V.int (1 + (i : Nat) - 1), .int 0, .int d1, .int (if 1 + (i : Nat) - 1 - d2 > 0 then 1 + (i : Nat) - 1 - d2 else 0)][j]? = some (.int (at_ : Nat)) ∧ at_ ≤ i := by
        have h4 : j = 0 ∨ j = 1 ∨ j = 2 ∨ j = 3 := by omega
        rcases h4 with rfl | rfl | rfl | rfl
        · exact ⟨i, by simp only [List.getElem?_cons_zero]; congr 2; omega, Nat.le_refl _⟩
        · exact ⟨0, rfl, Nat.zero_le _⟩
        · refine ⟨d1.toNat, ?_, by omega⟩
          show some (V.int d1) = _
          congr 2; omega
        · refine ⟨(if 1 + (i : Int) - 1 - d2 > 0 then 1 + (i : Int) - 1 - d2 else 0).toNat, ?_, by split <;> omega⟩
          show some (V.int _) = _
          congr 2
          split <;> omega
      refine ⟨_, rfl, la, _, (j : Int), _, rfl, rfl, SqL.of upd_same, atI_nat hat, ?_⟩
      have hl3 : H3 l = some (.lst (hs.map V.str)) := hK23 _ _ hl hlp hlc
      have hf3 : H3 fo = some (.lst (refsL qs)) := hK3 _ _ (hK2 _ _ e1 nfp nfc) nfp nfc
      have hll : l ≠ la := ne_of_none hl3 hla
      have hfl : fo ≠ la := ne_of_none hf3 hla
      have hl3' : upd H3 la (.lst [.int (1 + (i : Nat) - 1), .int 0, .int d1, .int (if 1 + (i : Nat) - 1 - d2 > 0 then 1 + (i : Nat) - 1 - d2 else 0)]) l = some (.lst (hs.map V.str)) := by rw [upd_ne hll]; exact hl3
      have hf3' : upd H3 la (.lst [.int (1 + (i : Nat) - 1), .int 0, .int d1, .int (if 1 + (i : Nat) - 1 - d2 > 0 then 1 + (i : Nat) - 1 - d2 else 0)]) fo = some (.lst (refsL qs)) := by rw [upd_ne hfl]; exact hf3
      have hK4 : Kp p c H (upd H3 la (.lst [.int (1 + (i : Nat) - 1), .int 0, .int d1, .int (if 1 + (i : Nat) - 1 - d2 > 0 then 1 + (i : Nat) - 1 - d2 else 0)])) := hK23.new hla
      have hS4 : StrAt (upd H3 la (.lst [.int (1 + (i : Nat) - 1), .int 0, .int d1, .int (if 1 + (i : Nat) - 1 - d2 > 0 then 1 + (i : Nat) - 1 - d2 else 0)])) p c (n + 1 + 3 * i + 1 + 1) := hS3.new hla
      have hP4 : PrsAt (upd H3 la (.lst [.int (1 + (i : Nat) - 1), .int 0, .int d1, .int (if 1 + (i : Nat) - 1 - d2 > 0 then 1 + (i : Nat) - 1 - d2 else 0)])) qs := fun t ht => by
        obtain ⟨n1, n2⟩ := e2.nep e7 t ht
        have := hK3 _ _ (hK2 _ _ (e2 t ht) n1 n2) n1 n2
        rw [upd_ne (ne_of_none this hla)]
        exact this
      dsimp only [List.set, gName]
      generalize upd H3 la (.lst [.int (1 + (i : Nat) - 1), .int 0, .int d1, .int (if 1 + (i : Nat) - 1 - d2 > 0 then 1 + (i : Nat) - 1 - d2 else 0)]) = H4 at hl3' hf3' hK4 hS4 hP4
      have hat1 : at_ < hs.length := by omega
      obtain ⟨a, ha⟩ := getD_of hat1
      obtain ⟨b, hb⟩ := getD_of hi'
      have haV : (hs.map V.str)[at_]? = some (.str a) := by rw [List.getElem?_map, ha]; rfl
      have hbV : (hs.map V.str)[i + 1]? = some (.str b) := by rw [List.getElem?_map, hb]; rfl
      refine ⟨_, rfl, _, rfl, l, _, ((at_ : Nat) : Int), _, rfl, rfl, SqL.of hl3', atI_nat haV, _, rfl, _, rfl, l, _, 1 + (i : Nat), _, rfl, rfl, SqL.of hl3', by rw [ek]; exact atI_nat hbV, by show 2 ≤ sizeLine; decide, fun T hT => ?_⟩
      have hfT : fo ≠ T := ne_of_none hf3' hT
      have hK5 : Kp p c H (upd H4 T (.tup [.str a, .str b])) := hK4.new hT
      have hTH : H T = none := hK4.fresh hS4 hT
      have hP5 : PrsAt (upd H4 T (.tup [.str a, .str b])) qs := fun t ht => by
        rw [upd_ne (ne_of_none (hP4 t ht) hT)]
        exact hP4 t ht
      have hf5 : upd H4 T (.tup [.str a, .str b]) fo = some (.lst (refsL qs)) := by rw [upd_ne hfT]; exact hf3'
      have hS5 : StrAt (upd H4 T (.tup [.str a, .str b])) p c (n + 1 + 3 * i + 1 + 1) := hS4.new hT
      obtain ⟨nTp, nTc⟩ := hS4.ne hT
      have hT5 : upd H4 T (.tup [.str a, .str b]) T = some (.tup [.str a, .str b]) := upd_same
      generalize upd H4 T (.tup [.str a, .str b]) = H5 at hK5 hP5 hf5 hS5 hT5
      -- the tree with one leaf more
      have hta : a ∈ hs.take (i + 1) := by
        refine List.mem_of_getElem? (i := at_) ?_
        rw [List.getElem?_take_of_lt (by omega)]
        exact ha
      have htk : hs.take (i + 1 + 1) = hs.take (i + 1) ++ [b] := by
        rw [List.take_add_one, hb]
        rfl
      have htb : b ∉ hs.take (i + 1) := fun z => by
        obtain ⟨j', hj'⟩ := List.mem_iff_getElem?.mp z
        have lt : j' < i + 1 := by
          have := (List.getElem?_eq_some_iff.mp hj').1
          rw [List.length_take] at this
          omega
        rw [List.getElem?_take_of_lt lt] at hj'
        have := (List.getElem?_inj (by omega) hnd).mp (hj'.trans hb.symm)
        omega
      refine ⟨_, rfl, .inl ⟨rfl, _, SqL.of hf5⟩, _, rfl, p, c, n + 1 + 3 * i + 1 + 1, 2, rfl, hS5, by omega, by decide, by decide, fun d3 H6 a3 b3 hK6 hS6 => ?_⟩
      have hf6 : H6 fo = some (.lst (refsL qs)) := hK6 _ _ hf5 nfp nfc
      have hT6 : H6 T = some (.tup [.str a, .str b]) := hK6 _ _ hT5 nTp nTc
      have hP6 : PrsAt H6 qs := hP5.kp (H0 := H) hK6 (hP5.nep hS5)
      have h12' : (refsL qs).length < sizeLine := by
        unfold refsL
        rw [List.length_map, e4]
        exact Nat.lt_of_lt_of_le (show i < 12 by omega) (by decide)
      refine ⟨rfl, _, rfl, ite2 (fun hz => ?_) (fun hz => ?_)⟩
      · refine ⟨_, rfl, fo, _, _, rfl, rfl, hf6, h12', ?_⟩
        refine ⟨_, _, _, qs ++ [(T, a, b)], rfl, by unfold refsL; rw [List.map_append]; exact upd_same, fun t ht => ?_, fun t ht => ?_, by simp [e4], ?_, ((hK5.trans hK6).mut hfoH), ?_⟩
        · rcases List.mem_append.mp ht with ht | ht
          · rw [upd_ne (fun z => by have := hP6 t ht; rw [z, hf6] at this; cases this)]
            exact hP6 t ht
          · simp only [List.mem_singleton] at ht
            subst ht
            rw [upd_ne hfT.symm]
            exact hT6
        · rcases List.mem_append.mp ht with ht | ht
          · exact e3 t ht
          · simp only [List.mem_singleton] at ht
            subst ht
            exact hTH
        · rw [List.map_append, htk]
          exact e5.leaf hta htb (.inl rfl)
        · exact (hS6.upd nfp nfc).mono (by omega)
      · refine ⟨_, rfl, T, .str a, .str b, rfl, SqT.of hT6, fun U hU => ?_⟩
        have hfU : fo ≠ U := ne_of_none hf6 hU
        refine ⟨fo, _, _, rfl, rfl, by rw [upd_ne hfU]; exact hf6, h12', ?_⟩
        refine ⟨_, _, _, qs ++ [(U, b, a)], rfl, by unfold refsL; rw [List.map_append]; exact upd_same, fun t ht => ?_, fun t ht => ?_, by simp [e4], ?_, (((hK5.trans hK6).new hU).mut hfoH), ?_⟩
        · rcases List.mem_append.mp ht with ht | ht
          · rw [upd_ne (fun z => by have := hP6 t ht; rw [z, hf6] at this; cases this), upd_ne (ne_of_none (hP6 t ht) hU)]
            exact hP6 t ht
          · simp only [List.mem_singleton] at ht
            subst ht
            rw [upd_ne hfU.symm]
            exact upd_same
        · rcases List.mem_append.mp ht with ht | ht
          · exact e3 t ht
          · simp only [List.mem_singleton] at ht
            subst ht
            exact (hK5.trans hK6).fresh hS6 hU
        · rw [List.map_append, htk]
          exact e5.leaf hta htb (.inr rfl)
        · exact ((hS6.new hU).upd nfp nfc).mono (by omega)
    · obtain ⟨v4, v5, v6, qs, rfl, e1, e2, e3, e4, e5, e6, e7⟩ := hp
      have en : (((hs.length : Nat) : Int) - 1).toNat + 1 = hs.length := by omega
      have en2 : qs.length + 1 = hs.length := by rw [e4]; exact en
      rw [en, List.take_length] at e5
      refine ⟨_, rfl, _, rfl, p, c, fo, n + 1 + 3 * (((hs.length : Nat) : Int) - 1).toNat, refsL qs, rfl, e7, ?_, .inl (SqL.of e1), ?_, fun q ys H' hq hq' hp hK hS' => ?_⟩
      · unfold refsL
        rw [List.length_map]
        omega
      · unfold refsL
        rw [List.length_map]
        omega
      · obtain ⟨zs, hz, rfl⟩ := snd_refs hp
        have hP := e2.kp (H0 := H) hK (e2.nep e7)
        refine k q zs H' (e6.fresh e7 hq) hq' (fun t ht => hP t (hz.mem_iff.mp ht)) (fun t ht => e3 t (hz.mem_iff.mp ht)) (e5.perm (List.Perm.refl _) (hz.map _)) (by rw [hz.length_eq]; exact en2) (e6.trans hK) (hS'.mono ?_)
        unfold refsL
        rw [List.length_map]
        omega
end
end K11

namespace K11
open PySem PySem.Spec PyProof.Rows L2
/-! ### plain things and their kinds -/
inductive Pl (H : Hp) : V → String → Prop
  | non : Pl H .non "NoneType"
  | bl (b : Bool) : Pl H (.bl b) "bool"
  | int (i : Int) : Pl H (.int i) "int"
  | str (z : Str) : Pl H (.str z) "str"
  | lst {a : Addr} {xs : List V} (h : H a = some (.lst xs)) : Pl H (.ref a) "list"
  | tup {a : Addr} {xs : List V} (h : H a = some (.tup xs)) : Pl H (.ref a) "tuple"
  | frt {a : Addr} {xs : List V} {o : Obj} (h : H a = some (.frz o (.tup xs))) : Pl H (.ref a) "tuple"
  | dic {a : Addr} {kvs : List (Key × V)} (h : H a = some (.dK kvs)) : Pl H (.ref a) "dict"
  | dct {a : Addr} {kvs : List (List Key × V)} (h : H a = some (.dT kvs)) : Pl H (.ref a) "dict"
theorem Pl.ext {H H' : Hp} {x : V} {n : String} (h : Pl H x n) (e : Evl.Ex H H') : Pl H' x n := by
  cases h with
  | non => exact .non
  | bl b => exact .bl b
  | int i => exact .int i
  | str z => exact .str z
  | lst h => exact .lst (e _ _ h)
  | tup h => exact .tup (e _ _ h)
  | frt h => exact .frt (e _ _ h)
  | dic h => exact .dic (e _ _ h)
  | dct h => exact .dct (e _ _ h)
theorem Pl.kp {H H' : Hp} {p c : Addr} {m : Nat} {x : V} {n : String} (h : Pl H x n) (hp : x ≠ .ref p) (hc : x ≠ .ref c) (e : Kp p c H H') : Pl H' x n := by
  have key : ∀ {a : Addr} {o : HO}, x = .ref a → H a = some o → H' a = some o := fun {a o} hx h => e _ _ h (fun z => hp (by rw [hx, z])) (fun z => hc (by rw [hx, z]))
  cases h with
  | non => exact .non
  | bl b => exact .bl b
  | int i => exact .int i
  | str z => exact .str z
  | lst h => exact .lst (key rfl h)
  | tup h => exact .tup (key rfl h)
  | frt h => exact .frt (key rfl h)
  | dic h => exact .dic (key rfl h)
  | dct h => exact .dct (key rfl h)
theorem rdEx {H H' : Hp} {a : Addr} {u : HO} (e : Evl.Ex H H') (h : Rd H a u) : Rd H' a u := h.imp (fun z => e _ _ z) (fun ⟨o, z⟩ => ⟨o, e _ _ z⟩)
theorem Pl.rdt {H : Hp} {a : Addr} {xs : List V} (h : Rd H a (.tup xs)) : Pl H (.ref a) "tuple" := by
  rcases h with h | ⟨o, h⟩
  · exact .tup h
  · exact .frt h
def isB (n t : String) : Bool := n == t || (n == "bool" && t == "int")
def kinds : List String := ["NoneType", "bool", "int", "str", "list", "tuple", "dict"]
theorem kit_tab : ∀ n ∈ kinds, ∀ t ∈ ["int", "bool", "list", "tuple", "dict", "str"], kitB n t = some (isB n t) := by decide +kernel
theorem Pl.mem {H : Hp} {x : V} {n : String} (h : Pl H x n) : n ∈ kinds := by cases h <;> decide
theorem Pl.ty {K : PySem.W.Frag} {H : Hp} {x : V} {n : String} (h : Pl H x n) : TyX K H x (.type n) := by
  cases h with
  | non => exact .base .non
  | bl b => exact .base (.bl b)
  | int i => exact .base (.int i)
  | str z => exact .base (.str z)
  | lst h => exact .base (.lst h)
  | tup h => exact .base (.tup h)
  | frt h => exact .fTuple h
  | dic h => exact .base (.dK h)
  | dct h => exact .base (.dT h)
theorem Pl.one {K : PySem.W.Frag} {H : Hp} {x : V} {n : String} (h : Pl H x n) (t : String) (ht : t ∈ ["int", "bool", "list", "tuple", "dict", "str"] := by decide) : PySem.W.kitOne K (.type n) (.type t) = some (isB n t) := kit_ty (kit_tab n h.mem t ht)
def isBs (n : String) (ts : List String) : Bool := ts.any fun t => isB n t
theorem cls_tys : ∀ ts : List String, Paired ClsV (ts.map V.ty) (ts.map Value.type)
  | [] => .nil
  | t :: r => .cons (.ty t) (cls_tys r)
theorem Pl.any {K : PySem.W.Frag} {H : Hp} {x : V} {n : String} (h : Pl H x n) : ∀ ts : List String, (∀ t ∈ ts, t ∈ ["int", "bool", "list", "tuple", "dict", "str"]) → PySem.W.kitAny K (.type n) (ts.map Value.type) = some (isBs n ts)
  | [], _ => kitAny_nil
  | t :: r, ht => by
    have e2 := Pl.any (K := K) h r fun z hz => ht z (List.mem_cons_of_mem _ hz)
    unfold isBs at e2 ⊢
    refine kitAny_cons (h.one (K := K) t (ht t List.mem_cons_self)) (fun z => ?_) fun z => ?_
    · rw [e2, List.any_cons, z, Bool.false_or]
    · rw [List.any_cons, z, Bool.true_or]
/-! ### is_integer, is_number, is_listed -/
abbrev sIsLst : Stmt := top 16
def numV : V → Bool
  | .int i => decide (0 ≤ i)
  | _ => false
def intV : V → Bool
  | .int _ => true
  | _ => false
theorem int_kind {H : Hp} {x : V} {n : String} (h : Pl H x n) : (isB n "int" && !isB n "bool") = intV x := by cases h <;> rfl
def spIsInt : Sp := fun vs H Q _ => ∃ (x : V) (n : String), vs = [x] ∧ Pl H x n ∧ Q (.bl (intV x)) H
def spIsNum : Sp := fun vs H Q _ => ∃ (x : V) (n : String), vs = [x] ∧ Pl H x n ∧ Q (.bl (numV x)) H
def lstB (n : String) : Bool := isBs n ["list", "tuple"]
def spIsLst : Sp := fun vs H Q _ => ∃ (x : V) (n : String), vs = [x] ∧ Pl H x n ∧ ∀ H', Evl.Ex H H' → Q (.bl (lstB n)) H'
section
variable {P : Program} {w : World} {K : PySem.W.Frag} {mg : Str → Option Value} {base : Heap}
theorem scIsLst : FnScope ["thing"] ["thing"] (defScope sIsLst) := ⟨rfl, rfl, rfl, by decide +kernel, rfl, by decide +kernel, by decide +kernel⟩
theorem ok_isLst {f : Addr} {fd : FuncData} (F : FnP K "is_listed" sIsLst f fd) (gL : mg "list" = none) (gT : mg "tuple" = none) (gS : mg "isinstance" = none) : FnOk P w K mg base CX0 1 f fd ["thing"] spIsLst := by
  refine F.ok scIsLst (fun vs H Q E h => ?_) (fun cdv A outer s H vs Q E hr h => ?_)
  · obtain ⟨x, n, rfl, _⟩ := h
    rfl
  · obtain ⟨x, n, rfl, hx, k⟩ := h
    refine ⟨_, PSs.nox (pss_one (ps_ret (pe_callB call_isiT rfl gS (by decide +kernel) (pa_cons (pv 0) (pa_cons (pe_tup (pa_cons (pe_bltn (v := .ty "list") rfl gL (by decide +kernel) rfl) (pa_cons (pe_bltn (v := .ty "tuple") rfl gT (by decide +kernel) rfl) pa_nil))) pa_nil))))), ?_⟩
    refine ⟨_, rfl, by show 2 ≤ sizeLine; decide, fun t ht => ?_⟩
    exact ⟨_, _, _, _, _, _, rfl, upd_same, cls_tys ["list", "tuple"], (hx.ext (Evl.Ex.new ht)).ty, hx.any ["list", "tuple"] (by decide), k _ (Evl.Ex.new ht)⟩
end
end K11

namespace K11
open PySem PySem.Spec PyProof.Rows L2 Tr
/-! ### is_name, is_pair, path_between -/
def small : Str := "abcdefghijklmnopqrstuvwxyz"
def figs : Str := "0123456789"
theorem good_len : ∀ z ∈ names12, 1 ≤ z.length ∧ z.length ≤ 12 := by decide +kernel
theorem good_first : ∀ z ∈ names12, ∃ c ∈ small.cps.toList, z.cps[0]? = some c := by decide +kernel
theorem good_all : ∀ z ∈ names12, ∀ c ∈ z.cps.toList, c ∈ small.cps.toList ∨ c ∈ figs.cps.toList := by decide +kernel
abbrev rInSg : R2 := fun x y H Q => ∃ (c : Nat) (z : Str), x = .str ⟨#[c]⟩ ∧ y = .str z ∧ Q (.bl (decide (c ∈ z.cps.toList))) H
abbrev sIsName : Stmt := top 13
def spIsName : Sp := fun vs H Q _ => ∃ z : Str, vs = [.str z] ∧ z ∈ names12 ∧ ∀ H', Evl.Ex H H' → Q (.bl true) H'
section
variable {P : Program} {w : World} {K : PySem.W.Frag} {mg : Str → Option Value} {base : Heap}
theorem scIsName : FnScope ["thing", "sign"] ["thing"] (defScope sIsName) := ⟨rfl, rfl, rfl, by decide +kernel, rfl, by decide +kernel, by decide +kernel⟩
theorem ok_isName {f : Addr} {fd : FuncData} (F : FnP K "is_name" sIsName f fd) (gS : mg "isinstance" = none) (gT : mg "str" = none) (gL : mg "len" = none) (gA : mg "all" = none)
    (gN : ∃ t, mg "LONGEST_NAME" = some (.int 12 t)) (gM : ∃ t, mg "SMALL_LETTERS" = some (.str small t)) (gF : ∃ t, mg "FIGURES" = some (.str figs t)) : FnOk P w K mg base CX0 1 f fd ["thing"] spIsName := by
  obtain ⟨t1, gN⟩ := gN
  obtain ⟨t2, gM⟩ := gM
  obtain ⟨t3, gF⟩ := gF
  refine F.ok scIsName (fun vs H Q E h => ?_) (fun cdv A outer s H vs Q E hr h => ?_)
  · obtain ⟨z, rfl, _⟩ := h
    rfl
  · obtain ⟨z, rfl, hz, k⟩ := h
    obtain ⟨l1, l2⟩ := good_len z hz
    obtain ⟨c0, hc0, hf0⟩ := good_first z hz
    refine' ⟨_, PSs.nox (pss_cons (ps_if (PW.pt (pw_or (pt_not (pt_val (pe_callB call_isi rfl gS (by decide +kernel) (pa_cons (pv 0) (pa_cons (pe_bltn (v := .ty "str") rfl gT (by decide +kernel) rfl) pa_nil)))))
        (pw_or1 (pt_not (pt_chain op_le op_le pe_int (pe_callB call_len_str (by rfl) gL PySem.boot_len (pa_cons (pv 0) pa_nil)) (pe_glob rfl gN (v := .int 12) ⟨_, rfl⟩)))))) pss_never pss_nil)
      (pss_cons (ps_if (pt_cmpR op_notIn_sign (pe_item_str (pv 0) pe_int (fun _ _ => rfl)) (pe_glob rfl gM (v := .str small) ⟨_, rfl⟩) rfl) pss_never pss_nil)
      (pss_one (ps_ret (pe_callB (cr_all rfl) (by rfl) gA (by decide +kernel) (pa_cons ?lc pa_nil)))))), ?rd⟩
    case lc =>
      refine pe_lc (own := [("sign", 1)]) (g := gName 1) (tt := tYes) (te := tOrV (tOp rInSg (tVar 1) (tC (.str small))) (tOp rInSg (tVar 1) (tC (.str figs)))) rfl scIsName.nd (pi_str (pv 0))
        (blkOk_by (own := [("sign", 1)]) (N := ["thing", "sign"]) (sc := defScope sIsName) (by decide +kernel)) (fun _ _ _ _ _ => pg_name (i := 1) scIsName.nd rfl (.inl rfl)) (fun _ _ _ _ _ => pts_nil) ?_
      intro _ _ _ _ _
      exact pe_or (pe_cmpR op_in_sign (pv 1) (pe_glob rfl gM (v := .str small) ⟨_, rfl⟩) rfl) (pe_one (pe_cmpR op_in_sign (pv 1) (pe_glob rfl gF (v := .str figs) ⟨_, rfl⟩) rfl))
    refine ⟨_, rfl, _, _, _, _, _, rfl, .ty _, (Pl.str z : Pl H (.str z) "str").ty, (Pl.str z : Pl H (.str z) "str").one "str", _, rfl, ?_⟩
    refine ite2 (fun q => absurd q (by decide)) (fun _ => ?_)
    refine ⟨_, rfl, z, rfl, Nat.le_trans l2 (by decide), _, _, rfl, rfl, _, rfl, ?_⟩
    have e1 : decide ((1 : Int) ≤ (z.length : Nat)) = true := decide_eq_true (by omega)
    refine ite2 (fun _ => ?_) (fun q => absurd e1 q)
    refine ⟨_, _, rfl, rfl, _, rfl, ?_⟩
    have e2 : decide (((z.length : Nat) : Int) ≤ 12) = true := decide_eq_true (by omega)
    rw [e2]
    refine iteF ?_
    have hlen : (0 : Int) < (z.length : Nat) := by omega
    refine ⟨_, rfl, z, 0, c0, rfl, rfl, Int.le_refl _, by decide, hlen, hf0, c0, small, rfl, rfl, _, rfl, ?_⟩
    rw [decide_eq_true hc0]
    refine iteF ?_
    refine ⟨_, rfl, z, rfl, fun D hD => ?_⟩
    refine lc_it walk_str (fun i H' => Evl.Ex H H' ∧ ∃ bs : List Bool, H' D = some (.lst (bs.map V.bl)) ∧ bs.all id = true ∧ bs.length = i) ⟨Evl.Ex.new hD, [], upd_same, rfl, rfl⟩ (fun _ _ _ _ => trivial) (fun i x H1 H2 hi hp hy => ?_) (fun H1 hp => ?_)
    · obtain ⟨e3, bs, e4, e5, e6⟩ := hp
      obtain ⟨rfl, c, hc, rfl⟩ := hy
      have hm : c ∈ z.cps.toList := List.mem_of_getElem? (by simpa using hc)
      have hsz : bs.length < sizeLine := by
        have : z.cps.size ≤ 12 := l2
        rw [e6]
        exact Nat.lt_of_lt_of_le (show i < 12 by omega) (by decide)
      have fin : ∀ b, b = true → ∃ acc, H2 D = some (.lst acc) ∧ acc.length < sizeLine ∧ Evl.Ex H (upd H2 D (.lst (acc ++ [.bl b]))) ∧ ∃ bs : List Bool, upd H2 D (.lst (acc ++ [.bl b])) D = some (.lst (bs.map V.bl)) ∧ bs.all id = true ∧ bs.length = i + 1 := fun b hb =>
        ⟨_, e4, by rw [List.length_map]; exact hsz, fun a o e => by rw [upd_ne (fun q => by rw [q, hD] at e; cases e)]; exact e3 _ _ e, bs ++ [b], by rw [upd_same, List.map_append]; rfl, by rw [List.all_append, e5, hb]; rfl, by rw [List.length_append, e6]; rfl⟩
      refine ⟨rfl, _, rfl, c, small, rfl, rfl, _, rfl, ite2 (fun _ => fin true rfl) (fun q => ⟨_, rfl, c, figs, rfl, rfl, fin _ ?_⟩)⟩
      rcases good_all z hz c hm with q2 | q2
      · exact absurd (decide_eq_true q2) q
      · exact decide_eq_true q2
    · obtain ⟨e3, bs, e4, e5, e6⟩ := hp
      refine ⟨D, bs, rfl, SqL.of e4, ?_⟩
      rw [e5]
      exact k _ e3
end
end K11

/-! dicts whose keys are texts, told by a list of keys and a function; a dict comprehension over anything that is walked. Law-independent. -/
namespace Dk
open PySem PySem.Spec PyProof.Rows L2
def tab (hs : List Str) (g : Str → V) : List (Key × V) := hs.map fun h => (Sum.inr h, g h)
theorem tab_length (hs : List Str) (g : Str → V) : (tab hs g).length = hs.length := List.length_map _
theorem tab_congr {hs : List Str} {g g' : Str → V} (h : ∀ x ∈ hs, g x = g' x) : tab hs g = tab hs g' := List.map_congr_left fun x hx => by rw [h x hx]
theorem find_tab {x : Str} {g : Str → V} : ∀ (hs : List Str), (tab hs g).find? (fun kv => decide (kv.1 = Sum.inr x)) = if x ∈ hs then some (Sum.inr x, g x) else none
  | [] => by simp [tab]
  | h :: r => by
    have ih := find_tab (x := x) (g := g) r
    unfold tab at ih ⊢
    rw [List.map_cons, List.find?_cons]
    by_cases e : h = x
    · subst e
      simp
    · have e2 : decide ((Sum.inr h : Key) = Sum.inr x) = false := decide_eq_false (fun z => e (Sum.inr.inj z))
      simp only [e2]
      rw [ih]
      have e3 : ¬ x = h := fun z => e z.symm
      simp [e3]
theorem val_tab (hs : List Str) (g : Str → V) (x : Str) : valV (tab hs g) (Sum.inr x) = if x ∈ hs then some (g x) else none := by
  unfold valV
  rw [find_tab]
  split <;> rfl
theorem val_in {hs : List Str} {g : Str → V} {x : Str} (h : x ∈ hs) : valV (tab hs g) (Sum.inr x) = some (g x) := by rw [val_tab, if_pos h]
theorem val_out {hs : List Str} {g : Str → V} {x : Str} (h : x ∉ hs) : valV (tab hs g) (Sum.inr x) = none := by rw [val_tab, if_neg h]
theorem any_tab {hs : List Str} {g : Str → V} {x : Str} : ((tab hs g).any fun kv => decide (kv.1 = Sum.inr x)) = decide (x ∈ hs) := by
  induction hs with
  | nil => rfl
  | cons h r ih =>
    show (decide ((Sum.inr h : Key) = Sum.inr x) || (tab r g).any _) = _
    rw [ih]
    by_cases e : h = x
    · subst e; simp
    · have e3 : ¬ x = h := fun z => e z.symm
      have e2 : decide ((Sum.inr h : Key) = Sum.inr x) = false := decide_eq_false (fun z => e (Sum.inr.inj z))
      rw [e2]
      simp [e3]
theorem put_new {hs : List Str} {g : Str → V} {x : Str} {v : V} (h : x ∉ hs) : putK (tab hs g) (Sum.inr x) v = tab (hs ++ [x]) (fun y => if y = x then v else g y) := by
  unfold putK
  rw [any_tab, if_neg (by simpa using h)]
  unfold tab
  rw [List.map_append]
  congr 1
  · exact List.map_congr_left fun y hy => by
      show (Sum.inr y, g y) = (Sum.inr y, if y = x then v else g y)
      rw [if_neg (fun z : y = x => h (by rw [← z]; exact hy))]
  · simp
theorem put_old {hs : List Str} {g : Str → V} {x : Str} {v : V} (h : x ∈ hs) : putK (tab hs g) (Sum.inr x) v = tab hs (fun y => if y = x then v else g y) := by
  unfold putK
  rw [any_tab, if_pos (by simpa using h)]
  unfold tab
  rw [List.map_map]
  refine List.map_congr_left fun y hy => ?_
  show (if (Sum.inr y : Key) = Sum.inr x then ((Sum.inr y : Key), v) else (Sum.inr y, g y)) = _
  by_cases e : y = x
  · subst e; simp
  · rw [if_neg (fun z => e (Sum.inr.inj z))]
    show (Sum.inr y, g y) = (Sum.inr y, if y = x then v else g y)
    rw [if_neg e]
/-- a dict comprehension over what is walked -/
theorem dc_it {J : It} {n : Nat} {G : Hp → Prop} {Y : Nat → Hp → V → Hp → Prop} (w : Walk J n G Y) {g : TG} {tt : TT} {tk tv : TE} {vs : List Nat} {σ : L2.St} {H1 : Hp} {D : Addr} {Qd : Hp → Prop} (Pv : Nat → Hp → Prop) (h0 : Pv 0 (upd H1 D (.dK []))) (hG : ∀ i H, i ≤ n → Pv i H → G H)
    (hs : ∀ i x H H', i < n → Pv i H → Y i H x H' → g x (wipe σ vs) H' fun σ2 H2 => wipe σ2 vs = wipe σ vs ∧ tt σ2 H2 fun b H3 =>
      if b = true then tk σ2 H3 fun y H4 => tv σ2 H4 fun z H5 => ∃ kvs k, y = kV k ∧ H5 D = some (.dK kvs) ∧ kvs.length < sizeLine ∧ Pv (i + 1) (upd H5 D (.dK (putK kvs k z))) else Pv (i + 1) H3) (hd : ∀ H, Pv n H → Qd H) :
    ∃ W : Nat → Nat → Hp → Prop, (∃ m, W 0 m (upd H1 D (.dK []))) ∧ ∀ i m H, W i m H →
      (J.stop i H ∧ Qd H) ∨ (J.go i H ∧ ∃ Nx : Hp → Prop, (∀ H', Nx H' → ∃ m', m' < m ∧ W (i + 1) m' H') ∧ ∀ x H', J.yld i H x H' → g x (wipe σ vs) H' fun σ2 H2 => wipe σ2 vs = wipe σ vs ∧ tt σ2 H2 fun b H3 =>
        if b = true then tk σ2 H3 fun y H4 => tv σ2 H4 fun z H5 => ∃ kvs k, y = kV k ∧ H5 D = some (.dK kvs) ∧ kvs.length < sizeLine ∧ Nx (upd H5 D (.dK (putK kvs k z))) else Nx H3) := by
  refine ⟨fun i m H => m = n - i ∧ i ≤ n ∧ Pv i H, ⟨n, by simp, Nat.zero_le _, h0⟩, ?_⟩
  rintro i m H ⟨rfl, hi, p⟩
  have q := hG i H hi p
  by_cases hlt : i < n
  · exact .inr ⟨w.goes i H hlt q, Pv (i + 1), fun H' p' => ⟨n - (i + 1), by omega, rfl, hlt, p'⟩, fun x H' y => hs i x H H' hlt p (w.yields i H x H' hlt q y)⟩
  · have e : i = n := by omega
    subst e
    exact .inl ⟨w.stops H q, hd H p⟩
/-- a loop within a comprehension, whatever its turn is -/
theorem out_it {J : It} {n : Nat} {G : Hp → Prop} {Y : Nat → Hp → V → Hp → Prop} (w : Walk J n G Y) {H0 : Hp} {B : (Hp → Prop) → V → Hp → Prop} {Qd : Hp → Prop} (Pv : Nat → Hp → Prop) (h0 : Pv 0 H0) (hG : ∀ i H, i ≤ n → Pv i H → G H)
    (hs : ∀ i x H H', i < n → Pv i H → Y i H x H' → B (Pv (i + 1)) x H') (hd : ∀ H, Pv n H → Qd H) :
    ∃ W : Nat → Nat → Hp → Prop, (∃ m, W 0 m H0) ∧ ∀ i m H, W i m H → (J.stop i H ∧ Qd H) ∨ (J.go i H ∧ ∃ Nx : Hp → Prop, (∀ H', Nx H' → ∃ m', m' < m ∧ W (i + 1) m' H') ∧ ∀ x H', J.yld i H x H' → B Nx x H') := by
  refine ⟨fun i m H => m = n - i ∧ i ≤ n ∧ Pv i H, ⟨n, by simp, Nat.zero_le _, h0⟩, ?_⟩
  rintro i m H ⟨rfl, hi, p⟩
  have q := hG i H hi p
  by_cases hlt : i < n
  · exact .inr ⟨w.goes i H hlt q, Pv (i + 1), fun H' p' => ⟨n - (i + 1), by omega, rfl, hlt, p'⟩, fun x H' y => hs i x H H' hlt p (w.yields i H x H' hlt q y)⟩
  · have e : i = n := by omega
    subst e
    exact .inl ⟨w.stops H q, hd H p⟩
end Dk
namespace L2
open PySem PySem.Spec PyProof.Rows
section
variable {X : Cx}
/-- y = {k: v for ..}, y a plain local name -/
theorem ps_setDc {i : Nat} {y : Str} {py : Pos} {kx vx tg iter : Expr} {ifs : List Expr} {scope : Scope} {own : List (Str × Nat)} {pos spos : Pos} {wi : TI} {g : TG} {tt : TT} {tk tv : TE} (hc : X.calm = true) (hN : X.N.Nodup) (hy : X.N[i]? = some y) (hyl : X.env.scope.names.lookup y = some .local)
    (hsw : swapsWith (.DictComp kx vx [⟨tg, iter, ifs, 0⟩] scope pos) (some (.Name y py)) spos.line X.env = pure true) (hi : PI X tg iter wi) (ok : BlkOk X.N X.env.scope scope own)
    (hg : ∀ (s : Shared) (H : Hp) (C : Addr) (cl : List (Str × Addr)) (fp : List Addr), PG (X.blk s H scope (compEnvC scope cl C X.env) fp) tg g) (ht : ∀ (s : Shared) (H : Hp) (C : Addr) (cl : List (Str × Addr)) (fp : List Addr), PTs (X.blk s H scope (compEnvC scope cl C X.env) fp) ifs tt)
    (hk : ∀ (s : Shared) (H : Hp) (C : Addr) (cl : List (Str × Addr)) (fp : List Addr), PE (X.blk s H scope (compEnvC scope cl C X.env) fp) kx tk)
    (he : ∀ (s : Shared) (H : Hp) (C : Addr) (cl : List (Str × Addr)) (fp : List Addr), PE (X.blk s H scope (compEnvC scope cl C X.env) fp) vx tv) (hs : ∀ x, foldedSetIterable iter X.env x = pure x := by intro _; rfl) :
    PS X (.Assign [.Name y py] (.DictComp kx vx [⟨tg, iter, ifs, 0⟩] scope pos) spos) (tAsg (tDc wi g tt tk tv (own.map (·.2))) (gName i)) := by
  refine ⟨fun pins s σ H D I h => ?_⟩
  rw [exec_Assign_Name_used _ _ _ _ hsw]
  refine wpAny_bind (wpAny_standAt (wpAny_bind ?_))
  have h : tDc wi g tt tk tv (own.map (·.2)) σ H (fun x H1 => gName i x σ H1 D.nx) := h
  show wpAny _ X.A (do let _ ← comprehension (.DictComp kx vx [⟨tg, iter, ifs, 0⟩] scope pos) scope X.env (firstIterPos [⟨tg, iter, ifs, 0⟩] pos) newDict false (eval iter X.env) (some (assign (.Name y py) X.env))) _ _ s
  refine wpAny_bind (thn (dc_core (Qf := fun _ s' => SP X pins D .next s') hc hN I hi ok hg ht hk he hs h fun L C s' m H1 J1 q hn fr => ?_) fun _ s' z => wpAny_pure (wpAny_pure z))
  refine wpAny_assign_Name (store_ok2 (v := V.ref L) J1 hN hy (.inl hyl) rfl (fun s2 J2 ⟨b, sb, hb⟩ => ?_) (.inr hyl))
  obtain ⟨k0, k1, k2, k3, k4, k5⟩ := fr
  have nC : C ≠ b := by
    rcases hb with z | z
    · rw [z]
      exact k1
    · intro e
      exact k4 y b z e.symm
  refine ⟨m, hn.sameBut sb nC, fun h3 s3 => ⟨_, H1, J2.turned (t' := s2.toks) (fun x o hx e => (s3.2 x hx).trans e) k0 k1 k3 k4 k5, q⟩⟩
theorem sw_trueD {kx vx : Expr} {gs : List Comprehension} {scope : Scope} {pos py : Pos} {y : Str} {l : Nat} {env : Env} (hk : env.scope.kind = .function) (hy : env.scope.names.lookup y = some .local) (hl : (py.line == pos.line) = true)
    (ha : (scope.names.any fun (n, k) => n == y && (k == .local || k == .cell)) = false) : swapsWith (.DictComp kx vx gs scope pos) (some (.Name y py)) l env = pure true := by
  have ky : env.kindOf y = some .local := hy
  have hb : env.blockKind = .function := by unfold Env.blockKind; rw [hk]; rfl
  unfold swapsWith
  simp only [hb, ky, ha, Expr.pos, hl]
  rfl
end
end L2

/-! sorted(..) of pairs of texts, any number of them; law-independent. -/
namespace Srs
open PySem PySem.Spec PyProof.Rows L2 SrtO
/-- one text before another -/
def ltT (x y : Str) : Bool := decide (x.cps.toList < y.cps.toList)
theorem str_ext {x y : Str} (h : x.cps.toList = y.cps.toList) : x = y := by
  obtain ⟨a⟩ := x
  obtain ⟨b⟩ := y
  exact congrArg PySem.Str.mk (Array.toList_inj.mp h)
theorem ltT_irr (x : Str) : ltT x x = false := decide_eq_false (List.lt_irrefl _)
theorem ltT_asym {x y : Str} (h : ltT x y = true) : ltT y x = false := decide_eq_false (List.lt_asymm (of_decide_eq_true h))
theorem ltT_tr {x y z : Str} (h : ltT x y = true) (k : ltT y z = true) : ltT x z = true := decide_eq_true (List.lt_trans (of_decide_eq_true h) (of_decide_eq_true k))
theorem ltT_tot {x y : Str} (h : ltT x y = false) (k : ltT y x = false) : x = y := by
  refine str_ext ?_
  have a : y.cps.toList ≤ x.cps.toList := List.not_lt.mp (of_decide_eq_false h)
  have b : x.cps.toList ≤ y.cps.toList := List.not_lt.mp (of_decide_eq_false k)
  exact List.le_antisymm b a
def lexT (p q : Str × Str) : Bool := if p.1 = q.1 then ltT p.2 q.2 else ltT p.1 q.1
theorem lexT_asym {p q : Str × Str} (h : lexT p q = true) : lexT q p = false := by
  unfold lexT at h ⊢
  by_cases e : p.1 = q.1
  · rw [if_pos e] at h
    rw [if_pos e.symm]
    exact ltT_asym h
  · rw [if_neg e] at h
    rw [if_neg (Ne.symm e)]
    exact ltT_asym h
theorem lexT_irr (p : Str × Str) : lexT p p = false := by
  unfold lexT
  rw [if_pos rfl]
  exact ltT_irr _
theorem lexT_tr {p q r : Str × Str} (h : lexT p q = true) (k : lexT q r = true) : lexT p r = true := by
  unfold lexT at h k ⊢
  by_cases e : p.1 = q.1 <;> by_cases e2 : q.1 = r.1
  · rw [if_pos e] at h; rw [if_pos e2] at k; rw [if_pos (e.trans e2)]; exact ltT_tr h k
  · rw [if_neg e2] at k; rw [if_neg (by rw [e]; exact e2), e]; exact k
  · rw [if_neg e] at h; rw [if_neg (by rw [← e2]; exact e), ← e2]; exact h
  · rw [if_neg e] at h; rw [if_neg e2] at k
    have := ltT_tr h k
    rw [if_neg (fun z => by rw [z, ltT_irr] at this; cases this)]
    exact this
theorem lexT_tot {p q : Str × Str} (h : lexT p q = false) (k : lexT q p = false) : p = q := by
  unfold lexT at h k
  by_cases e : p.1 = q.1
  · rw [if_pos e] at h; rw [if_pos e.symm] at k
    exact Prod.ext e (ltT_tot h k)
  · rw [if_neg e] at h; rw [if_neg (Ne.symm e)] at k
    exact absurd (ltT_tot h k) e
theorem swoT : Swo lexT := by
  refine ⟨fun x y h => lexT_asym h, fun x y z h1 h2 => ?_⟩
  cases h : lexT z x with
  | false => rfl
  | true =>
    exfalso
    cases h3 : lexT x y with
    | true =>
      have := lexT_tr h h3
      rw [this] at h2
      cases h2
    | false =>
      have := lexT_tot h3 h1
      subst this
      rw [h] at h2
      cases h2
theorem swo_k {α : Type} (k : α → Str × Str) : Swo fun v u => lexT (k v) (k u) := ⟨fun x y h => swoT.asym _ _ h, fun x y z h1 h2 => swoT.tr _ _ _ h1 h2⟩
def IsPr (h : Heap) (v : Value) (x y : Str) : Prop := ∃ a o t u n, v = .ref a ∧ h.get? a = some o ∧ o.cls = .type "tuple" ∧ o.data = .seq #[.str x t, .str y u] n
theorem IsPr.keeps {h h' : Heap} {v : Value} {x y : Str} (p : IsPr h v x y) (k : ∀ b o, h.get? b = some o → o.cls = .type "tuple" → h'.get? b = some o) : IsPr h' v x y := by
  obtain ⟨a, o, t, u, n, e, ho, hc, hd⟩ := p
  exact ⟨a, o, t, u, n, e, k _ _ ho hc, hc, hd⟩
theorem firsts {h : Heap} : ∀ {vs : List Value}, (∀ v ∈ vs, ∃ x y, IsPr h v x y) → ∃ fs : List Value, PySem.W.KatTups h vs fs ∧ fs.length = vs.length ∧ ∀ f ∈ fs, ∃ x t, f = Value.str x t
  | [], _ => ⟨[], PySem.W.KatTups.nil, rfl, fun _ hm => by simp at hm⟩
  | v :: vs, hp => by
    obtain ⟨fs, h1, h2, h3⟩ := firsts (vs := vs) fun v' hm => hp v' (List.mem_cons_of_mem _ hm)
    obtain ⟨x, y, a, o, t, u, n, e, ho, hc, hd⟩ := hp v (List.mem_cons_self ..)
    subst e
    refine ⟨.str x t :: fs, PySem.W.KatTups.cons ho hc hd rfl h1, by rw [List.length_cons, List.length_cons, h2], fun f hm => ?_⟩
    rcases List.mem_cons.mp hm with rfl | hm
    · exact ⟨x, t, rfl⟩
    · exact h3 f hm
section
variable {prog : Program} {w : World} {A : Around} {E : Value → Shared → Prop} {s : Shared}
theorem pr_cmp {vs : List Value} {k : Value → Str × Str} (hp : ∀ v ∈ vs, IsPr s.heap v (k v).1 (k v).2) : Cmp prog w A s (tuples' true) (fun p => p.1 ∈ vs) (lt2 fun v u => lexT (k v) (k u)) := by
  intro p q hm hm'
  have h1 := hp _ hm
  have h2 := hp _ hm'
  show wpAny (model prog w) A (keyLt' (tuples' true) p.1 q.1) (fun r s' => s' = s ∧ r = lexT (k p.1) (k q.1)) (fun _ _ => False) s
  unfold lexT
  generalize (k p.1).1 = x at h1 ⊢
  generalize (k p.1).2 = y at h1 ⊢
  generalize (k q.1).1 = x' at h2 ⊢
  generalize (k q.1).2 = y' at h2 ⊢
  obtain ⟨a, o, t, u, n, e, ho, hc, hd⟩ := h1
  obtain ⟨a', o', t', u', n', e', ho', hc', hd'⟩ := h2
  rw [e, e']
  refine PySem.W.kat_lt ho hd ho' hd' ?_
  show PySem.W.KatLex prog w A true (decide (2 < 2)) _ [(.str x t, .str x' t'), (.str y u, .str y' u')] 0 s
  refine PySem.W.kat_cons (wpAny_eqBool_str ?_)
  refine PySem.W.kat_go (fun e1 => ?_) (fun e1 => ?_)
  · have ex : x = x' := by simpa using e1
    refine PySem.W.kat_yes (PySem.W.kat_cons (wpAny_eqBool_str ?_))
    refine PySem.W.kat_go (fun e2 => ?_) (fun e2 => ?_)
    · have ey : y = y' := by simpa using e2
      have e3 : (if x = x' then ltT y y' else ltT x x') = false := by
        rw [if_pos ex, ey]
        exact ltT_irr _
      exact PySem.W.kat_yes (PySem.W.kat_nil ⟨rfl, e3.symm⟩)
    · have e3 : (if x = x' then ltT y y' else ltT x x') = ltT y y' := if_pos ex
      refine PySem.W.kat_no (PySem.W.kat_one _ _ (PyProof.Rows.lt_str ?_))
      exact (show s = s ∧ decide (y.cps.toList < y'.cps.toList) = (if x = x' then ltT y y' else ltT x x') from ⟨rfl, e3.symm⟩)
  · have ex : ¬ x = x' := by simpa using e1
    have e3 : (if x = x' then ltT y y' else ltT x x') = ltT x x' := if_neg ex
    exact PySem.W.kat_no (oneLt_str ⟨rfl, e3.symm⟩)
theorem prs_sortable {a : Addr} {vs : List Value} {k : Value → Str × Str} (h0 : 0 < vs.length) (hp : ∀ v ∈ vs, IsPr s.heap v (k v).1 (k v).2) (ha : ∀ o, s.heap.get? a = some o → o.cls ≠ .type "tuple") : SortableO prog w A s a vs fun v u => lexT (k v) (k u) := by
  intro h' keep
  have hp' : ∀ v ∈ vs, IsPr h' v (k v).1 (k v).2 := fun v hm => (hp v hm).keeps fun b o e c => keep b o (fun z => by subst z; exact ha o e c) e
  obtain ⟨fs, h1, h2, h3⟩ := firsts fun v hm => ⟨_, _, hp' v hm⟩
  refine ⟨tuples' true, fun Q E hq => ?_, pr_cmp hp'⟩
  refine PySem.W.kat_kind (T := .type "str") h1 (by omega) (fun f hm => ?_) (by rfl) ?_
  · obtain ⟨x, t, rfl⟩ := h3 f hm
    exact PySem.W.Looks.now
  · have e : (Value.type "str" != Value.type "tuple") = true := by first | decide +kernel | rfl | decide
    rw [e]
    exact hq
theorem sorted_prs {l : Addr} {vs : List Value} {k : Value → Str × Str} {Q : Value → Shared → Prop} (hl : s.heap.IsList l vs.toArray) (hz : vs.length ≤ sizeLine) (hp : ∀ v ∈ vs, IsPr s.heap v (k v).1 (k v).2)
    (h : ∀ (h' : Heap) (d : Addr) (out : List Value), Srtd (fun v u => lexT (k v) (k u)) out → Stb (fun v u => lexT (k v) (k u)) out vs → (∀ b o, s.heap.get? b = some o → h'.get? b = some o) → s.heap.objs.size ≤ d → (∃ n, h'.get? d = some (seqObj "list" out.toArray n)) → Q (.ref d) { s with heap := h' }) :
    wpAny (model prog w) A (call (.builtin "sorted") [.ref l]) Q E s := by
  refine sorted_ord (swo_k k) hl hz (fun h2 h₁ a ha kk => ?_) fun out hs hb => ?_
  · refine prs_sortable (s := { s with heap := h₁ }) (by omega) (fun v hm => (hp v hm).keeps fun b o e _ => (kk b o e).2) fun o e => ?_
    have e' : some o = some (seqObj "list" vs.toArray 0) := e.symm.trans ha
    cases e'
    intro c
    exact absurd (Value.type.inj c) (by decide)
  · exact h _ _ out hs hb (fun b o e => sortedAll_old e) (Nat.le_succ _) (sortedAll_at s.heap vs out.toArray)
end
/-- sorted(xs), xs a list of pairs of texts (k says which): a new list of the same, ascending -/
def rSortedPT (K : PySem.W.Frag) : List V → Hp → VK → Prop := fun vs H Q => ∃ (a : Addr) (xs : List V) (k : V → Str × Str), vs = [V.ref a] ∧ SqL K H a xs ∧ (∀ x ∈ xs, ∃ t, x = V.ref t ∧ H t = some (.tup [.str (k x).1, .str (k x).2])) ∧
  ∀ ys p, ys.Perm xs → Srtd (fun x y => lexT (k x) (k y)) ys → H p = none → Q (.ref p) (upd H p (.lst ys))
variable {X : Cx}
theorem cr_sortedPT : CallR X (.builtin "sorted") (rSortedPT X.K) := by
  intro pins s σ H vs us Q I r h
  obtain ⟨a, xs, k, rfl, hs, hx, q⟩ := h
  obtain ⟨its, rv, hl, hz⟩ := I.list hs
  obtain ⟨u, rfl, ru⟩ := vals1 r
  obtain rfl : u = Value.ref a := ru
  obtain ⟨e1, e2⟩ := refs_back rv fun x m => by
    obtain ⟨t, e, _⟩ := hx x m
    exact ⟨t, e⟩
  refine sorted_prs (k := fun u => k (backV u)) hl.isList (by rw [← rv.length]; exact hz) (fun v hv => ?_) fun h' d out h1 h2 kp hd hn => ?_
  · obtain ⟨t, rfl⟩ := e2 v hv
    have hm : V.ref t ∈ xs := by rw [e1]; exact List.mem_map.mpr ⟨_, hv, rfl⟩
    obtain ⟨t', e, ht⟩ := hx _ hm
    cases e
    obtain ⟨_, its2, r2, o, ho, hc, n, hd⟩ := I.hok _ _ ht
    obtain ⟨u1, u2, rfl, ri, rj⟩ := vals2 r2
    obtain ⟨t1, rfl⟩ := ri
    obtain ⟨t2, rfl⟩ := rj
    exact ⟨t, o, t1, t2, n, rfl, ho, hc, hd⟩
  · have h3 : ∀ u ∈ out, ∃ a, u = Value.ref a := fun u hu => e2 u (h2.perm.mem_iff.mp hu)
    obtain ⟨n, hn⟩ := hn
    have hb : Stb (fun x y => lexT (k x) (k y)) (out.map backV) xs := by
      rw [e1]
      exact Stb.map (swo_k k) backV h2
    refine ⟨.ref d, upd H d (.lst (out.map backV)), I.laid (t' := s.toks) kp hd ⟨?_, out, n, vals_back h3, hn⟩, rfl, q _ d hb.perm (srtd_map h1) (I.hok.fresh hd)⟩
    rw [hb.len]
    exact hz
end Srs

namespace K11
open PySem PySem.Spec PyProof.Rows L2 Tr Sq Dk
/-! ### check_houses, is_pair, path_between, joined_groups (of what is right) -/
abbrev sCheck : Stmt := top 22
def spCheck : Sp := fun vs H Q _ => ∃ (l : Addr) (hs : List Str), vs = [.ref l] ∧ H l = some (.lst (hs.map V.str)) ∧ hs ≠ [] ∧ hs.Nodup ∧ hs.length ≤ 1000 ∧ (∀ h ∈ hs, h ∈ names12) ∧ ∀ H', Evl.Ex H H' → Q .non H'
abbrev sIsPair : Stmt := top 17
def spIsPair : Sp := fun vs H Q _ => ∃ (t : Addr) (x y : V), vs = [.ref t] ∧ H t = some (.tup [x, y]) ∧ ∀ H', Evl.Ex H H' → Q (.bl true) H'
abbrev sBetween : Stmt := top 26
def ordP (q : Str × Str) : Str × Str := if Srs.ltT q.1 q.2 then q else (q.2, q.1)
def spBetween : Sp := fun vs H Q _ => ∃ (a b : Str), vs = [.str a, .str b] ∧ ∀ t, H t = none → Q (.ref t) (upd H t (.tup [.str (ordP (a, b)).1, .str (ordP (a, b)).2]))
abbrev sJoined : Stmt := top 24
def spJoined : Sp := fun vs H Q _ => ∃ (d : Addr) (a b : Str) (hs : List Str) (g : Str → Str), vs = [.ref d, .str a, .str b] ∧ H d = some (.dK (tab hs fun x => .str (g x))) ∧ hs.Nodup ∧ hs.length ≤ 1000 ∧
  ∀ (D : Addr) (H' : Hp), H D = none → Evl.Ex H H' → H' D = some (.dK (tab hs fun x => .str (if g x = b then a else g x))) → Q (.ref D) H'
theorem ex_upd {H H' : Hp} {a : Addr} {o : HO} (e : Evl.Ex H H') (h : H a = none) : Evl.Ex H (upd H' a o) := fun b u q => by rw [upd_ne (ne_of_none q h)]; exact e _ _ q
section
variable {P : Program} {w : World} {K : PySem.W.Frag} {mg : Str → Option Value} {base : Heap}
theorem scCheck : FnScope ["houses", "seen", "index", "house"] ["houses"] (defScope sCheck) := ⟨rfl, rfl, rfl, by decide +kernel, rfl, by decide +kernel, by decide +kernel⟩
theorem ok_check {f fN fL : Addr} {fd fdN fdL : FuncData} (F : FnP K "check_houses" sCheck f fd) (GN : FnOk P w K mg base CX0 1 fN fdN ["thing"] spIsName) (bN : L2.Binds K fdN ["thing"] []) (kN : PySem.W.keepIn K (.ref fN) = true) (gN : mg "is_name" = some (.ref fN))
    (GL : FnOk P w K mg base CX0 1 fL fdL ["thing"] spIsLst) (bL : L2.Binds K fdL ["thing"] []) (kL : PySem.W.keepIn K (.ref fL) = true) (gLs : mg "is_listed" = some (.ref fL)) (gLe : mg "len" = none) (gE : mg "enumerate" = none) : FnOk P w K mg base CX0 2 f fd ["houses"] spCheck := by
  refine F.ok scCheck (fun vs H Q E h => ?_) (fun cdv A outer s H vs Q E hr h => ?_)
  · obtain ⟨l, hs, rfl, _⟩ := h
    rfl
  · obtain ⟨l, hs, rfl, hl, hne, hnd, h1k, hgood, k⟩ := h
    refine ⟨_, PSs.nox (pss_cons (ps_if (PW.pt (pw_or (pt_not (pt_val (pe_call GL hr rfl gLs kL bL .nil pass0 (pa_cons (pv 0) pa_nil)))) (pw_or1 (pt_cmpR op_eq (pe_callB call_len_seq (by rfl) gLe PySem.boot_len (pa_cons (pv 0) pa_nil)) pe_int (nomark _))))) pss_never pss_nil)
      (pss_cons (ps_set (i := 1) scCheck.nd rfl (.inl rfl) pe_dnewK)
      (pss_one (ps_for PassesOwn.never rfl (pi_enumA rfl gE (pa_cons (pv 0) pa_nil)) (pg_tup rfl (pgs_cons (pg_name (i := 2) scCheck.nd rfl (.inl rfl)) (pgs_cons (pg_name (i := 3) scCheck.nd rfl (.inl rfl)) pgs_nil)))
        (pss_cons (ps_if (PW.pt (pw_or (pt_not (pt_val (pe_call GN hr rfl gN kN bN .nil pass0 (pa_cons (pv 3) pa_nil)))) (pw_or1 (pt_cmp (pc_din (hu_of hr) (pv 3) (pv 1)) rfl)))) pss_never pss_nil)
        (pss_one (ps_dput (hu_of hr) (pv 1) (pv 3) pe_bl rfl))))))), ?_⟩
    have hl1 : 1 ≤ hs.length := List.length_pos_iff.mpr hne
    refine ⟨_, rfl, _, "list", rfl, .lst hl, fun H1 x1 => ⟨_, rfl, ?_⟩⟩
    refine ite2 (fun q => absurd q (by decide)) (fun _ => ?_)
    refine ⟨_, rfl, l, _, rfl, .inl (SqL.of (x1 _ _ hl)), rfl, _, rfl, ?_⟩
    refine ite2 (fun q => absurd q ?_) (fun _ => ?_)
    · simp [hne]
    · refine fun d hd => ⟨_, rfl, false, l, hs.map V.str, rfl, ?_, ?_⟩
      · exact SqL.of (x1.trans (Evl.Ex.new hd) _ _ hl)
      · refine for_it (walk_enumA (t := false) (xs := hs.map V.str)) (fun i σ H' => ∃ v2 v3, σ = [some (.ref l), some (.ref d), v2, v3] ∧ Evl.Ex H H' ∧ H' d = some (.dK (tab (hs.take i) fun _ => .bl true))) ?_ ?_ ?_ ?_
        · exact ⟨none, none, rfl, x1.trans (Evl.Ex.new hd), upd_same⟩
        · rintro i σ H' _ ⟨v2, v3, rfl, x2, e2⟩
          exact SqL.of (x2 _ _ hl)
        · rintro i y σ H' _ hi ⟨v2, v3, rfl, x2, e2⟩ ⟨T, u, z, rfl, hT, rfl, hu, hz⟩
          injection hu with hu
          subst hu
          rw [List.length_map] at hi
          obtain ⟨h, hh⟩ := getD_of hi
          have hz : (hs.map V.str)[i]? = some z := hz
          rw [List.getElem?_map, hh] at hz
          injection hz with hz
          subst hz
          have hm : h ∈ hs := List.mem_of_getElem? hh
          have hdT : d ≠ T := ne_of_none e2 hT
          refine ⟨T, _, rfl, SqT.of upd_same, rfl, _, _, rfl, _, _, rfl, rfl, _, rfl, h, rfl, hgood h hm, fun H3 x3 => ⟨_, rfl, ?_⟩⟩
          have e3 : H3 d = some (.dK (tab (hs.take i) fun _ => .bl true)) := x3 _ _ (by rw [upd_ne hdT]; exact e2)
          have hni : h ∉ hs.take i := fun z => by
            obtain ⟨j, hj⟩ := List.mem_iff_getElem?.mp z
            have lt : j < i := by
              have := (List.getElem?_eq_some_iff.mp hj).1
              rw [List.length_take] at this
              omega
            rw [List.getElem?_take_of_lt lt] at hj
            have := (List.getElem?_inj (by omega) hnd).mp (hj.trans hh.symm)
            omega
          refine ite2 (fun q => absurd q (by decide)) (fun _ => ⟨_, rfl, _, rfl, d, _, rfl, DGet.k (k := Sum.inr h) e3, _, rfl, ?_⟩)
          rw [val_out hni]
          refine iteF ?_
          refine ⟨_, rfl, _, rfl, d, _, rfl, DPut.k (k := Sum.inr h) e3 ?_, ?_⟩
          · rw [tab_length, List.length_take]
            exact Nat.lt_of_le_of_lt (show min i hs.length ≤ 1000 by omega) (by decide)
          · refine ⟨_, _, rfl, ?_, ?_⟩
            · exact ex_upd ((x2.trans (Evl.Ex.new hT)).trans x3) (by
                cases q : H d with
                | none => rfl
                | some o =>
                  rw [x1 _ _ q] at hd
                  cases hd)
            · rw [upd_same, put_new hni, List.take_add_one, hh]
              congr 2
              exact tab_congr fun x _ => by split <;> rfl
        · rintro σ H' ⟨v2, v3, rfl, x2, e2⟩
          exact k _ x2
theorem scIsPair : FnScope ["thing"] ["thing"] (defScope sIsPair) := ⟨rfl, rfl, rfl, by decide +kernel, rfl, by decide +kernel, by decide +kernel⟩
theorem ok_isPair {f fL : Addr} {fd fdL : FuncData} (F : FnP K "is_pair" sIsPair f fd) (GL : FnOk P w K mg base CX0 1 fL fdL ["thing"] spIsLst) (bL : L2.Binds K fdL ["thing"] []) (kL : PySem.W.keepIn K (.ref fL) = true) (gLs : mg "is_listed" = some (.ref fL)) (gLe : mg "len" = none) :
    FnOk P w K mg base CX0 2 f fd ["thing"] spIsPair := by
  refine F.ok scIsPair (fun vs H Q E h => ?_) (fun cdv A outer s H vs Q E hr h => ?_)
  · obtain ⟨t, x, y, rfl, _⟩ := h
    rfl
  · obtain ⟨t, x, y, rfl, ht, k⟩ := h
    refine ⟨_, PSs.nox (pss_one (ps_ret (pe_and (pe_call GL hr rfl gLs kL bL .nil pass0 (pa_cons (pv 0) pa_nil)) (pe_one (pe_cmpR op_eq (pe_callB call_len_seq (by rfl) gLe PySem.boot_len (pa_cons (pv 0) pa_nil)) pe_int (nomark _)))))), ?_⟩
    exact ⟨_, rfl, _, "tuple", rfl, .tup ht, fun H1 x1 => ⟨_, rfl, iteT ⟨_, rfl, t, _, rfl, .inr (SqT.of (x1 _ _ ht)), rfl, k _ x1⟩⟩⟩
theorem scBetween : FnScope ["one", "other"] ["one", "other"] (defScope sBetween) := ⟨rfl, rfl, rfl, by decide +kernel, rfl, by decide +kernel, by decide +kernel⟩
theorem ok_between {f : Addr} {fd : FuncData} (F : FnP K "path_between" sBetween f fd) : FnOk P w K mg base CX0 1 f fd ["one", "other"] spBetween := by
  refine F.ok scBetween (fun vs H Q E h => ?_) (fun cdv A outer s H vs Q E hr h => ?_)
  · obtain ⟨a, b, rfl, _⟩ := h
    rfl
  · obtain ⟨a, b, rfl, k⟩ := h
    refine ⟨_, PSs.nox (pss_one (ps_ret (pe_ifExp (pt_cmpR op_lt_str (pv 0) (pv 1) (nomark _)) (pe_tup (pa_cons (pv 0) (pa_cons (pv 1) pa_nil))) (pe_tup (pa_cons (pv 1) (pa_cons (pv 0) pa_nil)))))), ?_⟩
    refine ⟨_, rfl, _, rfl, _, _, rfl, rfl, _, rfl, ?_⟩
    have e : decide (a.cps.toList < b.cps.toList) = Srs.ltT a b := rfl
    rw [e]
    cases hb : Srs.ltT a b with
    | true =>
      refine iteT ⟨_, rfl, _, rfl, by show 2 ≤ sizeLine; decide, fun t ht => ?_⟩
      have := k t ht
      unfold ordP at this
      rw [hb] at this
      exact this
    | false =>
      refine iteF ⟨_, rfl, _, rfl, by show 2 ≤ sizeLine; decide, fun t ht => ?_⟩
      have := k t ht
      unfold ordP at this
      rw [hb] at this
      exact this
theorem scJoined : FnScope ["group", "one", "other", "house"] ["group", "one", "other"] (defScope sJoined) := ⟨rfl, rfl, rfl, by decide +kernel, rfl, by decide +kernel, by decide +kernel⟩
theorem ok_joined {f : Addr} {fd : FuncData} (F : FnP K "joined_groups" sJoined f fd) : FnOk P w K mg base CX0 1 f fd ["group", "one", "other"] spJoined := by
  refine F.ok scJoined (fun vs H Q E h => ?_) (fun cdv A outer s H vs Q E hr h => ?_)
  · obtain ⟨d, a, b, hs, g, rfl, _⟩ := h
    rfl
  · obtain ⟨d, a, b, hs, g, rfl, hd, hnd, h1k, k⟩ := h
    refine' ⟨_, PSs.nox (pss_one (ps_ret (pe_lock ?dc))), ?rd⟩
    case dc =>
      refine pe_dc (own := [("house", 3)]) (g := gName 3) (tt := tYes) (tk := tVar 3) (tv := tIf (tTest (tOp rEq (tDGet (tVar 0) (tVar 3)) (tVar 2))) (tVar 1) (tDGet (tVar 0) (tVar 3))) rfl scJoined.nd (pi_keys (pv 0))
        (blkOk_by (own := [("house", 3)]) (N := ["group", "one", "other", "house"]) (sc := defScope sJoined) (by decide +kernel)) (fun _ _ _ _ _ => pg_name (i := 3) scJoined.nd rfl (.inl rfl)) (fun _ _ _ _ _ => pts_nil) (fun _ _ _ _ _ => pv 3) ?_
      intro _ _ _ _ _
      exact pe_ifExp (pt_cmpR op_eq (pe_dget (hu_of hr) (pv 0) (pv 3) (fun _ _ => rfl)) (pv 2) (nomark _)) (pv 1) (pe_dget (hu_of hr) (pv 0) (pv 3) (fun _ _ => rfl))
    have hK : ∀ {H1 : Hp}, True := fun {_} => trivial
    refine ⟨d, _, hd, ?mu, fun od => ?_⟩
    case mu => trivial
    refine ⟨_, rfl, d, od, rfl, .inl ⟨_, upd_same, fun D hD => ?_⟩⟩
    have hdD : d ≠ D := ne_of_none upd_same hD
    have hDH : H D = none := by rw [upd_ne hdD.symm] at hD; exact hD
    refine dc_it walk_keys (fun i H' => (∀ z o, H z = some o → z ≠ d → H' z = some o) ∧ H' d = some (.frz od (.dK (tab hs fun x => .str (g x)))) ∧ H' D = some (.dK (tab (hs.take i) fun x => .str (if g x = b then a else g x)))) ?_ ?_ ?_ ?_
    · exact ⟨fun z o e hz => by rw [upd_ne (ne_of_none e hDH), upd_ne hz]; exact e, by rw [upd_ne hdD]; exact upd_same, upd_same⟩
    · intro i H1 _ hp
      exact hp.2.1
    · rintro i y H1 H2 hi ⟨e1, e2, e3⟩ ⟨rfl, k', v', hk, rfl⟩
      rw [tab_length] at hi
      obtain ⟨h, hh⟩ := getD_of hi
      have hm : h ∈ hs := List.mem_of_getElem? hh
      unfold tab at hk
      rw [List.getElem?_map, hh] at hk
      cases hk
      have e4 : DGet _ d (kV (Sum.inr h)) (valV (tab hs fun x => .str (g x)) (Sum.inr h)) := .inl ⟨_, _, .inr ⟨_, e2⟩, rfl, rfl⟩
      rw [val_in hm] at e4
      have hni : h ∉ hs.take i := fun z => by
        obtain ⟨j, hj⟩ := List.mem_iff_getElem?.mp z
        have lt : j < i := by
          have := (List.getElem?_eq_some_iff.mp hj).1
          rw [List.length_take] at this
          omega
        rw [List.getElem?_take_of_lt lt] at hj
        have := (List.getElem?_inj (by omega) hnd).mp (hj.trans hh.symm)
        omega
      have fin : ∀ v, v = (if g h = b then a else g h) → ∃ kvs k, kV (Sum.inr h) = kV k ∧ H2 D = some (.dK kvs) ∧ kvs.length < sizeLine ∧ ((∀ z o, H z = some o → z ≠ d → upd H2 D (.dK (putK kvs k (.str v))) z = some o) ∧ upd H2 D (.dK (putK kvs k (.str v))) d = some (.frz od (.dK (tab hs fun x => .str (g x)))) ∧ upd H2 D (.dK (putK kvs k (.str v))) D = some (.dK (tab (hs.take (i + 1)) fun x => .str (if g x = b then a else g x)))) := fun v hv => by
        refine ⟨_, Sum.inr h, rfl, e3, ?_, fun z o e hz => ?_, ?_, ?_⟩
        · rw [tab_length, List.length_take]
          exact Nat.lt_of_le_of_lt (show min i hs.length ≤ 1000 by omega) (by decide)
        · rw [upd_ne (ne_of_none e hDH)]
          exact e1 z o e hz
        · rw [upd_ne hdD]
          exact e2
        · rw [upd_same, put_new hni, List.take_add_one, hh]
          congr 2
          exact tab_congr fun x _ => by split <;> simp_all
      refine ⟨rfl, ?_⟩
      refine ⟨_, rfl, _, rfl, _, rfl, d, _, rfl, e4, _, rfl, ?_⟩
      refine ⟨rfl, _, rfl, ite2 (fun q => ⟨_, rfl, fin a ?_⟩) (fun q => ⟨_, rfl, _, rfl, d, _, rfl, e4, fin (g h) ?_⟩)⟩
      · have : g h = b := by simpa using q
        rw [if_pos this]
      · have : ¬ g h = b := by simpa using q
        rw [if_neg this]
    · rintro H1 ⟨e1, e2, e3⟩
      rw [tab_length, List.take_length] at e3
      refine ⟨e2, k D _ hDH (fun z o e => ?_) ?_⟩
      · by_cases hz : z = d
        · rw [hz, upd_same, ← hd, ← hz]
          exact e
        · rw [upd_ne hz]
          exact e1 z o e hz
      · rw [upd_ne hdD.symm]
        exact e3
end
end K11

namespace K11
open PySem PySem.Spec PyProof.Rows L2 Tr Sq Dk
/-! ### near_houses -/
abbrev sNear : Stmt := top 25
/-- a dict of lists of names: what lies beside each house -/
def NearAt (H : Hp) (d : Addr) (hs : List Str) (ad : Str → Addr) (g : Str → List Str) : Prop := H d = some (.dK (tab hs fun h => .ref (ad h))) ∧ ∀ h ∈ hs, H (ad h) = some (.lst ((g h).map V.str))
def spNear : Sp := fun vs H Q _ => ∃ (l q : Addr) (hs : List Str) (qs : PrL), vs = [.ref l, .ref q] ∧ H l = some (.lst (hs.map V.str)) ∧ H q = some (.lst (refsL qs)) ∧ PrsAt H qs ∧ hs.Nodup ∧ hs.length ≤ 1000 ∧ qs.length ≤ 1000 ∧ (∀ t ∈ qs, t.2.1 ∈ hs ∧ t.2.2 ∈ hs) ∧
  ∀ (d : Addr) (ad : Str → Addr) (H' : Hp), H d = none → (∀ h ∈ hs, H (ad h) = none) → Evl.Ex H H' → NearAt H' d hs ad (nearL (qs.map (·.2))) → Q (.ref d) H'
theorem nearL_le (ps : Prs) (x : Str) : (nearL ps x).length ≤ 2 * ps.length := by
  induction ps with
  | nil => exact Nat.le_refl _
  | cons q r ih =>
    obtain ⟨a, b⟩ := q
    simp only [nearL, List.length_append, List.length_cons]
    have h1 : (if a = x then [b] else ([] : List Str)).length ≤ 1 := by split <;> simp
    have h2 : (if b = x then [a] else ([] : List Str)).length ≤ 1 := by split <;> simp
    omega
section
variable {P : Program} {w : World} {K : PySem.W.Frag} {mg : Str → Option Value} {base : Heap}
theorem scNear : FnScope ["houses", "paths", "near", "one", "other", "house"] ["houses", "paths"] (defScope sNear) := ⟨rfl, rfl, rfl, by decide +kernel, rfl, by decide +kernel, by decide +kernel⟩
theorem ok_near {f : Addr} {fd : FuncData} (F : FnP K "near_houses" sNear f fd) : FnOk P w K mg base CX0 1 f fd ["houses", "paths"] spNear := by
  refine F.ok scNear (fun vs H Q E h => ?_) (fun cdv A outer s H vs Q E hr h => ?_)
  · obtain ⟨l, q, hs, qs, rfl, _⟩ := h
    rfl
  · obtain ⟨l, q, hs, qs, rfl, hl, hq, hP, hnd, h1k, hq1k, hin, k⟩ := h
    refine' ⟨_, PSs.nox (pss_cons ?dc (pss_cons (ps_for PassesOwn.never rfl (pi_list (pv 1)) (pg_tup rfl (pgs_cons (pg_name (i := 3) scNear.nd rfl (.inl rfl)) (pgs_cons (pg_name (i := 4) scNear.nd rfl (.inl rfl)) pgs_nil)))
        (pss_cons (ps_expr (pe_bm PySem.F.plainAttrs_list PySem.F.slot_list_append PySem.F.type_list_append mt_append (pe_dget (hu_of hr) (pv 2) (pv 3) (fun _ _ => rfl)) (pa_cons (pv 4) pa_nil)))
        (pss_one (ps_expr (pe_bm PySem.F.plainAttrs_list PySem.F.slot_list_append PySem.F.type_list_append mt_append (pe_dget (hu_of hr) (pv 2) (pv 4) (fun _ _ => rfl)) (pa_cons (pv 3) pa_nil))))))
      (pss_one (ps_ret (pv 2))))), ?rd⟩
    case dc =>
      exact ps_setDc (i := 2) (own := [("house", 5)]) (g := gName 5) (tt := tYes) (tk := tVar 5) (tv := tLst tNil) rfl scNear.nd rfl rfl (sw_trueD rfl rfl rfl (by decide +kernel)) (pi_list (pv 0))
        (blkOk_by (own := [("house", 5)]) (N := ["houses", "paths", "near", "one", "other", "house"]) (sc := defScope sNear) (by decide +kernel)) (fun _ _ _ _ _ => pg_name (i := 5) scNear.nd rfl (.inl rfl)) (fun _ _ _ _ _ => pts_nil) (fun _ _ _ _ _ => pv 5) (fun _ _ _ _ _ => pe_lst pa_nil)
    refine ⟨_, rfl, l, rfl, ⟨_, SqL.of hl⟩, fun D hD => ?_⟩
    refine dc_it (walk_list (xs := hs.map V.str)) (fun i H' => Evl.Ex H H' ∧ ∃ ad : Str → Addr, H' D = some (.dK (tab (hs.take i) fun h => .ref (ad h))) ∧ (∀ h ∈ hs.take i, H' (ad h) = some (.lst []) ∧ H (ad h) = none) ∧ ∀ h ∈ hs.take i, ∀ h2 ∈ hs.take i, ad h = ad h2 → h = h2) ?_ ?_ ?_ ?_
    · exact ⟨Evl.Ex.new hD, fun _ => 0, upd_same, fun h hh => absurd hh (by simp), fun h hh => absurd hh (by simp)⟩
    · intro i H' _ hp
      exact SqL.of (hp.1 _ _ hl)
    · rintro i y H1 H2 hi ⟨e1, ad, e2, e3, e4⟩ ⟨rfl, hy⟩
      rw [List.length_map] at hi
      obtain ⟨h, hh⟩ := getD_of hi
      rw [List.getElem?_map, hh] at hy
      cases hy
      have hm : h ∈ hs := List.mem_of_getElem? hh
      have hni : h ∉ hs.take i := fun z => by
        obtain ⟨j, hj⟩ := List.mem_iff_getElem?.mp z
        have lt : j < i := by
          have := (List.getElem?_eq_some_iff.mp hj).1
          rw [List.length_take] at this
          omega
        rw [List.getElem?_take_of_lt lt] at hj
        have := (List.getElem?_inj (by omega) hnd).mp (hj.trans hh.symm)
        omega
      refine ⟨rfl, _, rfl, by show 0 ≤ sizeLine; decide, fun p hp => ?_⟩
      have hpD : p ≠ D := fun z => by rw [z, e2] at hp; cases hp
      have hpH : H p = none := by
        cases q0 : H p with
        | none => rfl
        | some o => rw [e1 _ _ q0] at hp; cases hp
      have nead : ∀ x ∈ hs.take i, ad x ≠ p ∧ ad x ≠ D := fun x hx => by
        have := (e3 x hx).1
        exact ⟨ne_of_none this hp, fun z => by rw [z, e2] at this; cases this⟩
      have tk : hs.take (i + 1) = hs.take i ++ [h] := by rw [List.take_add_one, hh]; rfl
      refine ⟨_, Sum.inr h, rfl, by rw [upd_ne hpD.symm]; exact e2, ?_, ex_upd (e1.trans (Evl.Ex.new hp)) hD, fun x => if x = h then p else ad x, ?_, fun x hx => ?_, fun x hx x2 hx2 e => ?_⟩
      · rw [tab_length, List.length_take]
        exact Nat.lt_of_le_of_lt (show min i hs.length ≤ 1000 by omega) (by decide)
      · rw [upd_same, put_new hni, tk]
        congr 2
        exact tab_congr fun x _ => by
          show (if x = h then V.ref p else V.ref (ad x)) = V.ref (if x = h then p else ad x)
          split <;> rfl
      · rw [tk] at hx
        rcases List.mem_append.mp hx with hx | hx
        · have hxh : x ≠ h := fun z => hni (by rw [← z]; exact hx)
          simp only [if_neg hxh]
          rw [upd_ne (nead x hx).2, upd_ne (nead x hx).1]
          exact e3 x hx
        · simp only [List.mem_singleton] at hx
          subst hx
          simp only [if_true]
          rw [upd_ne hpD, upd_same]
          exact ⟨rfl, hpH⟩
      · have e : (if x = h then p else ad x) = (if x2 = h then p else ad x2) := e
        rw [tk] at hx hx2
        have split1 : ∀ z ∈ hs.take i ++ [h], z = h ∨ (z ∈ hs.take i ∧ z ≠ h) := fun z hz => by
          rcases List.mem_append.mp hz with hz | hz
          · exact .inr ⟨hz, fun q => hni (by rw [← q]; exact hz)⟩
          · exact .inl (by simpa using hz)
        rcases split1 x hx with q1 | ⟨m1, q1⟩ <;> rcases split1 x2 hx2 with q2 | ⟨m2, q2⟩
        · rw [q1, q2]
        · rw [if_pos q1, if_neg q2] at e
          exact absurd e.symm (nead x2 m2).1
        · rw [if_neg q1, if_pos q2] at e
          exact absurd e (nead x m1).1
        · rw [if_neg q1, if_neg q2] at e
          exact e4 x m1 x2 m2 e
    · rintro H1 ⟨e1, ad, e2, e3, e4⟩
      rw [List.length_map, List.take_length] at e2 e3 e4
      refine ⟨_, rfl, q, rfl, ⟨_, SqL.of (e1 _ _ hq)⟩, ?_⟩
      have adD : ∀ x ∈ hs, ad x ≠ D := fun x hx z => by have := (e3 x hx).1; rw [z, e2] at this; cases this
      refine for_it (walk_list (xs := refsL qs)) (fun i σ H' => ∃ v3 v4 v5, σ = [some (.ref l), some (.ref q), some (.ref D), v3, v4, v5] ∧ Evl.Ex H H' ∧ H' D = some (.dK (tab hs fun h => .ref (ad h))) ∧ ∀ h ∈ hs, H' (ad h) = some (.lst ((nearL ((qs.map (·.2)).take i) h).map V.str))) ?_ ?_ ?_ ?_
      · exact ⟨_, _, _, rfl, e1, e2, fun h hh => (e3 h hh).1⟩
      · rintro i σ H' _ ⟨v3, v4, v5, rfl, f1, f2, f3⟩
        exact SqL.of (f1 _ _ hq)
      · rintro i y σ H2 H3 hi ⟨v3, v4, v5, rfl, f1, f2, f3⟩ ⟨rfl, hy⟩
        unfold refsL at hi hy
        rw [List.length_map] at hi
        obtain ⟨t, ht⟩ := getD_of hi
        rw [List.getElem?_map, ht] at hy
        cases hy
        have tm := List.mem_of_getElem? ht
        obtain ⟨m1, m2⟩ := hin t tm
        obtain ⟨T, a, b⟩ := t
        have hT : H3 T = some (.tup [.str a, .str b]) := f1 _ _ (hP _ tm)
        have tk : (qs.map (·.2)).take (i + 1) = (qs.map (·.2)).take i ++ [(a, b)] := by rw [List.take_add_one, List.getElem?_map, ht]; rfl
        have len : ∀ h, ((nearL ((qs.map (·.2)).take i) h).map V.str).length < sizeLine := fun h => by
          rw [List.length_map]
          have := nearL_le ((qs.map (·.2)).take i) h
          rw [List.length_take, List.length_map] at this
          exact Nat.lt_of_le_of_lt (show _ ≤ 2000 by omega) (by decide)
        have g1 : DGet H3 D (kV (Sum.inr a)) (some (.ref (ad a))) := by have := DGet.k (k := Sum.inr a) f2; rw [val_in m1] at this; exact this
        refine ⟨T, _, rfl, SqT.of hT, rfl, _, _, rfl, _, _, rfl, rfl, ?_⟩
        refine ⟨_, rfl, _, rfl, D, _, rfl, g1, .inl ⟨rfl, _, SqL.of (f3 a m1)⟩, _, rfl, ad a, _, _, rfl, rfl, f3 a m1, len a, ?_⟩
        have f2' : upd H3 (ad a) (.lst ((nearL ((qs.map (·.2)).take i) a).map V.str ++ [.str b])) D = some (.dK (tab hs fun h => .ref (ad h))) := by rw [upd_ne (adD a m1).symm]; exact f2
        have g2 : DGet (upd H3 (ad a) (.lst ((nearL ((qs.map (·.2)).take i) a).map V.str ++ [.str b]))) D (kV (Sum.inr b)) (some (.ref (ad b))) := by have := DGet.k (k := Sum.inr b) f2'; rw [val_in m2] at this; exact this
        have adH : ∀ x ∈ hs, H (ad x) = none := fun x hx => (e3 x hx).2
        have e5 : Evl.Ex H (upd H3 (ad a) (.lst ((nearL ((qs.map (·.2)).take i) a).map V.str ++ [.str b]))) := ex_upd f1 (adH a m1)
        have c1 : (nearL ((qs.map (·.2)).take i) a).map V.str ++ [.str b] = (nearL ((qs.map (·.2)).take i) a ++ [b]).map V.str := by rw [List.map_append]; rfl
        rw [c1] at f2' g2 e5 ⊢
        generalize hH4 : upd H3 (ad a) (.lst ((nearL ((qs.map (·.2)).take i) a ++ [b]).map V.str)) = H4 at f2' g2 e5 ⊢
        have at4 : ∀ x ∈ hs, H4 (ad x) = some (.lst ((nearL ((qs.map (·.2)).take i) x ++ (if a = x then [b] else [])).map V.str)) := fun x hx => by
          rw [← hH4]
          by_cases ex : a = x
          · subst ex
            rw [upd_same, if_pos rfl]
          · rw [upd_ne (fun z => ex (e4 a m1 x hx z.symm)), if_neg ex, List.append_nil]
            exact f3 x hx
        have lb : ((nearL ((qs.map (·.2)).take i) b ++ (if a = b then [b] else [])).map V.str).length < sizeLine := by
          rw [List.length_map, List.length_append]
          have := nearL_le ((qs.map (·.2)).take i) b
          rw [List.length_take, List.length_map] at this
          have h1 : (if a = b then [b] else ([] : List Str)).length ≤ 1 := by split <;> simp
          exact Nat.lt_of_le_of_lt (show _ ≤ 2001 by omega) (by decide)
        refine ⟨_, rfl, _, rfl, D, _, rfl, g2, .inl ⟨rfl, _, SqL.of (at4 b m2)⟩, _, rfl, ad b, _, _, rfl, rfl, at4 b m2, lb, ?_⟩
        refine ⟨_, _, _, rfl, ex_upd e5 (adH b m2), by rw [upd_ne (adD b m2).symm]; exact f2', fun x hx => ?_⟩
        rw [tk, nearL_snoc]
        by_cases ex : b = x
        · subst ex
          rw [upd_same, if_pos rfl, List.map_append, List.map_append, List.map_append]
          simp
        · rw [upd_ne (fun z => ex (e4 b m2 x hx z.symm)), if_neg ex, List.append_nil]
          exact at4 x hx
      · rintro σ H2 ⟨v3, v4, v5, rfl, f1, f2, f3⟩
        have : (qs.map (·.2)).take (refsL qs).length = qs.map (·.2) := by
          unfold refsL
          rw [List.length_map, List.take_of_length_le (by rw [List.length_map]; exact Nat.le_refl _)]
        rw [this] at f3
        exact ⟨_, rfl, k D ad H2 hD (fun h hh => (e3 h hh).2) f1 ⟨f2, f3⟩⟩
end
end K11

namespace K11
open PySem PySem.Spec PyProof.Rows L2 Tr Sq Dk
/-! ### checked_paths (of paths of a tree) -/
abbrev sPathsC : Stmt := top 23
def prOf (H : Hp) : V → Str × Str
  | .ref a => match H a with
    | some (.tup [.str x, .str y]) => (x, y)
    | _ => (⟨#[]⟩, ⟨#[]⟩)
  | _ => (⟨#[]⟩, ⟨#[]⟩)
theorem prOf_at {H : Hp} {a : Addr} {x y : Str} (h : H a = some (.tup [.str x, .str y])) : prOf H (.ref a) = (x, y) := by
  unfold prOf
  simp only [h]
theorem prOf_refs {H : Hp} {qs : PrL} (h : PrsAt H qs) : (refsL qs).map (prOf H) = qs.map (·.2) := by
  unfold refsL
  rw [List.map_map]
  exact List.map_congr_left fun t ht => prOf_at (h t ht)
def spPathsC : Sp := fun vs H Q _ => ∃ (l q : Addr) (hs hs0 : List Str) (qs : PrL), vs = [.ref l, .ref q] ∧ H l = some (.lst (hs.map V.str)) ∧ H q = some (.lst (refsL qs)) ∧ PrsAt H qs ∧ Tree hs (qs.map (·.2)) ∧ hs ≠ [] ∧ hs.length ≤ 1000 ∧ qs.length ≤ 1000 ∧ hs0 = hs ∧
  ∀ (r : Addr) (zs : PrL) (H' : Hp), H r = none → Evl.Ex H H' → H' r = some (.lst (refsL zs)) → PrsAt H' zs → (zs.map (·.2)).Perm ((qs.map (·.2)).map ordP) → (zs.map (·.2)).Pairwise (fun x y => Srs.lexT y x = false) → (∀ t ∈ zs, H t.1 = none) → Q (.ref r) H'
section
variable {P : Program} {w : World} {K : PySem.W.Frag} {mg : Str → Option Value} {base : Heap}
theorem scPathsC : FnScope ["houses", "paths", "group", "told", "index", "pair", "house"] ["houses", "paths"] (defScope sPathsC) := ⟨rfl, rfl, rfl, by decide +kernel, rfl, by decide +kernel, by decide +kernel⟩
theorem ok_pathsC {f fL fP fJ fB : Addr} {fd fdL fdP fdJ fdB : FuncData} (F : FnP K "checked_paths" sPathsC f fd)
    (GL : FnOk P w K mg base CX0 1 fL fdL ["thing"] spIsLst) (bL : L2.Binds K fdL ["thing"] []) (kL : PySem.W.keepIn K (.ref fL) = true) (gLs : mg "is_listed" = some (.ref fL))
    (GP : FnOk P w K mg base CX0 2 fP fdP ["thing"] spIsPair) (bP : L2.Binds K fdP ["thing"] []) (kP : PySem.W.keepIn K (.ref fP) = true) (gP : mg "is_pair" = some (.ref fP))
    (GJ : FnOk P w K mg base CX0 1 fJ fdJ ["group", "one", "other"] spJoined) (bJ : L2.Binds K fdJ ["group", "one", "other"] []) (kJ : PySem.W.keepIn K (.ref fJ) = true) (gJ : mg "joined_groups" = some (.ref fJ))
    (GB : FnOk P w K mg base CX0 1 fB fdB ["one", "other"] spBetween) (bB : L2.Binds K fdB ["one", "other"] []) (kB : PySem.W.keepIn K (.ref fB) = true) (gB : mg "path_between" = some (.ref fB))
    (gI : mg "isinstance" = none) (gT : mg "str" = none) (gE : mg "enumerate" = none) (gA : mg "all" = none) (gS : mg "sorted" = none) : FnOk P w K mg base CX0 3 f fd ["houses", "paths"] spPathsC := by
  refine F.ok scPathsC (fun vs H Q E h => ?_) (fun cdv A outer s H vs Q E hr h => ?_)
  · obtain ⟨l, q, hs, _, qs, rfl, _⟩ := h
    rfl
  · obtain ⟨l, q, hs, _, qs, rfl, hl, hq, hP, T, hne, h1k, hq1k, _, k⟩ := h
    refine' ⟨_, PSs.nox (pss_cons (ps_if (pt_not (pt_val (pe_call GL (hr.mono (by decide)) rfl gLs kL bL .nil pass0 (pa_cons (pv 1) pa_nil)))) pss_never pss_nil)
      (pss_cons (ps_set (i := 2) scPathsC.nd rfl (.inr rfl) ?dc)
      (pss_cons (ps_set (i := 3) scPathsC.nd rfl (.inl rfl) (pe_lst pa_nil))
      (pss_cons (ps_for PassesOwn.never rfl (pi_enumA rfl gE (pa_cons (pv 1) pa_nil)) (pg_tup rfl (pgs_cons (pg_name (i := 4) scPathsC.nd rfl (.inl rfl)) (pgs_cons (pg_name (i := 5) scPathsC.nd rfl (.inl rfl)) pgs_nil)))
        (pss_cons (ps_if (PW.pt (pw_or (pt_not (pt_val (pe_call GP hr rfl gP kP bP .nil pass0 (pa_cons (pv 5) pa_nil)))) (pw_or1 (pt_not (pt_val (pe_callB (cr_all rfl) (by rfl) gA (by decide +kernel) (pa_cons ?lc pa_nil))))))) pss_never pss_nil)
        (pss_cons (ps_if (pt_cmpR op_eq (pe_dget (hu_of hr) (pv 2) (pe_ix ix_tup (pv 5) pe_int (fun _ _ => rfl)) (fun _ _ => rfl)) (pe_dget (hu_of hr) (pv 2) (pe_ix ix_tup (pv 5) pe_int (fun _ _ => rfl)) (fun _ _ => rfl)) (nomark _)) pss_never pss_nil)
        (pss_cons (ps_set (i := 2) scPathsC.nd rfl (.inr rfl) (pe_call GJ (hr.mono (by decide)) rfl gJ kJ bJ .nil pass0 (pa_cons (pv 2) (pa_cons (pe_dget (hu_of hr) (pv 2) (pe_ix ix_tup (pv 5) pe_int (fun _ _ => rfl)) (fun _ _ => rfl)) (pa_cons (pe_dget (hu_of hr) (pv 2) (pe_ix ix_tup (pv 5) pe_int (fun _ _ => rfl)) (fun _ _ => rfl)) pa_nil)))))
        (pss_one (ps_expr (pe_bm PySem.F.plainAttrs_list PySem.F.slot_list_append PySem.F.type_list_append mt_append (pv 3) (pa_cons (pe_call GB (hr.mono (by decide)) rfl gB kB bB .nil pass0 (pa_cons (pe_ix ix_tup (pv 5) pe_int (fun _ _ => rfl)) (pa_cons (pe_ix ix_tup (pv 5) pe_int (fun _ _ => rfl)) pa_nil))) pa_nil))))))))
      (pss_cons (ps_for PassesOwn.never rfl (pi_list (pv 0)) (pg_name (i := 6) scPathsC.nd rfl (.inl rfl))
        (pss_one (ps_if (pt_cmpR op_ne (pe_dget (hu_of hr) (pv 2) (pv 6) (fun _ _ => rfl)) (pe_dget (hu_of hr) (pv 2) (pe_ix ix_list (pv 0) pe_int (fun _ _ => rfl)) (fun _ _ => rfl)) (nomark _)) pss_never pss_nil)))
      (pss_one (ps_ret (pe_callB Srs.cr_sortedPT (by rfl) gS (by decide +kernel) (pa_cons (pv 3) pa_nil))))))))), ?rd⟩
    case dc =>
      exact pe_dc (own := [("house", 6)]) (g := gName 6) (tt := tYes) (tk := tVar 6) (tv := tVar 6) rfl scPathsC.nd (pi_list (pv 0))
        (blkOk_by (own := [("house", 6)]) (N := ["houses", "paths", "group", "told", "index", "pair", "house"]) (sc := defScope sPathsC) (by decide +kernel)) (fun _ _ _ _ _ => pg_name (i := 6) scPathsC.nd rfl (.inl rfl)) (fun _ _ _ _ _ => pts_nil) (fun _ _ _ _ _ => pv 6) (fun _ _ _ _ _ => pv 6)
    case lc =>
      refine pe_lc (own := [("house", 6)]) (g := gName 6) (tt := tYes) (te := tAndV (tCB (rIsi K) (tCons (tVar 6) (tCons (tC (.ty "str")) tNil))) (tDIn (tVar 6) (tVar 2))) rfl scPathsC.nd (pi_tup (pv 5))
        (blkOk_by (own := [("house", 6)]) (N := ["houses", "paths", "group", "told", "index", "pair", "house"]) (sc := defScope sPathsC) (by decide +kernel)) (fun _ _ _ _ _ => pg_name (i := 6) scPathsC.nd rfl (.inl rfl)) (fun _ _ _ _ _ => pts_nil) ?_
      intro _ _ _ _ _
      exact pe_and (pe_callB call_isi (by rfl) gI (by decide +kernel) (pa_cons (pv 6) (pa_cons (pe_bltn (v := .ty "str") rfl gT (by decide +kernel) rfl) pa_nil))) (pe_one (pe_cmp (pc_din (hu_of hr) (pv 6) (pv 2)) rfl))
    obtain ⟨I, I0, I1, I2⟩ := T.groups
    have hnd := T.nd
    refine ⟨_, rfl, _, "list", rfl, .lst hq, fun H1 x1 => ⟨_, rfl, ?_⟩⟩
    refine ite2 (fun q => absurd q (by decide)) (fun _ => ?_)
    refine ⟨_, rfl, l, rfl, ⟨_, SqL.of (x1 _ _ hl)⟩, fun D hD => ?_⟩
    refine dc_it (walk_list (xs := hs.map V.str)) (fun i H' => Evl.Ex H H' ∧ H' D = some (.dK (tab (hs.take i) fun x => .str x))) ?_ ?_ ?_ ?_
    · exact ⟨x1.trans (Evl.Ex.new hD), upd_same⟩
    · intro i H' _ hp
      exact SqL.of (hp.1 _ _ hl)
    · rintro i y H2 H3 hi ⟨e1, e2⟩ ⟨rfl, hy⟩
      rw [List.length_map] at hi
      obtain ⟨h, hh⟩ := getD_of hi
      rw [List.getElem?_map, hh] at hy
      cases hy
      have hni : h ∉ hs.take i := fun z => by
        obtain ⟨j, hj⟩ := List.mem_iff_getElem?.mp z
        have lt : j < i := by
          have := (List.getElem?_eq_some_iff.mp hj).1
          rw [List.length_take] at this
          omega
        rw [List.getElem?_take_of_lt lt] at hj
        have := (List.getElem?_inj (by omega) hnd).mp (hj.trans hh.symm)
        omega
      refine ⟨rfl, _, rfl, _, rfl, _, Sum.inr h, rfl, e2, ?_, ex_upd e1 ?_, ?_⟩
      · rw [tab_length, List.length_take]
        exact Nat.lt_of_le_of_lt (show min i hs.length ≤ 1000 by omega) (by decide)
      · cases q0 : H D with
        | none => rfl
        | some o => rw [x1 _ _ q0] at hD; cases hD
      · rw [upd_same, put_new hni, List.take_add_one, hh]
        congr 2
        exact tab_congr fun x _ => by split <;> simp_all
    · rintro H2 ⟨x2, e2⟩
      rw [List.length_map, List.take_length] at e2
      refine ⟨by show 0 ≤ sizeLine; decide, fun fo hfo => ?_⟩
      have hfoH : H fo = none := by
        cases q0 : H fo with
        | none => rfl
        | some o => rw [x2 _ _ q0] at hfo; cases hfo
      have hDf : D ≠ fo := ne_of_none e2 hfo
      refine ⟨_, rfl, false, q, refsL qs, rfl, SqL.of (by rw [upd_ne (ne_of_none (x2 _ _ hq) hfo)]; exact x2 _ _ hq), ?_⟩
      refine for_it (walk_enumA (t := false) (xs := refsL qs)) (fun i σ H' => ∃ G g v4 v5 v6 zs, σ = [some (.ref l), some (.ref q), some (.ref G), some (.ref fo), v4, v5, v6] ∧ Evl.Ex H H' ∧ H' G = some (.dK (tab hs fun x => .str (g x))) ∧ I ((qs.map (·.2)).take i) g ∧
        H' fo = some (.lst (refsL zs)) ∧ PrsAt H' zs ∧ zs.map (·.2) = ((qs.map (·.2)).take i).map ordP ∧ ∀ t ∈ zs, H t.1 = none) ?_ ?_ ?_ ?_
      · exact ⟨D, id, none, none, none, [], rfl, x2.trans (Evl.Ex.new hfo), by rw [upd_ne hDf]; exact e2, I0 _ (fun x _ y _ e => e), upd_same, fun t ht => absurd ht (by simp), rfl, fun t ht => absurd ht (by simp)⟩
      · rintro i σ H' _ ⟨G, g, v4, v5, v6, zs, rfl, f1, _⟩
        exact SqL.of (f1 _ _ hq)
      · rintro i y σ H3 H4 hi ⟨G, g, v4, v5, v6, zs, rfl, f1, f2, f3, f4, f5, f6, f7⟩ ⟨TT, u, z, rfl, hTT, rfl, hu, hz⟩
        injection hu with hu
        subst hu
        have hz : (refsL qs)[i]? = some z := hz
        unfold refsL at hi hz
        rw [List.length_map] at hi
        obtain ⟨t, ht⟩ := getD_of hi
        rw [List.getElem?_map, ht] at hz
        cases hz
        have tm := List.mem_of_getElem? ht
        obtain ⟨Ta, a, b⟩ := t
        have hab : (a, b) ∈ qs.map (·.2) := List.mem_map.mpr ⟨_, tm, rfl⟩
        obtain ⟨m1, m2⟩ := T.mem (.inl hab)
        have tk : (qs.map (·.2)).take (i + 1) = (qs.map (·.2)).take i ++ [(a, b)] := by rw [List.take_add_one, List.getElem?_map, ht]; rfl
        have hnt : (a, b) ∉ (qs.map (·.2)).take i := fun z => by
          obtain ⟨j, hj⟩ := List.mem_iff_getElem?.mp z
          have lt : j < i := by
            have := (List.getElem?_eq_some_iff.mp hj).1
            rw [List.length_take] at this
            omega
          rw [List.getElem?_take_of_lt lt] at hj
          have e9 : (qs.map (·.2))[i]? = some (a, b) := by rw [List.getElem?_map, ht]; rfl
          have := (List.getElem?_inj (by rw [List.length_map]; omega) T.np).mp (hj.trans e9.symm)
          omega
        obtain ⟨gne, gnext⟩ := I1 _ g a b f3 hab (fun q hq => List.mem_of_mem_take hq) hnt
        refine ⟨TT, _, rfl, SqT.of upd_same, rfl, _, _, rfl, _, _, rfl, rfl, ?_⟩
        have x4 : Evl.Ex H (upd H3 TT (.tup [.int (i : Nat), .ref Ta])) := f1.trans (Evl.Ex.new hTT)
        have y4 : Evl.Ex H3 (upd H3 TT (.tup [.int (i : Nat), .ref Ta])) := Evl.Ex.new hTT
        generalize upd H3 TT (.tup [.int (i : Nat), .ref Ta]) = H4 at x4 y4 ⊢
        have hTa : ∀ {H'}, Evl.Ex H H' → H' Ta = some (.tup [.str a, .str b]) := fun e => e _ _ (hP _ tm)
        refine ⟨_, rfl, Ta, .str a, .str b, rfl, hTa x4, fun H5 x5 => ⟨_, rfl, ?_⟩⟩
        refine ite2 (fun q => absurd q (by decide)) (fun _ => ?_)
        have hTa5 : H5 Ta = some (.tup [.str a, .str b]) := x5 _ _ (hTa x4)
        refine ⟨_, rfl, Ta, rfl, ⟨_, SqT.of hTa5⟩, fun LL hLL => ?_⟩
        have hG5 : H5 G = some (.dK (tab hs fun x => .str (g x))) := x5 _ _ (y4 _ _ f2)
        have hGL : G ≠ LL := ne_of_none hG5 hLL
        refine lc_it (walk_tup (xs := [.str a, .str b])) (fun j H' => Evl.Ex H5 H' ∧ H' LL = some (.lst ((List.replicate j true).map V.bl))) ⟨Evl.Ex.new hLL, upd_same⟩ (fun j H' _ hp => SqT.of (hp.1 _ _ hTa5)) (fun j x H6 H7 hj hp hy => ?_) (fun H6 hp => ?_)
        · obtain ⟨g1, g2⟩ := hp
          obtain ⟨rfl, hx⟩ := hy
          obtain ⟨h, rfl, hm⟩ : ∃ h, x = .str h ∧ h ∈ hs := by
            have hj : j < 2 := hj
            have : j = 0 ∨ j = 1 := by omega
            rcases this with rfl | rfl
            · exact ⟨a, (Option.some.inj hx).symm, m1⟩
            · exact ⟨b, (Option.some.inj hx).symm, m2⟩
          have hG6 : DGet H7 G (kV (Sum.inr h)) (some (.str (g h))) := by have := DGet.k (k := Sum.inr h) (g1 _ _ hG5); rw [val_in hm] at this; exact this
          refine ⟨rfl, _, rfl, _, _, _, _, _, rfl, .ty _, (Pl.str h : Pl H7 (.str h) "str").ty, (Pl.str h : Pl H7 (.str h) "str").one "str", _, rfl, iteT ⟨_, rfl, _, rfl, G, _, rfl, hG6, _, g2, ?_, ex_upd g1 hLL, ?_⟩⟩
          · rw [List.length_map, List.length_replicate]
            exact Nat.lt_of_lt_of_le (show j < 2 from hj) (by decide)
          · rw [upd_same, List.replicate_succ', List.map_append]
            rfl
        · obtain ⟨g1, g2⟩ := hp
          refine ⟨LL, List.replicate 2 true, rfl, SqL.of g2, _, rfl, ?_⟩
          refine iteF ?_
          have x6 : Evl.Ex H H6 := (x4.trans x5).trans g1
          have hG6 : H6 G = some (.dK (tab hs fun x => .str (g x))) := g1 _ _ hG5
          have ga : DGet H6 G (kV (Sum.inr a)) (some (.str (g a))) := by have := DGet.k (k := Sum.inr a) hG6; rw [val_in m1] at this; exact this
          have gb : DGet H6 G (kV (Sum.inr b)) (some (.str (g b))) := by have := DGet.k (k := Sum.inr b) hG6; rw [val_in m2] at this; exact this
          have t6 := hTa x6
          have at0 : ∀ {H'}, H' Ta = some (.tup [.str a, .str b]) → SqT K H' Ta [.str a, .str b] := fun e => SqT.of e
          refine ⟨_, rfl, _, rfl, Ta, _, _, _, rfl, rfl, at0 t6, atI_nat (j := 0) rfl, G, _, rfl, ga, _, rfl, _, rfl, Ta, _, _, _, rfl, rfl, at0 t6, atI_nat (j := 1) rfl, G, _, rfl, gb, rfl, _, rfl, ?_⟩
          refine ite2 (fun q => absurd (of_decide_eq_true q) (fun z => gne (V.str.inj z))) (fun _ => ?_)
          refine ⟨_, rfl, _, rfl, _, rfl, Ta, _, _, _, rfl, rfl, at0 t6, atI_nat (j := 0) rfl, G, _, rfl, ga, _, rfl, _, rfl, Ta, _, _, _, rfl, rfl, at0 t6, atI_nat (j := 1) rfl, G, _, rfl, gb, ?_⟩
          refine ⟨G, g a, g b, hs, g, rfl, hG6, hnd, h1k, fun G' H7 hG' x7 hG7 => ?_⟩
          have x6' : Evl.Ex H4 H6 := x5.trans g1
          have x47 : Evl.Ex H3 H7 := y4.trans (x6'.trans x7)
          have hf7 : H7 fo = some (.lst (refsL zs)) := x47 _ _ f4
          have t7 : H7 Ta = some (.tup [.str a, .str b]) := hTa (x6.trans x7)
          have hzl : zs.length = i := by
            have := congrArg List.length f6
            rw [List.length_map, List.length_map, List.length_take, List.length_map] at this
            omega
          refine ⟨_, rfl, .inl ⟨rfl, _, SqL.of hf7⟩, _, rfl, Ta, _, _, _, rfl, rfl, at0 t7, atI_nat (j := 0) rfl, _, rfl, Ta, _, _, _, rfl, rfl, at0 t7, atI_nat (j := 1) rfl, a, b, rfl, fun U hU => ?_⟩
          have hfU : fo ≠ U := ne_of_none hf7 hU
          have hUH : H U = none := by
            cases q0 : H U with
            | none => rfl
            | some o => rw [x7 _ _ (x6 _ _ q0)] at hU; cases hU
          refine ⟨fo, _, _, rfl, rfl, by rw [upd_ne hfU]; exact hf7, ?_, ?_⟩
          · unfold refsL
            rw [List.length_map, hzl]
            exact Nat.lt_of_le_of_lt (show i ≤ 1000 by omega) (by decide)
          · refine ⟨G', fun x => if g x = g b then g a else g x, some (.int (i : Nat)), some (.ref Ta), _, zs ++ [(U, ordP (a, b))], rfl, ?_⟩
            refine ⟨ex_upd ((x6.trans x7).trans (Evl.Ex.new hU)) hfoH, ?_, ?_, ?_, fun t ht => ?_, ?_, fun t ht => ?_⟩
            · have hGf : G' ≠ fo := fun z => by rw [z, x6' _ _ (y4 _ _ f4)] at hG'; cases hG'
              rw [upd_ne hGf, upd_ne (ne_of_none hG7 hU)]
              exact hG7
            · rw [tk]
              exact gnext _ fun x hx => rfl
            · unfold refsL
              rw [upd_same, List.map_append]
              rfl
            · rcases List.mem_append.mp ht with ht | ht
              · have := x47 _ _ (f5 t ht)
                rw [upd_ne (fun z => by rw [z, hf7] at this; cases this), upd_ne (ne_of_none this hU)]
                exact this
              · simp only [List.mem_singleton] at ht
                subst ht
                rw [upd_ne hfU.symm]
                exact upd_same
            · rw [List.map_append, f6, tk, List.map_append]
              rfl
            · rcases List.mem_append.mp ht with ht | ht
              · exact f7 t ht
              · simp only [List.mem_singleton] at ht
                subst ht
                exact hUH
      · rintro σ H3 ⟨G, g, v4, v5, v6, zs, rfl, f1, f2, f3, f4, f5, f6, f7⟩
        have lenR : (refsL qs).length = (qs.map (·.2)).length := by unfold refsL; rw [List.length_map, List.length_map]
        rw [lenR, List.take_length] at f3 f6
        have same := I2 _ g f3 (fun _ h => h)
        obtain ⟨h0, hh0⟩ : ∃ h0, hs[0]? = some h0 := getD_of (List.length_pos_iff.mpr hne)
        have m0 : h0 ∈ hs := List.mem_of_getElem? hh0
        refine ⟨_, rfl, l, rfl, ⟨_, SqL.of (f1 _ _ hl)⟩, ?_⟩
        refine for_it (walk_list (xs := hs.map V.str)) (fun i σ H' => H' = H3 ∧ ∃ v6, σ = [some (.ref l), some (.ref q), some (.ref G), some (.ref fo), v4, v5, v6]) ⟨rfl, _, rfl⟩ ?_ ?_ ?_
        · rintro i σ H' _ ⟨rfl, _⟩
          exact SqL.of (f1 _ _ hl)
        · rintro i y σ H4 H5 hi ⟨rfl, w6, rfl⟩ ⟨rfl, hy⟩
          rw [List.length_map] at hi
          obtain ⟨h, hh⟩ := getD_of hi
          rw [List.getElem?_map, hh] at hy
          cases hy
          have hm := List.mem_of_getElem? hh
          have ga : DGet H5 G (kV (Sum.inr h)) (some (.str (g h))) := by have := DGet.k (k := Sum.inr h) f2; rw [val_in hm] at this; exact this
          have gb : DGet H5 G (kV (Sum.inr h0)) (some (.str (g h0))) := by have := DGet.k (k := Sum.inr h0) f2; rw [val_in m0] at this; exact this
          have e0 : (hs.map V.str)[0]? = some (.str h0) := by rw [List.getElem?_map, hh0]; rfl
          refine ⟨_, rfl, _, rfl, G, _, rfl, ga, _, rfl, _, rfl, l, _, _, _, rfl, rfl, SqL.of (f1 _ _ hl), atI_nat (j := 0) e0, G, _, rfl, gb, rfl, _, rfl, ?_⟩
          rw [same h hm h0 m0]
          refine ite2 (fun q => absurd q (by simp)) (fun _ => ⟨rfl, _, rfl⟩)
        · rintro σ H4 ⟨rfl, w6, rfl⟩
          refine ⟨_, rfl, fo, refsL zs, prOf H4, rfl, SqL.of f4, fun x hx => ?_, fun ys p hys hsr hp => ?_⟩
          · obtain ⟨t, ht, rfl⟩ := List.mem_map.mp hx
            exact ⟨t.1, rfl, by rw [prOf_at (f5 t ht)]; exact f5 t ht⟩
          · obtain ⟨ws, hws, rfl⟩ := snd_refs hys
            have hpH : H p = none := by
              cases q0 : H p with
              | none => rfl
              | some o => rw [f1 _ _ q0] at hp; cases hp
            have f5' : PrsAt H4 ws := fun t ht => f5 t (hws.mem_iff.mp ht)
            refine k p ws _ hpH (f1.trans (Evl.Ex.new hp)) upd_same (f5'.ex (Evl.Ex.new hp)) ?_ ?_ (fun t ht => f7 t (hws.mem_iff.mp ht))
            · rw [← f6]
              exact hws.map _
            · rw [← prOf_refs f5']
              exact List.pairwise_map.mpr hsr
end
end K11

namespace K11
open PySem PySem.Spec PyProof.Rows L2 Tr Sq Dk
/-! ### the class Village: made of a tree; houses(), near() -/
abbrev FnM (K : PySem.W.Frag) (x q : Str) (st : Stmt) (f : Addr) (fd : FuncData) : Prop := FunD K x q (defArgs st) (defBody st) (defScope st) [] [] f fd
def meth (i : Nat) : Stmt := (C8.clsBody (top 21)).getD i (.Pass ⟨0, 0, 0, 0⟩)
abbrev sInit : Stmt := meth 0
abbrev sHouses : Stmt := meth 1
abbrev sNearM : Stmt := meth 3
/-- a village: its houses in order, its paths in order, what lies beside each -/
structure VilD where
  dx : Addr
  a : Addr
  b : Addr
  d : Addr
  zs : PrL
  ad : Str → Addr
structure Vil (H : Hp) (C v : Addr) (hs : List Str) (ps : Prs) (m : VilD) : Prop where
  at_ : H v = some (.ins C m.dx [("_houses", .ref m.a), ("_paths", .ref m.b), ("_near", .ref m.d)])
  la : H m.a = some (.lst (hs.map V.str))
  lb : H m.b = some (.lst (refsL m.zs))
  pr : PrsAt H m.zs
  eq : m.zs.map (·.2) = ps
  nr : NearAt H m.d hs m.ad (nearL ps)
theorem NearAt.ex {H H' : Hp} {d : Addr} {hs : List Str} {ad : Str → Addr} {g : Str → List Str} (h : NearAt H d hs ad g) (e : Evl.Ex H H') : NearAt H' d hs ad g := ⟨e _ _ h.1, fun x hx => e _ _ (h.2 x hx)⟩
theorem Vil.ex {H H' : Hp} {C v : Addr} {hs : List Str} {ps : Prs} {m : VilD} (h : Vil H C v hs ps m) (e : Evl.Ex H H') : Vil H' C v hs ps m :=
  ⟨e _ _ h.at_, e _ _ h.la, e _ _ h.lb, h.pr.ex e, h.eq, h.nr.ex e⟩
/-- all that a village holds is new -/
structure FreshV (H : Hp) (hs : List Str) (m : VilD) : Prop where
  a : H m.a = none
  b : H m.b = none
  d : H m.d = none
  z : ∀ t ∈ m.zs, H t.1 = none
  ad : ∀ h ∈ hs, H (m.ad h) = none
def spInit (K : PySem.W.Frag) : Sp := fun vs H Q _ => ∃ (v l q C dx : Addr) (hs : List Str) (qs : PrL), vs = [.ref v, .ref l, .ref q] ∧ H v = some (.ins C dx []) ∧ Cls K C ∧ NoAttr K C "_houses" ∧ NoAttr K C "_paths" ∧ NoAttr K C "_near" ∧ H l = some (.lst (hs.map V.str)) ∧ H q = some (.lst (refsL qs)) ∧ PrsAt H qs ∧ Tree hs (qs.map (·.2)) ∧
  hs ≠ [] ∧ hs.length ≤ 12 ∧ qs.length ≤ 12 ∧ (∀ h ∈ hs, h ∈ names12) ∧
  ∀ (H' : Hp) (hs' : List Str) (ps' : Prs) (m : VilD), (∀ b o, b ≠ v → H b = some o → H' b = some o) → Vil H' C v hs' ps' m → hs'.Perm hs → sortedS hs' = true → ps'.Perm ((qs.map (·.2)).map ordP) → ps'.Pairwise (fun x y => Srs.lexT y x = false) → Tree hs' ps' → FreshV H hs' m → Q .non H'
theorem none_of {H H' : Hp} {b : Addr} (h : ∀ o, H b = some o → H' b = some o) (e : H' b = none) : H b = none := by
  cases z : H b with
  | none => rfl
  | some o => rw [h o z] at e; cases e
theorem put2 {x y : V} : putF "_paths" y [(("_houses" : Str), x)] = [(("_houses" : Str), x), (("_paths" : Str), y)] := rfl
theorem put3 {x y z : V} : putF "_near" z [(("_houses" : Str), x), (("_paths" : Str), y)] = [(("_houses" : Str), x), (("_paths" : Str), y), (("_near" : Str), z)] := rfl
theorem ordP_or (q : Str × Str) : ordP q = q ∨ ordP q = (q.2, q.1) := by
  unfold ordP
  split
  · exact .inl rfl
  · exact .inr rfl
section
variable {P : Program} {w : World} {K : PySem.W.Frag} {mg : Str → Option Value} {base : Heap}
theorem scInit : FnScope ["self", "houses", "paths"] ["self", "houses", "paths"] (defScope sInit) := ⟨rfl, rfl, rfl, by decide +kernel, rfl, by decide +kernel, by decide +kernel⟩
theorem ok_init {f fC fP fN : Addr} {fd fdC fdP fdN : FuncData} (F : FnM K "__init__" "Village.__init__" sInit f fd)
    (GC : FnOk P w K mg base CX0 2 fC fdC ["houses"] spCheck) (bC : L2.Binds K fdC ["houses"] []) (kC : PySem.W.keepIn K (.ref fC) = true) (gC : mg "check_houses" = some (.ref fC))
    (GP : FnOk P w K mg base CX0 3 fP fdP ["houses", "paths"] spPathsC) (bP : L2.Binds K fdP ["houses", "paths"] []) (kP : PySem.W.keepIn K (.ref fP) = true) (gP : mg "checked_paths" = some (.ref fP))
    (GN : FnOk P w K mg base CX0 1 fN fdN ["houses", "paths"] spNear) (bN : L2.Binds K fdN ["houses", "paths"] []) (kN : PySem.W.keepIn K (.ref fN) = true) (gN : mg "near_houses" = some (.ref fN))
    (gS : mg "sorted" = none) : FnOk P w K mg base CX0 4 f fd ["self", "houses", "paths"] (spInit K) := by
  refine F.ok scInit (fun vs H Q E h => ?_) (fun cdv A outer s H vs Q E hr h => ?_)
  · obtain ⟨v, l, q, C, dx, hs, qs, rfl, _⟩ := h
    rfl
  · obtain ⟨v, l, q, C, dx, hs, qs, rfl, hv, cl, n1, n2, n3, hl, hq, hP, T, hne, h12, q12, hgood, k⟩ := h
    refine ⟨_, PSs.nox (pss_cons (ps_expr (pe_call GC (hr.mono (by decide)) rfl gC kC bC .nil pass0 (pa_cons (pv 1) pa_nil)))
      (pss_cons (ps_fld (pv 0) (pe_callB cr_sortedS (by rfl) gS (by decide +kernel) (pa_cons (pv 1) pa_nil)) rfl)
      (pss_cons (ps_fld (pv 0) (pe_call GP hr rfl gP kP bP .nil pass0 (pa_cons (pe_fld (pv 0) rfl) (pa_cons (pv 2) pa_nil))) rfl)
      (pss_one (ps_fld (pv 0) (pe_call GN (hr.mono (by decide)) rfl gN kN bN .nil pass0 (pa_cons (pe_fld (pv 0) rfl) (pa_cons (pe_fld (pv 0) rfl) pa_nil))) rfl))))), ?_⟩
    refine ⟨_, rfl, l, hs, rfl, hl, hne, T.nd, Nat.le_trans h12 (by decide), hgood, fun H1 x1 => ?_⟩
    refine ⟨_, rfl, l, hs, rfl, SqL.of (x1 _ _ hl), by omega, fun ys p hys hsr hp => ?_⟩
    have hv1 : H1 v = some (.ins C dx []) := x1 _ _ hv
    have hvp : v ≠ p := ne_of_none hv1 hp
    refine ⟨_, rfl, v, C, dx, [], rfl, by rw [upd_ne hvp]; exact hv1, cl, n1, by decide, ?_⟩
    show tSeq _ _ _ _ (upd (upd H1 p (.lst (ys.map V.str))) v (.ins C dx [("_houses", .ref p)]))
    have keep : ∀ b o, b ≠ v → H b = some o → upd (upd H1 p (.lst (ys.map V.str))) v (.ins C dx [("_houses", .ref p)]) b = some o := fun b o hb e => by
      have := x1 _ _ e
      rw [upd_ne hb, upd_ne (ne_of_none this hp)]
      exact this
    have g1 : upd (upd H1 p (.lst (ys.map V.str))) v (.ins C dx [("_houses", .ref p)]) v = some (.ins C dx [("_houses", .ref p)]) := upd_same
    have g2 : upd (upd H1 p (.lst (ys.map V.str))) v (.ins C dx [("_houses", .ref p)]) p = some (.lst (ys.map V.str)) := by rw [upd_ne hvp.symm]; exact upd_same
    generalize upd (upd H1 p (.lst (ys.map V.str))) v (.ins C dx [("_houses", .ref p)]) = H2 at keep g1 g2
    have hqv : q ≠ v := fun z => by rw [z, hv] at hq; cases hq
    have hqn : ∀ t ∈ qs, t.1 ≠ v := fun t ht z => by have := hP t ht; rw [z, hv] at this; cases this
    have T2 : Tree ys (qs.map (·.2)) := T.perm hys (List.Perm.refl _)
    have hyl : ys.length = hs.length := hys.length_eq
    have yne : ys ≠ [] := fun z => hne (List.length_eq_zero_iff.mp (by rw [← hyl, z]; rfl))
    refine ⟨_, rfl, v, C, dx, _, .ref p, rfl, g1, cl, n1, rfl, _, rfl, p, q, ys, ys, qs, rfl, g2, keep _ _ hqv hq, fun t ht => keep _ _ (hqn t ht) (hP t ht), T2, yne, by omega, by omega, rfl, fun r zs H3 hr3 x3 h3 hP3 hpm hpw hfr => ?_⟩
    have hvr : v ≠ r := ne_of_none g1 hr3
    refine ⟨_, rfl, v, C, dx, [("_houses", .ref p)], rfl, x3 _ _ g1, cl, n2, (by show 1 < 1000; decide), ?_⟩
    rw [put2]
    have k3 : ∀ b o, b ≠ v → H2 b = some o → upd H3 v (.ins C dx [("_houses", .ref p), ("_paths", .ref r)]) b = some o := fun b o hb e => by rw [upd_ne hb]; exact x3 _ _ e
    have k3' : ∀ b o, b ≠ v → H3 b = some o → upd H3 v (.ins C dx [("_houses", .ref p), ("_paths", .ref r)]) b = some o := fun b o hb e => by rw [upd_ne hb]; exact e
    have g4 : upd H3 v (.ins C dx [("_houses", .ref p), ("_paths", .ref r)]) v = some (.ins C dx [("_houses", .ref p), ("_paths", .ref r)]) := upd_same
    generalize upd H3 v (.ins C dx [("_houses", .ref p), ("_paths", .ref r)]) = H4 at k3 k3' g4
    have g5 : H4 p = some (.lst (ys.map V.str)) := k3 _ _ hvp.symm g2
    have g6 : H4 r = some (.lst (refsL zs)) := k3' _ _ hvr.symm h3
    have zn : ∀ t ∈ zs, t.1 ≠ v := fun t ht z => by have := hfr t ht; rw [z, g1] at this; cases this
    have hP4 : PrsAt H4 zs := fun t ht => k3' _ _ (zn t ht) (hP3 t ht)
    have T3 : Tree ys (zs.map (·.2)) := (T2.turn ordP ordP_or).perm (List.Perm.refl _) hpm
    have zl : zs.length = qs.length := by have := hpm.length_eq; rw [List.length_map, List.length_map, List.length_map] at this; exact this
    refine ⟨_, rfl, v, C, dx, _, .ref p, rfl, g4, cl, n1, rfl, _, rfl, v, C, dx, _, .ref r, rfl, g4, cl, n2, rfl, p, r, ys, zs, rfl, g5, g6, hP4, T3.nd, by omega, by omega, fun t ht => T3.mem (.inl (List.mem_map.mpr ⟨t, ht, rfl⟩)), fun d ad H5 hd had x5 hN => ?_⟩
    refine ⟨_, rfl, v, C, dx, [("_houses", .ref p), ("_paths", .ref r)], rfl, x5 _ _ g4, cl, n3, (by show 2 < 1000; decide), ?_⟩
    rw [put3]
    have k5 : ∀ b o, b ≠ v → H5 b = some o → upd H5 v (.ins C dx [("_houses", .ref p), ("_paths", .ref r), ("_near", .ref d)]) b = some o := fun b o hb e => by rw [upd_ne hb]; exact e
    have nd : d ≠ v := (ne_of_none g4 hd).symm
    have nad : ∀ h ∈ ys, ad h ≠ v := fun h hh => (ne_of_none g4 (had h hh)).symm
    refine k _ ys (zs.map (·.2)) ⟨dx, p, r, d, zs, ad⟩ (fun b o hb e => k5 _ _ hb (x5 _ _ (k3 _ _ hb (keep _ _ hb e)))) ⟨upd_same, k5 _ _ hvp.symm (x5 _ _ g5), k5 _ _ hvr.symm (x5 _ _ g6), fun t ht => k5 _ _ (zn t ht) (x5 _ _ (hP4 t ht)), rfl, k5 _ _ nd hN.1, fun h hh => k5 _ _ (nad h hh) (hN.2 h hh)⟩ hys hsr hpm hpw T3 ⟨?_, ?_, ?_, fun t ht => ?_, fun h hh => ?_⟩
    · exact none_of (fun o e => x1 _ _ e) hp
    · exact none_of (fun o e => keep _ _ hvr.symm e) hr3
    · exact none_of (fun o e => k3 _ _ nd (keep _ _ nd e)) hd
    · exact none_of (fun o e => keep _ _ (zn t ht) e) (hfr t ht)
    · exact none_of (fun o e => k3 _ _ (nad h hh) (keep _ _ (nad h hh) e)) (had h hh)
theorem scHouses : FnScope ["self"] ["self"] (defScope sHouses) := ⟨rfl, rfl, rfl, by decide +kernel, rfl, by decide +kernel, by decide +kernel⟩
def spHouses (K : PySem.W.Frag) : Sp := fun vs H Q _ => ∃ (v C : Addr) (hs : List Str) (ps : Prs) (m : VilD), vs = [.ref v] ∧ Cls K C ∧ NoAttr K C "_houses" ∧ Vil H C v hs ps m ∧ ∀ p, H p = none → Q (.ref p) (upd H p (.lst (hs.map V.str)))
theorem ok_houses {f : Addr} {fd : FuncData} (F : FnM K "houses" "Village.houses" sHouses f fd) (gL : mg "list" = none) : FnOk P w K mg base CX0 1 f fd ["self"] (spHouses K) := by
  refine F.ok scHouses (fun vs H Q E h => ?_) (fun cdv A outer s H vs Q E hr h => ?_)
  · obtain ⟨v, C, hs, ps, m, rfl, _⟩ := h
    rfl
  · obtain ⟨v, C, hs, ps, m, rfl, cl, n1, V, k⟩ := h
    refine ⟨_, PSs.nox (pss_one (ps_ret (pe_callTy call_list_of rfl gL (by decide +kernel) (pa_cons (pe_fld (pv 0) rfl) pa_nil)))), ?_⟩
    exact ⟨_, rfl, v, C, _, _, _, rfl, V.at_, cl, n1, rfl, m.a, _, rfl, .inl (SqL.of V.la), fun p hp => k p hp⟩
theorem scNearM : FnScope ["self"] ["self"] (defScope sNearM) := ⟨rfl, rfl, rfl, by decide +kernel, rfl, by decide +kernel, by decide +kernel⟩
def spNearM (K : PySem.W.Frag) : Sp := fun vs H Q _ => ∃ (v C : Addr) (hs : List Str) (ps : Prs) (m : VilD), vs = [.ref v] ∧ Cls K C ∧ NoAttr K C "_near" ∧ Vil H C v hs ps m ∧ Q (.ref m.d) H
theorem ok_nearM {f : Addr} {fd : FuncData} (F : FnM K "near" "Village.near" sNearM f fd) : FnOk P w K mg base CX0 1 f fd ["self"] (spNearM K) := by
  refine F.ok scNearM (fun vs H Q E h => ?_) (fun cdv A outer s H vs Q E hr h => ?_)
  · obtain ⟨v, C, hs, ps, m, rfl, _⟩ := h
    rfl
  · obtain ⟨v, C, hs, ps, m, rfl, cl, n1, V, k⟩ := h
    refine ⟨_, PSs.nox (pss_one (ps_ret (pe_fld (pv 0) rfl))), ?_⟩
    exact ⟨_, rfl, v, C, _, _, _, rfl, V.at_, cl, n1, rfl, k⟩
end
end K11

/-! Going outward from a root, level by level; going on row by row. Law-independent, no machine. -/
namespace Tr
open PySem
abbrev Lv := List (Str × Option Str)
/-- the next level -/
def nxt (ps : Prs) (A : Lv) : Lv := A.flatMap fun q => ((nearL ps q.1).filter fun y => decide (some y ≠ q.2)).map fun y => (y, some q.1)
structure Lev (hs : List Str) (r : Str) (f : Str → Option Str) (i : Nat) (A : Lv) : Prop where
  ok : ∀ q ∈ A, q.1 ∈ hs ∧ q.2 = f q.1 ∧ ∃ l, Pth f r q.1 l ∧ l.length = i + 1
  nd : (A.map (·.1)).Nodup
theorem nxt_mem {hs : List Str} {ps : Prs} {r : Str} {f : Str → Option Str} {i : Nat} {A : Lv} (T : Tree hs ps) (R : Rt hs ps r f) (L : Lev hs r f i A) {y : Str} {b : Option Str} (h : (y, b) ∈ nxt ps A) : ∃ q ∈ A, b = some q.1 ∧ f y = some q.1 ∧ Adj ps q.1 y := by
  unfold nxt at h
  obtain ⟨q, hq, h2⟩ := List.mem_flatMap.mp h
  obtain ⟨z, hz, e⟩ := List.mem_map.mp h2
  cases e
  obtain ⟨h3, h4⟩ := List.mem_filter.mp hz
  have h4 : some y ≠ q.2 := of_decide_eq_true h4
  have ha := nearL_mem.mp h3
  refine ⟨q, hq, rfl, ?_, ha⟩
  rcases R.one _ _ ha with e | e
  · rw [← (L.ok q hq).2.1] at e
    exact absurd e.symm h4
  · exact e
theorem nxt_fst (ps : Prs) (A : Lv) : (nxt ps A).map (·.1) = A.flatMap fun q => (nearL ps q.1).filter fun y => decide (some y ≠ q.2) := by
  unfold nxt
  rw [List.map_flatMap]
  congr 1
  funext q
  rw [List.map_map]
  exact List.map_id _
theorem Lev.next {hs : List Str} {ps : Prs} {r : Str} {f : Str → Option Str} {i : Nat} {A : Lv} (T : Tree hs ps) (R : Rt hs ps r f) (L : Lev hs r f i A) : Lev hs r f (i + 1) (nxt ps A) := by
  refine ⟨fun q hq => ?_, ?_⟩
  · obtain ⟨y, b⟩ := q
    obtain ⟨q, hq2, rfl, e, ha⟩ := nxt_mem T R L hq
    obtain ⟨l, p, hl⟩ := (L.ok q hq2).2.2
    exact ⟨(T.mem ha).2, e.symm, _, .cons e p, by rw [List.length_cons, hl]⟩
  · have key : ∀ B : Lv, (∀ q ∈ B, q ∈ A) → (B.map (·.1)).Nodup → ((nxt ps B).map (·.1)).Nodup := by
      intro B
      induction B with
      | nil => intro _ _; exact List.nodup_nil
      | cons q B ih =>
        intro hB hn
        rw [nxt_fst, List.flatMap_cons, ← nxt_fst]
        rw [List.map_cons] at hn
        refine List.nodup_append.mpr ⟨(T.near q.1).filter _, ih (fun z hz => hB z (List.mem_cons_of_mem _ hz)) (List.nodup_cons.mp hn).2, fun y hy z hz e => ?_⟩
        subst e
        have L2 : Lev hs r f i (q :: B) := ⟨fun z hz => L.ok z (hB z hz), by rw [List.map_cons]; exact hn⟩
        have m1 : (y, some q.1) ∈ nxt ps (q :: B) := by
          unfold nxt
          rw [List.flatMap_cons]
          exact List.mem_append_left _ (List.mem_map.mpr ⟨y, hy, rfl⟩)
        obtain ⟨_, _, e1, e2, _⟩ := nxt_mem T R L2 m1
        rw [← e1] at e2
        obtain ⟨⟨y', b⟩, hb, e3⟩ := List.mem_map.mp hz
        have e3 : y' = y := e3
        subst e3
        obtain ⟨q2, hq2, e4, e5, _⟩ := nxt_mem T R (⟨fun z hz => L.ok z (hB z (List.mem_cons_of_mem _ hz)), (List.nodup_cons.mp hn).2⟩ : Lev hs r f i B) hb
        rw [e2] at e5
        have := Option.some.inj e5
        exact (List.nodup_cons.mp hn).1 (by rw [this]; exact List.mem_map.mpr ⟨q2, hq2, rfl⟩)
    exact key A (fun _ h => h) L.nd
theorem Lev.len {hs : List Str} {r : Str} {f : Str → Option Str} {i : Nat} {A : Lv} (L : Lev hs r f i A) : A.length ≤ hs.length := by
  have := nodup_le (m := hs) L.nd (fun x hx => by
    obtain ⟨q, hq, rfl⟩ := List.mem_map.mp hx
    exact (L.ok q hq).1)
  rwa [List.length_map] at this
theorem Lev.out {hs : List Str} {ps : Prs} {r : Str} {f : Str → Option Str} {i : Nat} {A : Lv} (T : Tree hs ps) (R : Rt hs ps r f) (hr : r ∈ hs) (L : Lev hs r f i A) (h : A ≠ []) : i < hs.length := by
  cases A with
  | nil => exact absurd rfl h
  | cons q B =>
    obtain ⟨_, _, l, p, hl⟩ := L.ok q List.mem_cons_self
    have := R.len T p hr
    omega
theorem Lev.sub {hs : List Str} {r : Str} {f : Str → Option Str} {i : Nat} {A B : Lv} (L : Lev hs r f i A) (h : B.Sublist A) : Lev hs r f i B := ⟨fun q hq => L.ok q (h.mem hq), List.Nodup.sublist (h.map _) L.nd⟩
theorem nxt_snoc (ps : Prs) (A : Lv) (q : Str × Option Str) : nxt ps (A ++ [q]) = nxt ps A ++ ((nearL ps q.1).filter fun y => decide (some y ≠ q.2)).map fun y => (y, some q.1) := by
  unfold nxt
  rw [List.flatMap_append, List.flatMap_cons, List.flatMap_nil, List.append_nil]
theorem Tree.near_le {hs : List Str} {ps : Prs} (T : Tree hs ps) (x : Str) : (nearL ps x).length ≤ hs.length := nodup_le (T.near x) fun _ hy => (T.mem (nearL_mem.mp hy)).2
/-- all that is told so far -/
structure Tot (hs : List Str) (r : Str) (f : Str → Option Str) (M A : Lv) : Prop where
  ok : ∀ q ∈ M, q.1 ∈ hs ∧ q.2 = f q.1
  top : (r, none) ∈ M
  cl : ∀ q ∈ M, q ∈ A ∨ ∀ y, f y = some q.1 → (y, some q.1) ∈ M
  hd : M.head? = some (r, none)
  sub : ∀ q ∈ A, q ∈ M
  be : ∀ i q, M[i + 1]? = some q → ∃ b, q.2 = some b ∧ b ∈ (M.take (i + 1)).map (·.1)
theorem Tot.next {hs : List Str} {ps : Prs} {r : Str} {f : Str → Option Str} {i : Nat} {M A : Lv} (T : Tree hs ps) (R : Rt hs ps r f) (L : Lev hs r f i A) (t : Tot hs r f M A) : Tot hs r f (M ++ nxt ps A) (nxt ps A) := by
  refine ⟨fun q hq => ?_, List.mem_append_left _ t.top, fun q hq => ?_, ?_, fun q hq => List.mem_append_right _ hq, fun i q hq => ?_⟩
  · rcases List.mem_append.mp hq with hq | hq
    · exact t.ok q hq
    · obtain ⟨a, b, _⟩ := (L.next T R).ok q hq
      exact ⟨a, b⟩
  · rcases List.mem_append.mp hq with hq | hq
    · refine .inr fun y hy => ?_
      rcases t.cl q hq with h | h
      · refine List.mem_append_right _ ?_
        unfold nxt
        refine List.mem_flatMap.mpr ⟨q, h, List.mem_map.mpr ⟨y, List.mem_filter.mpr ⟨nearL_mem.mpr (R.adj _ _ hy).symm, decide_eq_true fun e => ?_⟩, rfl⟩⟩
        rw [(L.ok q h).2.1] at e
        -- f q.1 = some y and f y = some q.1
        obtain ⟨l, p, _⟩ := (L.ok q h).2.2
        have c1 := (Pth.cons e.symm (.cons hy p)).uniq R.none p
        have := congrArg List.length c1
        simp at this
        omega
      · exact List.mem_append_left _ (h y hy)
    · exact .inl hq
  · rw [List.head?_append, t.hd]
    rfl
  · by_cases lt : i + 1 < M.length
    · rw [List.getElem?_append_left lt] at hq
      rw [List.take_append_of_le_length (by omega)]
      exact t.be i q hq
    · rw [List.getElem?_append_right (by omega)] at hq
      obtain ⟨y, b⟩ := q
      obtain ⟨q', m', rfl, _, _⟩ := nxt_mem T R L (List.mem_of_getElem? hq)
      refine ⟨q'.1, rfl, List.mem_map.mpr ⟨q', ?_, rfl⟩⟩
      rw [List.take_append]
      refine List.mem_append_left _ ?_
      rw [List.take_of_length_le (by omega)]
      exact t.sub q' m'
theorem Tot.all {hs : List Str} {ps : Prs} {r : Str} {f : Str → Option Str} {M : Lv} (R : Rt hs ps r f) (t : Tot hs r f M []) : ∀ x ∈ hs, (x, f x) ∈ M := by
  intro x hx
  obtain ⟨l, p⟩ := R.way x hx
  clear hx
  induction p with
  | nil => rw [R.none]; exact t.top
  | cons e p ih =>
    rename_i x' y' l'
    rcases t.cl _ ih with h | h
    · exact absurd h (by simp)
    · rw [e]
      exact h x' e
end Tr

namespace K11
open PySem PySem.Spec PyProof.Rows L2 Tr Sq Dk
/-! ### is_house, rooted, steps_towards -/
/-- the class: its methods -/
structure VC (P : Program) (w : World) (K : PySem.W.Frag) (mg : Str → Option Value) (base : Heap) (C : Addr) : Prop where
  cl : Cls K C
  n1 : NoAttr K C "_houses"
  n2 : NoAttr K C "_paths"
  n3 : NoAttr K C "_near"
  hs : ∃ f fd, Meth K C "houses" f ∧ FnOk P w K mg base CX0 1 f fd ["self"] (spHouses K) ∧ L2.Binds K fd ["self"] []
  nr : ∃ f fd, Meth K C "near" f ∧ FnOk P w K mg base CX0 1 f fd ["self"] (spNearM K) ∧ L2.Binds K fd ["self"] []
abbrev sIsHouse : Stmt := top 27
abbrev sRooted : Stmt := top 29
abbrev sSteps : Stmt := top 30
def isHouse (hs : List Str) : V → Bool
  | .str z => decide (z ∈ hs)
  | _ => false
def spIsHouse (C : Addr) : Sp := fun vs H Q _ => ∃ (v : Addr) (x : V) (n : String) (hs : List Str) (ps : Prs) (m : VilD), vs = [.ref v, x] ∧ Vil H C v hs ps m ∧ Pl H x n ∧ Q (.bl (isHouse hs x)) H
def optV : Option Str → V
  | none => .non
  | some z => .str z
/-- told pairs: a house, the one before it -/
abbrev LvL : Type := List (Addr × Str × Option Str)
def LvAt (H : Hp) (M : LvL) : Prop := ∀ t ∈ M, H t.1 = some (.tup [.str t.2.1, optV t.2.2])
def lvRefs (M : LvL) : List V := M.map fun t => .ref t.1
theorem LvAt.ex {H H' : Hp} {M : LvL} (h : LvAt H M) (e : Evl.Ex H H') : LvAt H' M := fun t ht => e _ _ (h t ht)
def spRooted (C : Addr) : Sp := fun vs H Q _ => ∃ (v : Addr) (r : Str) (hs : List Str) (ps : Prs) (m : VilD) (f : Str → Option Str), vs = [.ref v, .str r] ∧ Vil H C v hs ps m ∧ Tree hs ps ∧ r ∈ hs ∧ hs.length ≤ 30 ∧ Rt hs ps r f ∧
  ∀ (q : Addr) (M : LvL) (H' : Hp), Evl.Ex H H' → H q = none → H' q = some (.lst (lvRefs M)) → LvAt H' M → (∀ t ∈ M, t.2.2 = f t.2.1 ∧ t.2.1 ∈ hs) → (∀ x ∈ hs, ∃ t ∈ M, t.2.1 = x) → M.length ≤ 1000 →
    (M.map (·.2)).head? = some (r, none) → (∀ i q, (M.map (·.2))[i + 1]? = some q → ∃ b, q.2 = some b ∧ b ∈ ((M.map (·.2)).take (i + 1)).map (·.1)) → Q (.ref q) H'
def spSteps (C : Addr) : Sp := fun vs H Q _ => ∃ (v : Addr) (r : Str) (hs : List Str) (ps : Prs) (m : VilD) (f : Str → Option Str), vs = [.ref v, .str r] ∧ Vil H C v hs ps m ∧ Tree hs ps ∧ r ∈ hs ∧ hs.length ≤ 30 ∧ Rt hs ps r f ∧
  ∀ (d : Addr) (ks : List Str) (H' : Hp), Evl.Ex H H' → H d = none → H' d = some (.dK (tab ks fun x => optV (f x))) → (∀ x ∈ hs, x ∈ ks) → Q (.ref d) H'
/-- while going outward: so many levels left -/
def wRoot (H : Hp) (v d to : Addr) (r : Str) (hs : List Str) (f : Str → Option Str) (mm : Nat) (σ : L2.St) (H' : Hp) : Prop := ∃ (i aA : Nat) (M A : LvL) (v5 v6 v7 v8 : Option V), mm + i = hs.length + 1 ∧ σ = [some (.ref v), some (.str r), some (.ref d), some (.ref to), some (.ref aA), v5, v6, v7, v8] ∧ Evl.Ex H H' ∧ H' to = some (.lst (lvRefs M)) ∧ H' aA = some (.lst (lvRefs A)) ∧ aA ≠ to ∧
  LvAt H' M ∧ LvAt H' A ∧ Lev hs r f i (A.map (·.2)) ∧ Tot hs r f (M.map (·.2)) (A.map (·.2)) ∧ M.length ≤ 30 * (i + 1) ∧ i ≤ hs.length
/-- the level that is being told: so many gone through -/
def inRoot (H3 : Hp) (D : Addr) (ps : Prs) (A : Lv) (more : Lv) (H' : Hp) : Prop := Evl.Ex H3 H' ∧ ∃ B : LvL, H' D = some (.lst (lvRefs B)) ∧ LvAt H' B ∧ B.map (·.2) = nxt ps A ++ more
section
variable {P : Program} {w : World} {K : PySem.W.Frag} {mg : Str → Option Value} {base : Heap}
theorem scIsHouse : FnScope ["village", "thing"] ["village", "thing"] (defScope sIsHouse) := ⟨rfl, rfl, rfl, by decide +kernel, rfl, by decide +kernel, by decide +kernel⟩
theorem ok_isHouse {C f : Addr} {fd : FuncData} (F : FnP K "is_house" sIsHouse f fd) (c : VC P w K mg base C) (gI : mg "isinstance" = none) (gT : mg "str" = none) : FnOk P w K mg base CX0 2 f fd ["village", "thing"] (spIsHouse C) := by
  obtain ⟨fN, fdN, mN, GN, bN⟩ := c.nr
  refine F.ok scIsHouse (fun vs H Q E h => ?_) (fun cdv A outer s H vs Q E hr h => ?_)
  · obtain ⟨v, x, n, hs, ps, m, rfl, _⟩ := h
    rfl
  · obtain ⟨v, x, n, hs, ps, m, rfl, V, hx, k⟩ := h
    refine ⟨_, PSs.nox (pss_one (ps_ret (pe_and (pe_callB call_isi rfl gI (by decide +kernel) (pa_cons (pv 1) (pa_cons (pe_bltn (v := .ty "str") rfl gT (by decide +kernel) rfl) pa_nil)))
      (pe_one (pe_cmp (pc_din (hu_of hr) (pv 1) (pe_meth0 (pv 0) c.cl mN GN hr bN .nil pass0)) rfl))))), ?_⟩
    refine ⟨_, rfl, _, _, _, _, _, rfl, .ty _, hx.ty, hx.one "str", _, rfl, ?_⟩
    cases hx with
    | str z =>
      refine iteT ⟨_, rfl, _, rfl, v, m.dx, _, rfl, V.at_, rfl, v, C, hs, ps, m, rfl, c.cl, c.n3, V, m.d, _, rfl, DGet.k (k := Sum.inr z) V.nr.1, ?_⟩
      rw [val_tab]
      have k : Q (.bl (decide (z ∈ hs))) H := k
      by_cases hz : z ∈ hs
      · rw [if_pos hz]
        rw [decide_eq_true hz] at k
        exact k
      · rw [if_neg hz]
        rw [decide_eq_false hz] at k
        exact k
    | _ => exact iteF k
theorem scRooted : FnScope ["village", "root", "near", "told", "ahead", "reached", "house", "back", "far"] ["village", "root"] (defScope sRooted) := ⟨rfl, rfl, rfl, by decide +kernel, rfl, by decide +kernel, by decide +kernel⟩
theorem ok_rooted {C f : Addr} {fd : FuncData} (F : FnP K "rooted" sRooted f fd) (c : VC P w K mg base C) : FnOk P w K mg base CX0 2 f fd ["village", "root"] (spRooted C) := by
  obtain ⟨fN, fdN, mN, GN, bN⟩ := c.nr
  refine F.ok scRooted (fun vs H Q E h => ?_) (fun cdv A outer s H vs Q E hr h => ?_)
  · obtain ⟨v, r, hs, ps, m, f, rfl, _⟩ := h
    rfl
  · obtain ⟨v, r, hs, ps, m, f, rfl, Vh, T, hr0, h30, R, k⟩ := h
    refine' ⟨_, PSs.nox (pss_cons (ps_set (i := 2) scRooted.nd rfl (.inr rfl) (pe_meth0 (pv 0) c.cl mN GN hr bN .nil pass0))
      (pss_cons (ps_set (i := 3) scRooted.nd rfl (.inl rfl) (pe_lst (pa_cons (pe_tup (pa_cons (pv 1) (pa_cons pe_non pa_nil))) pa_nil)))
      (pss_cons (ps_set (i := 4) scRooted.nd rfl (.inl rfl) (pe_lst (pa_cons (pe_tup (pa_cons (pv 1) (pa_cons pe_non pa_nil))) pa_nil)))
      (pss_cons (ps_while PassesOwn.never (pt_truth (pv 4) (fun _ => rfl)) (pss_cons ?lc (pss_cons (ps_expr (pe_bm PySem.F.plainAttrs_list PySem.F.slot_list_extend PySem.F.type_list_extend mt_extend (pv 3) (pa_cons (pv 5) pa_nil))) (pss_one (ps_set (i := 4) scRooted.nd rfl (.inl rfl) (pv 5))))))
      (pss_one (ps_ret (pv 3))))))), ?rd⟩
    case lc =>
      exact ps_setLc2 (i := 5) (own := [("house", 6), ("back", 7), ("far", 8)]) (vs1 := [8]) (g := gTup K 2 (gCons (gName 6) (gCons (gName 7) gNil))) (g1 := gName 8) (tt := tYes) (tt1 := tTest (tOp rNe (tVar 8) (tVar 7))) (te := tTup (tCons (tVar 8) (tCons (tVar 6) tNil))) (wi1 := iList K (tDGet (tVar 2) (tVar 6))) (by rfl) scRooted.nd rfl rfl (sw_true rfl rfl rfl (by decide +kernel)) (pi_list (pv 4))
        (blkOk_by (own := [("house", 6), ("back", 7), ("far", 8)]) (N := ["village", "root", "near", "told", "ahead", "reached", "house", "back", "far"]) (sc := defScope sRooted) (by decide +kernel)) (by decide)
        (fun _ _ _ _ _ => pg_tup rfl (pgs_cons (pg_name (i := 6) scRooted.nd rfl (.inl rfl)) (pgs_cons (pg_name (i := 7) scRooted.nd rfl (.inl rfl)) pgs_nil))) (fun _ _ _ _ _ => pts_nil)
        (fun _ _ _ _ _ => pi_list (pe_dget (hu_of hr) (pv 2) (pv 6) (fun _ _ => rfl))) (fun _ _ _ _ _ => pg_name (i := 8) scRooted.nd rfl (.inl rfl)) (fun _ _ _ _ _ => pts_one (pt_cmpR op_ne (pv 8) (pv 7) (nomark _))) (fun _ _ _ _ _ => pe_tup (pa_cons (pv 8) (pa_cons (pv 6) pa_nil)))
    refine ⟨_, rfl, v, m.dx, _, rfl, Vh.at_, rfl, v, C, hs, ps, m, rfl, c.cl, c.n3, Vh, ?_⟩
    refine ⟨_, rfl, by show 2 ≤ sizeLine; decide, fun t1 ht1 => ⟨by show 1 ≤ sizeLine; decide, fun to hto => ?_⟩⟩
    refine ⟨_, rfl, by show 2 ≤ sizeLine; decide, fun t2 ht2 => ⟨by show 1 ≤ sizeLine; decide, fun ao hao => ?_⟩⟩
    have ne1 : t1 ≠ to := ne_of_none upd_same hto
    have htoH : H to = none := by rw [upd_ne ne1.symm] at hto; exact hto
    have x1 : Evl.Ex H (upd (upd H t1 (.tup [.str r, .non])) to (.lst [.ref t1])) := (Evl.Ex.new ht1).trans (Evl.Ex.new hto)
    have a1 : upd (upd H t1 (.tup [.str r, .non])) to (.lst [.ref t1]) t1 = some (.tup [.str r, .non]) := by rw [upd_ne ne1]; exact upd_same
    have a2 : upd (upd H t1 (.tup [.str r, .non])) to (.lst [.ref t1]) to = some (.lst [.ref t1]) := upd_same
    generalize upd (upd H t1 (.tup [.str r, .non])) to (.lst [.ref t1]) = H1 at ht2 hao x1 a1 a2
    have x2 : Evl.Ex H1 (upd (upd H1 t2 (.tup [.str r, .non])) ao (.lst [.ref t2])) := (Evl.Ex.new ht2).trans (Evl.Ex.new hao)
    have ne2 : t2 ≠ ao := ne_of_none upd_same hao
    have b1 : upd (upd H1 t2 (.tup [.str r, .non])) ao (.lst [.ref t2]) t2 = some (.tup [.str r, .non]) := by rw [upd_ne ne2]; exact upd_same
    have b2 : upd (upd H1 t2 (.tup [.str r, .non])) ao (.lst [.ref t2]) ao = some (.lst [.ref t2]) := upd_same
    have nta : to ≠ ao := fun z => by rw [← z, upd_ne (fun q => by rw [q, ht2] at a2; cases a2), a2] at hao; cases hao
    generalize upd (upd H1 t2 (.tup [.str r, .non])) ao (.lst [.ref t2]) = H2 at x2 b1 b2
    have n1 : 1 ≤ hs.length := List.length_pos_of_mem hr0
    refine ⟨wRoot H v m.d to r hs f, ⟨hs.length + 1, 0, ao, [(t1, r, none)], [(t2, r, none)], none, none, none, none, rfl, rfl, x1.trans x2, x2 _ _ a2, b2, nta.symm, ?_, ?_, ?_, ?_, by show 1 ≤ 30 * (0 + 1); decide, Nat.zero_le _⟩, ?_⟩
    · intro t ht
      simp only [List.mem_singleton] at ht
      subst ht
      exact x2 _ _ a1
    · intro t ht
      simp only [List.mem_singleton] at ht
      subst ht
      exact b1
    · refine ⟨fun q hq => ?_, by simp⟩
      simp only [List.map_cons, List.map_nil, List.mem_singleton] at hq
      subst hq
      exact ⟨hr0, R.none.symm, [r], .nil, rfl⟩
    · refine ⟨fun q hq => ?_, by simp, fun q hq => .inl (by simpa using hq), rfl, fun q hq => hq, fun i q hq => by simp at hq⟩
      simp only [List.map_cons, List.map_nil, List.mem_singleton] at hq
      subst hq
      exact ⟨hr0, R.none.symm⟩
    · rintro mm σ H3 ⟨i, aA, M, A, v5, v6, v7, v8, hmm, rfl, x3, c1, c2, c3, c4, c5, L, t, c6, c7⟩
      refine ⟨_, rfl, _, .inl ⟨_, SqL.of c2, rfl⟩, ?_⟩
      have toH : ∀ {A' : LvL}, M.map (·.2) ≠ [] → True := fun _ => trivial
      cases hA : A with
      | nil =>
        subst hA
        refine iteF ⟨_, rfl, k to M H3 x3 htoH c1 c4 (fun t' ht' => ?_) (fun x hx => ?_) ?_ t.hd t.be⟩
        · have := t.ok t'.2 (List.mem_map.mpr ⟨t', ht', rfl⟩)
          exact ⟨this.2, this.1⟩
        · obtain ⟨t', ht', e⟩ := List.mem_map.mp (t.all R x hx)
          exact ⟨t', ht', by rw [e]⟩
        · have : 30 * (i + 1) ≤ 30 * 31 := Nat.mul_le_mul_left _ (by omega)
          omega
      | cons q0 A0 =>
        rw [← hA]
        have hAne : A ≠ [] := by rw [hA]; simp
        have hil : i < hs.length := L.out T R hr0 (fun z => hAne (List.map_eq_nil_iff.mp z))
        have e0 : (!(lvRefs A).isEmpty) = true := by rw [hA]; rfl
        rw [e0]
        refine iteT ⟨wRoot H v m.d to r hs f (mm - 1), fun σ' H' q => ⟨mm - 1, by omega, q⟩, ?_⟩
        refine ⟨_, rfl, aA, rfl, ⟨_, SqL.of c2⟩, fun D hD => ?_⟩
        have hDH : H D = none := by
          cases q1 : H D with
          | none => rfl
          | some o => rw [x3 _ _ q1] at hD; cases hD
        refine out_it (walk_list (xs := lvRefs A)) (fun j H' => inRoot H3 D ps ((A.map (·.2)).take j) [] H') ⟨Evl.Ex.new hD, [], upd_same, fun t' ht' => absurd ht' (by simp), rfl⟩ (fun j H' _ hp => SqL.of (hp.1 _ _ c2)) (fun j x H4 H5 hj hp hy => ?_) (fun H4 hp => ?_)
        · obtain ⟨rfl, hx⟩ := hy
          unfold lvRefs at hj hx
          rw [List.length_map] at hj
          obtain ⟨q, hq⟩ := getD_of hj
          rw [List.getElem?_map, hq] at hx
          cases hx
          obtain ⟨qa, h, b⟩ := q
          have hqm := List.mem_of_getElem? hq
          obtain ⟨hm, hb, _⟩ := L.ok (h, b) (List.mem_map.mpr ⟨_, hqm, rfl⟩)
          have tk : (A.map (·.2)).take (j + 1) = (A.map (·.2)).take j ++ [(h, b)] := by rw [List.take_add_one, List.getElem?_map, hq]; rfl
          have hqt : H5 qa = some (.tup [.str h, optV b]) := hp.1 _ _ (c5 _ hqm)
          have x5 : Evl.Ex H H5 := x3.trans hp.1
          have V5 := Vh.ex x5
          refine ⟨qa, _, rfl, SqT.of hqt, rfl, _, _, rfl, _, _, rfl, rfl, rfl, ?_⟩
          have gn : DGet H5 m.d (kV (Sum.inr h)) (some (.ref (m.ad h))) := by have := DGet.k (k := Sum.inr h) V5.nr.1; rw [val_in hm] at this; exact this
          refine ⟨_, rfl, _, rfl, m.d, _, rfl, gn, m.ad h, rfl, ⟨_, SqL.of (V5.nr.2 h hm)⟩, ?_⟩
          refine out_it (walk_list (xs := (nearL ps h).map V.str)) (fun k H' => inRoot H3 D ps ((A.map (·.2)).take j) ((((nearL ps h).take k).filter fun y => decide (some y ≠ b)).map fun y => (y, some h)) H') hp (fun k H' _ hp' => SqL.of ((Vh.ex (x3.trans hp'.1)).nr.2 h hm)) (fun k x H6 H7 hk hp' hy => ?_) (fun H6 hp' => ?_)
          · obtain ⟨rfl, hx⟩ := hy
            rw [List.length_map] at hk
            obtain ⟨y, hyy⟩ := getD_of hk
            rw [List.getElem?_map, hyy] at hx
            cases hx
            obtain ⟨x6, B, d1, d2, d3⟩ := hp'
            have tk2 : (nearL ps h).take (k + 1) = (nearL ps h).take k ++ [y] := by rw [List.take_add_one, hyy]; rfl
            have hsc : scal (.str y) (optV b) = true := by cases b <;> rfl
            have hde : decide (L2.V.str y = optV b) = decide (some y = b) := by
              cases b with
              | none => simp [optV]
              | some z => simp [optV]
            have hBl : B.length < sizeLine := by
              have e1 := congrArg List.length d3
              rw [List.length_map, List.length_append, List.length_map] at e1
              have e2 := ((L.sub (List.take_sublist j _)).next T R).len
              have e3 : (((nearL ps h).take k).filter fun y => decide (some y ≠ b)).length ≤ (nearL ps h).length := Nat.le_trans (List.length_filter_le _ _) (by rw [List.length_take]; omega)
              have e4 := T.near_le h
              exact Nat.lt_of_le_of_lt (show B.length ≤ 60 by omega) (by decide)
            refine ⟨rfl, _, rfl, _, rfl, hsc, _, rfl, ?_⟩
            rw [hde]
            by_cases hyb : some y = b
            · rw [decide_eq_true hyb]
              refine iteF ⟨x6, B, d1, d2, ?_⟩
              rw [d3, tk2, List.filter_append]
              have : ([y].filter fun y => decide (some y ≠ b)) = [] := by simp [hyb]
              rw [this, List.append_nil]
            · rw [decide_eq_false hyb]
              refine iteT ⟨_, rfl, _, rfl, by show 2 ≤ sizeLine; decide, fun p hp2 => ?_⟩
              have hDp : D ≠ p := ne_of_none d1 hp2
              refine ⟨_, by rw [upd_ne hDp]; exact d1, by unfold lvRefs; rw [List.length_map]; exact hBl, ex_upd (x6.trans (Evl.Ex.new hp2)) hD, B ++ [(p, y, some h)], by unfold lvRefs; rw [upd_same, List.map_append]; rfl, fun t' ht' => ?_, ?_⟩
              · rcases List.mem_append.mp ht' with ht' | ht'
                · have := d2 t' ht'
                  rw [upd_ne (fun z => by rw [z, d1] at this; cases this), upd_ne (ne_of_none this hp2)]
                  exact this
                · simp only [List.mem_singleton] at ht'
                  subst ht'
                  rw [upd_ne hDp.symm]
                  exact upd_same
              · rw [List.map_append, d3, tk2, List.filter_append]
                have : ([y].filter fun y => decide (some y ≠ b)) = [y] := by simp [hyb]
                rw [this, List.map_append, List.append_assoc]
                rfl
          · rw [List.length_map, List.take_length] at hp'
            rw [tk]
            unfold inRoot at hp' ⊢
            rw [nxt_snoc, List.append_nil]
            exact hp'
        · unfold lvRefs at hp
          rw [List.length_map, List.take_of_length_le (by rw [List.length_map]; exact Nat.le_refl _)] at hp
          obtain ⟨x4, B, d1, d2, d3⟩ := hp
          rw [List.append_nil] at d3
          have hBl : B.length ≤ 30 := by
            have e1 := congrArg List.length d3
            rw [List.length_map] at e1
            have e2 := (L.next T R).len
            omega
          have c1' := x4 _ _ c1
          have toD : to ≠ D := ne_of_none c1 hD
          refine ⟨_, rfl, .inl ⟨rfl, _, SqL.of c1'⟩, _, rfl, to, D, _, _, rfl, rfl, c1', d1, ?_, ?_⟩
          · unfold lvRefs
            rw [List.length_map, List.length_map]
            have : 30 * (i + 1) ≤ 30 * 31 := Nat.mul_le_mul_left _ (by omega)
            exact Nat.le_trans (show _ ≤ 1000 by omega) (by decide)
          · refine ⟨_, rfl, i + 1, D, M ++ B, B, _, _, _, _, by omega, rfl, ex_upd (x3.trans x4) htoH, by unfold lvRefs; rw [upd_same, List.map_append], by rw [upd_ne toD.symm]; exact d1, toD.symm, fun t' ht' => ?_, fun t' ht' => ?_, ?_, ?_, ?_, by omega⟩
            · have : H4 t'.1 = some (.tup [.str t'.2.1, optV t'.2.2]) := by
                rcases List.mem_append.mp ht' with ht' | ht'
                · exact x4 _ _ (c4 t' ht')
                · exact d2 t' ht'
              rw [upd_ne (fun z => by rw [z, c1'] at this; cases this)]
              exact this
            · have := d2 t' ht'
              rw [upd_ne (fun z => by rw [z, c1'] at this; cases this)]
              exact this
            · rw [d3]
              exact L.next T R
            · rw [List.map_append, d3]
              exact t.next T R L
            · rw [List.length_append]
              omega
end
end K11

namespace K11
open PySem PySem.Spec PyProof.Rows L2 Tr Sq Dk
section
variable {P : Program} {w : World} {K : PySem.W.Frag} {mg : Str → Option Value} {base : Heap}
theorem scSteps : FnScope ["village", "root", "house", "back"] ["village", "root"] (defScope sSteps) := ⟨rfl, rfl, rfl, by decide +kernel, rfl, by decide +kernel, by decide +kernel⟩
theorem ok_steps {C f fR : Addr} {fd fdR : FuncData} (F : FnP K "steps_towards" sSteps f fd) (GR : FnOk P w K mg base CX0 2 fR fdR ["village", "root"] (spRooted C)) (bR : L2.Binds K fdR ["village", "root"] []) (kR : PySem.W.keepIn K (.ref fR) = true) (gR : mg "rooted" = some (.ref fR)) :
    FnOk P w K mg base CX0 3 f fd ["village", "root"] (spSteps C) := by
  refine F.ok scSteps (fun vs H Q E h => ?_) (fun cdv A outer s H vs Q E hr h => ?_)
  · obtain ⟨v, r, hs, ps, m, f, rfl, _⟩ := h
    rfl
  · obtain ⟨v, r, hs, ps, m, f, rfl, Vh, T, hr0, h30, R, k⟩ := h
    refine ⟨_, PSs.nox (pss_one (ps_ret (pe_dc (own := [("house", 2), ("back", 3)]) (g := gTup K 2 (gCons (gName 2) (gCons (gName 3) gNil))) (tt := tYes) (tk := tVar 2) (tv := tVar 3) rfl scSteps.nd (pi_list (pe_call GR hr rfl gR kR bR .nil pass0 (pa_cons (pv 0) (pa_cons (pv 1) pa_nil))))
        (blkOk_by (own := [("house", 2), ("back", 3)]) (N := ["village", "root", "house", "back"]) (sc := defScope sSteps) (by decide +kernel))
        (fun _ _ _ _ _ => pg_tup rfl (pgs_cons (pg_name (i := 2) scSteps.nd rfl (.inl rfl)) (pgs_cons (pg_name (i := 3) scSteps.nd rfl (.inl rfl)) pgs_nil))) (fun _ _ _ _ _ => pts_nil) (fun _ _ _ _ _ => pv 2) (fun _ _ _ _ _ => pv 3)))), ?_⟩
    refine ⟨_, rfl, _, rfl, v, r, hs, ps, m, f, rfl, Vh, T, hr0, h30, R, fun q M H1 x1 hq hq1 hM hMf hall hMl _ _ => ?_⟩
    refine ⟨q, rfl, ⟨_, SqL.of hq1⟩, fun D hD => ?_⟩
    have hDH : H D = none := by
      cases q1 : H D with
      | none => rfl
      | some o => rw [x1 _ _ q1] at hD; cases hD
    refine dc_it (walk_list (xs := lvRefs M)) (fun i H' => Evl.Ex H1 H' ∧ ∃ ks : List Str, H' D = some (.dK (tab ks fun x => optV (f x))) ∧ (∀ t ∈ M.take i, t.2.1 ∈ ks) ∧ ks.length ≤ i) ?_ ?_ ?_ ?_
    · exact ⟨Evl.Ex.new hD, [], upd_same, fun t ht => absurd ht (by simp), Nat.le_refl _⟩
    · intro i H' _ hp
      exact SqL.of (hp.1 _ _ hq1)
    · rintro i x H2 H3 hi ⟨x2, ks, e1, e2, e3⟩ ⟨rfl, hx⟩
      unfold lvRefs at hi hx
      rw [List.length_map] at hi
      obtain ⟨t, ht⟩ := getD_of hi
      rw [List.getElem?_map, ht] at hx
      cases hx
      obtain ⟨a, h, b⟩ := t
      have tm := List.mem_of_getElem? ht
      have hb : b = f h := (hMf _ tm).1
      have hat := x2 _ _ (hM _ tm)
      have tk : M.take (i + 1) = M.take i ++ [(a, h, b)] := by rw [List.take_add_one, ht]; rfl
      refine ⟨a, _, rfl, SqT.of hat, rfl, _, _, rfl, _, _, rfl, rfl, rfl, _, rfl, _, rfl, _, Sum.inr h, rfl, e1, ?_, ex_upd x2 hD, ?_⟩
      · rw [tab_length]
        exact Nat.lt_of_le_of_lt (show ks.length ≤ 1000 by omega) (by decide)
      · by_cases hk : h ∈ ks
        · refine ⟨ks, ?_, fun t' ht' => ?_, by omega⟩
          · rw [upd_same, put_old hk]
            congr 2
            exact tab_congr fun x _ => by
              show (if x = h then optV b else optV (f x)) = optV (f x)
              split
              · rename_i e; rw [e, hb]
              · rfl
          · rw [tk] at ht'
            rcases List.mem_append.mp ht' with ht' | ht'
            · exact e2 t' ht'
            · simp only [List.mem_singleton] at ht'
              rw [ht']; exact hk
        · refine ⟨ks ++ [h], ?_, fun t' ht' => ?_, by rw [List.length_append]; simp; exact e3⟩
          · rw [upd_same, put_new hk]
            congr 2
            exact tab_congr fun x _ => by
              show (if x = h then optV b else optV (f x)) = optV (f x)
              split
              · rename_i e; rw [e, hb]
              · rfl
          · rw [tk] at ht'
            rcases List.mem_append.mp ht' with ht' | ht'
            · exact List.mem_append_left _ (e2 t' ht')
            · simp only [List.mem_singleton] at ht'
              rw [ht']; simp
    · rintro H2 ⟨x2, ks, e1, e2, e3⟩
      have : M.take (lvRefs M).length = M := by
        unfold lvRefs
        rw [List.length_map, List.take_length]
      rw [this] at e2
      refine k D ks H2 (x1.trans x2) hDH e1 fun x hx => ?_
      obtain ⟨t, ht, e⟩ := hall x hx
      rw [← e]
      exact e2 t ht
end
end K11

namespace K11
open PySem PySem.Spec PyProof.Rows L2 Tr Sq Dk Exs
/-! ### ask_letters, first_no_house, round_flaw, ask_round -/
abbrev sFnh : Stmt := top 34
abbrev sFlaw : Stmt := top 35
abbrev sAskR : Stmt := top 36
/-- a list or a tuple of things, or neither -/
inductive RX (H : Hp) : V → Option (List V) → Prop
  | lst {a : Addr} {xs : List V} (h : H a = some (.lst xs)) (hp : ∀ y ∈ xs, ∃ n, Pl H y n) (hl : xs.length ≤ 1000) : RX H (.ref a) (some xs)
  | tup {a : Addr} {xs : List V} (h : H a = some (.tup xs)) (hp : ∀ y ∈ xs, ∃ n, Pl H y n) (hl : xs.length ≤ 1000) : RX H (.ref a) (some xs)
  | not {x : V} {n : String} (h : Pl H x n) (hn : lstB n = false) : RX H x none
theorem RX.ex {H H' : Hp} {x : V} {o : Option (List V)} (h : RX H x o) (e : Evl.Ex H H') : RX H' x o := by
  cases h with
  | lst h hp hl => exact .lst (e _ _ h) (fun y hy => (hp y hy).imp fun n q => q.ext e) hl
  | tup h hp hl => exact .tup (e _ _ h) (fun y hy => (hp y hy).imp fun n q => q.ext e) hl
  | not h hn => exact .not (h.ext e) hn
/-- its kind -/
theorem RX.pl {H : Hp} {x : V} {o : Option (List V)} (h : RX H x o) : ∃ n, Pl H x n ∧ lstB n = o.isSome := by
  cases h with
  | lst h hp hl => exact ⟨"list", .lst h, rfl⟩
  | tup h hp hl => exact ⟨"tuple", .tup h, rfl⟩
  | not h hn => exact ⟨_, h, hn⟩
theorem RX.sq {K : PySem.W.Frag} {H : Hp} {x : V} {xs : List V} (h : RX H x (some xs)) : ∃ t a, x = .ref a ∧ (∀ H', Evl.Ex H H' → SqK K H' t a xs) ∧ (∀ y ∈ xs, ∃ n, Pl H y n) ∧ xs.length ≤ 1000 := by
  cases h with
  | @lst a _ h hp hl => exact ⟨false, a, rfl, fun H' e => SqL.of (e _ _ h), hp, hl⟩
  | @tup a _ h hp hl => exact ⟨true, a, rfl, fun H' e => SqT.of (e _ _ h), hp, hl⟩
theorem sqk_or {K : PySem.W.Frag} {H : Hp} {t : Bool} {a : Addr} {xs : List V} (h : SqK K H t a xs) : SqL K H a xs ∨ SqT K H a xs := by
  cases t with
  | true => exact .inr h
  | false => exact .inl h
def fnh (hs : List Str) (xs : List V) : V := match xs.findIdx? fun y => !isHouse hs y with
  | some i => .int (i : Nat)
  | none => .non
def fnhV (hs : List Str) : Option (List V) → V
  | none => .int 0
  | some xs => fnh hs xs
def flawV (hs : List Str) : Option (List V) → V
  | none => .int 0
  | some xs => if xs.length = 0 then .int 0 else fnh hs xs
theorem fnh_some {hs : List Str} {xs : List V} {i : Nat} {y : V} (h : ∀ j z, j < i → xs[j]? = some z → isHouse hs z = true) (hy : xs[i]? = some y) (hn : isHouse hs y = false) : fnh hs xs = .int (i : Nat) := by
  have : xs.findIdx? (fun y => !isHouse hs y) = some i := by
    rw [List.findIdx?_eq_some_iff_getElem]
    have hi : i < xs.length := (List.getElem?_eq_some_iff.mp hy).1
    refine ⟨hi, ?_, fun j hj => ?_⟩
    · have : xs[i] = y := Option.some.inj (by rw [← hy, List.getElem?_eq_getElem hi])
      rw [this, hn]
      rfl
    · have hj' : j < xs.length := by omega
      rw [h j xs[j] hj (List.getElem?_eq_getElem hj')]
      decide
  unfold fnh
  rw [this]
theorem fnh_none {hs : List Str} {xs : List V} (h : ∀ j z, j < xs.length → xs[j]? = some z → isHouse hs z = true) : fnh hs xs = .non := by
  have : xs.findIdx? (fun y => !isHouse hs y) = none := by
    rw [List.findIdx?_eq_none_iff]
    intro x hx
    obtain ⟨j, hj, rfl⟩ := List.getElem_of_mem hx
    rw [h j _ hj (List.getElem?_eq_getElem hj)]
    rfl
  unfold fnh
  rw [this]
def spFnh (C : Addr) : Sp := fun vs H Q _ => ∃ (v : Addr) (x : V) (o : Option (List V)) (hs : List Str) (ps : Prs) (m : VilD), vs = [.ref v, x] ∧ Vil H C v hs ps m ∧ RX H x o ∧ ∀ H', Evl.Ex H H' → Q (fnhV hs o) H'
def spFlaw (C : Addr) : Sp := fun vs H Q _ => ∃ (v : Addr) (x : V) (o : Option (List V)) (hs : List Str) (ps : Prs) (m : VilD), vs = [.ref v, x] ∧ Vil H C v hs ps m ∧ RX H x o ∧ ∀ H', Evl.Ex H H' → Q (flawV hs o) H'
def spAskR (C CR : Addr) : Sp := fun vs H Q E => ∃ (v : Addr) (x : V) (o : Option (List V)) (hs : List Str) (ps : Prs) (m : VilD), vs = [.ref v, x] ∧ Vil H C v hs ps m ∧ RX H x o ∧
  (flawV hs o = .non → ∀ H', Evl.Ex H H' → Q .non H') ∧ (flawV hs o ≠ .non → ∀ H' d, Evl.Ex H H' → H' d = none → E (.ref CR) (some d) (upd H' d (.xd [("index", flawV hs o)])))
section
variable {P : Program} {w : World} {K : PySem.W.Frag} {mg : Str → Option Value} {base : Heap}
theorem scFnh : FnScope ["village", "thing", "index", "house"] ["village", "thing"] (defScope sFnh) := ⟨rfl, rfl, rfl, by decide +kernel, rfl, by decide +kernel, by decide +kernel⟩
theorem ok_fnh {C f fH fL : Addr} {fd fdH fdL : FuncData} (F : FnP K "first_no_house" sFnh f fd) (GH : FnOk P w K mg base CX0 2 fH fdH ["village", "thing"] (spIsHouse C)) (bH : L2.Binds K fdH ["village", "thing"] []) (kH : PySem.W.keepIn K (.ref fH) = true) (gH : mg "is_house" = some (.ref fH))
    (GL : FnOk P w K mg base CX0 1 fL fdL ["thing"] spIsLst) (bL : L2.Binds K fdL ["thing"] []) (kL : PySem.W.keepIn K (.ref fL) = true) (gLs : mg "is_listed" = some (.ref fL)) (gE : mg "enumerate" = none) : FnOk P w K mg base CX0 3 f fd ["village", "thing"] (spFnh C) := by
  refine F.ok scFnh (fun vs H Q E h => ?_) (fun cdv A outer s H vs Q E hr h => ?_)
  · obtain ⟨v, x, o, hs, ps, m, rfl, _⟩ := h
    rfl
  · obtain ⟨v, x, o, hs, ps, m, rfl, Vh, hx, k⟩ := h
    refine ⟨_, PSs.nox (pss_cons (ps_if (pt_not (pt_val (pe_call GL (hr.mono (by decide)) rfl gLs kL bL .nil pass0 (pa_cons (pv 1) pa_nil)))) (pss_one (ps_ret pe_int)) pss_nil)
      (pss_cons (ps_for PassesOwn.never rfl (pi_enumA rfl gE (pa_cons (pv 1) pa_nil)) (pg_tup rfl (pgs_cons (pg_name (i := 2) scFnh.nd rfl (.inl rfl)) (pgs_cons (pg_name (i := 3) scFnh.nd rfl (.inl rfl)) pgs_nil)))
        (pss_one (ps_if (pt_not (pt_val (pe_call GH hr rfl gH kH bH .nil pass0 (pa_cons (pv 0) (pa_cons (pv 3) pa_nil))))) (pss_one (ps_ret (pv 2))) pss_nil)))
      (pss_one (ps_ret pe_non)))), ?_⟩
    obtain ⟨n, hn, hlb⟩ := hx.pl
    refine ⟨_, rfl, x, n, rfl, hn, fun H1 e1 => ⟨_, rfl, ?_⟩⟩
    cases o with
    | none =>
      rw [hlb]
      exact iteT (k _ e1)
    | some xs =>
      rw [hlb]
      refine iteF ?_
      obtain ⟨t, a, rfl, hq, hpl, hl1⟩ := hx.sq (K := K)
      refine ⟨_, rfl, t, a, xs, rfl, hq _ e1, ?_⟩
      refine for_it (walk_enumA (xs := xs)) (fun i σ H' => ∃ v1 v2, σ = [some (.ref v), some (.ref a), v1, v2] ∧ Evl.Ex H H' ∧ ∀ j z, j < i → xs[j]? = some z → isHouse hs z = true) ⟨none, none, rfl, e1, fun j z hj => absurd hj (Nat.not_lt_zero j)⟩ (fun i σ H' _ hp => ?_) (fun i y σ H' H'' hi hp hy => ?_) (fun σ H' hp => ?_)
      · obtain ⟨_, _, _, e2, _⟩ := hp
        exact hq _ e2
      · obtain ⟨v1, v2, rfl, e2, hn⟩ := hp
        obtain ⟨T, u, z, rfl, hT, rfl, hu, hz⟩ := hy
        injection hu with hu
        subst hu
        have hz : xs[i]? = some z := hz
        have e3 : Evl.Ex H (upd H' T (.tup [.int (i : Nat), z])) := e2.trans (Evl.Ex.new hT)
        obtain ⟨mm, hm⟩ := hpl z (List.mem_of_getElem? hz)
        refine ⟨T, _, rfl, SqT.of upd_same, rfl, _, _, rfl, _, _, rfl, rfl, _, rfl, _, rfl, v, z, mm, hs, ps, m, rfl, Vh.ex e3, hm.ext e3, _, rfl, ?_⟩
        cases hnz : isHouse hs z with
        | false =>
          have k : ∀ H', Evl.Ex H H' → Q (fnh hs xs) H' := k
          rw [fnh_some hn hz hnz] at k
          exact iteT ⟨_, rfl, k _ e3⟩
        | true =>
          refine iteF ⟨_, _, rfl, e3, fun j y hj hy => ?_⟩
          by_cases hji : j < i
          · exact hn j y hji hy
          · have : j = i := by omega
            subst this
            have : y = z := Option.some.inj (hy.symm.trans hz)
            rw [this, hnz]
      · obtain ⟨v1, v2, rfl, e2, hn⟩ := hp
        have k : ∀ H', Evl.Ex H H' → Q (fnh hs xs) H' := k
        rw [fnh_none hn] at k
        exact k _ e2
theorem scFlaw : FnScope ["village", "thing"] ["village", "thing"] (defScope sFlaw) := ⟨rfl, rfl, rfl, by decide +kernel, rfl, by decide +kernel, by decide +kernel⟩
theorem ok_flaw {C f fF fL : Addr} {fd fdF fdL : FuncData} (F : FnP K "round_flaw" sFlaw f fd) (GF : FnOk P w K mg base CX0 3 fF fdF ["village", "thing"] (spFnh C)) (bF : L2.Binds K fdF ["village", "thing"] []) (kF : PySem.W.keepIn K (.ref fF) = true) (gF : mg "first_no_house" = some (.ref fF))
    (GL : FnOk P w K mg base CX0 1 fL fdL ["thing"] spIsLst) (bL : L2.Binds K fdL ["thing"] []) (kL : PySem.W.keepIn K (.ref fL) = true) (gLs : mg "is_listed" = some (.ref fL)) (gN : mg "len" = none) : FnOk P w K mg base CX0 4 f fd ["village", "thing"] (spFlaw C) := by
  refine F.ok scFlaw (fun vs H Q E h => ?_) (fun cdv A outer s H vs Q E hr h => ?_)
  · obtain ⟨v, x, o, hs, ps, m, rfl, _⟩ := h
    rfl
  · obtain ⟨v, x, o, hs, ps, m, rfl, Vh, hx, k⟩ := h
    refine ⟨_, PSs.nox (pss_cons (ps_if (PW.pt (pw_and (pt_val (pe_call GL (hr.mono (by decide)) rfl gLs kL bL .nil pass0 (pa_cons (pv 1) pa_nil))) (pw_and1 (pt_cmpR op_eq (pe_callB call_len_seq (by rfl) gN PySem.boot_len (pa_cons (pv 1) pa_nil)) pe_int (nomark _))))) (pss_one (ps_ret pe_int)) pss_nil)
      (pss_one (ps_ret (pe_call GF hr rfl gF kF bF .nil pass0 (pa_cons (pv 0) (pa_cons (pv 1) pa_nil)))))), ?_⟩
    obtain ⟨n, hn, hlb⟩ := hx.pl
    refine ⟨_, rfl, x, n, rfl, hn, fun H1 e1 => ⟨_, rfl, ?_⟩⟩
    cases o with
    | none =>
      rw [hlb]
      exact iteF (iteF ⟨_, rfl, _, rfl, v, x, none, hs, ps, m, rfl, Vh.ex e1, hx.ex e1, fun H2 e2 => k _ (e1.trans e2)⟩)
    | some xs =>
      rw [hlb]
      obtain ⟨t, a, rfl, hq, hpl, hl1⟩ := hx.sq (K := K)
      refine iteT ⟨_, rfl, a, xs, rfl, sqk_or (hq _ e1), rfl, _, rfl, ?_⟩
      have k : ∀ H', Evl.Ex H H' → Q (if xs.length = 0 then .int 0 else fnh hs xs) H' := k
      by_cases h0 : xs.length = 0
      · rw [if_pos h0] at k
        rw [h0]
        exact iteT (k _ e1)
      · rw [if_neg h0] at k
        exact ite2 (fun q => absurd (V.int.inj (of_decide_eq_true q)) (by omega)) (fun _ => ⟨_, rfl, _, rfl, v, _, some xs, hs, ps, m, rfl, Vh.ex e1, hx.ex e1, fun H2 e2 => k _ (e1.trans e2)⟩)
theorem scAskR : FnScope ["village", "row", "index"] ["village", "row"] (defScope sAskR) := ⟨rfl, rfl, rfl, by decide +kernel, rfl, by decide +kernel, by decide +kernel⟩
theorem flaw_or (hs : List Str) (o : Option (List V)) : flawV hs o = .non ∨ ∃ i : Nat, flawV hs o = .int (i : Nat) := by
  cases o with
  | none => exact .inr ⟨0, rfl⟩
  | some xs =>
    show (if xs.length = 0 then V.int 0 else fnh hs xs) = .non ∨ ∃ i : Nat, (if xs.length = 0 then V.int 0 else fnh hs xs) = .int (i : Nat)
    split
    · exact .inr ⟨0, rfl⟩
    · unfold fnh
      split
      · exact .inr ⟨_, rfl⟩
      · exact .inl rfl
theorem ok_askR {C CR f f1 fF : Addr} {fd fdF : FuncData} (F : FnP K "ask_round" sAskR f fd) (T1 : Err P w K mg base "BadRound" "index" CR f1) (GF : FnOk P w K mg base CX0 4 fF fdF ["village", "thing"] (spFlaw C)) (bF : L2.Binds K fdF ["village", "thing"] []) (kF : PySem.W.keepIn K (.ref fF) = true) (gF : mg "round_flaw" = some (.ref fF)) :
    FnOk P w K mg base (L2.CX P w) 5 f fd ["village", "row"] (spAskR C CR) := by
  refine F.ok scAskR (fun vs H Q E h => ?_) (fun cdv A outer s H vs Q E hr h => ?_)
  · obtain ⟨v, x, o, hs, ps, m, rfl, _⟩ := h
    rfl
  · obtain ⟨v, x, o, hs, ps, m, rfl, Vh, hx, k1, k2⟩ := h
    refine ⟨_, pss_cons (ps_set (i := 2) scAskR.nd rfl (.inl rfl) (pe_call GF hr rfl gF kF bF .nil pass0 (pa_cons (pv 0) (pa_cons (pv 1) pa_nil))))
      (pss_one (ps_if (pt_cmpR op_notN (pv 2) pe_non (nomark _)) (pss_one (ps_raise1 rfl T1 (hr.mono (by decide)) (takes_of rfl rfl rfl rfl) rfl (pv 2))) pss_nil)), ?_⟩
    refine ⟨_, rfl, _, rfl, v, x, o, hs, ps, m, rfl, Vh, hx, fun H1 x1 => ?_⟩
    refine ⟨_, rfl, rfl, _, rfl, ?_⟩
    rcases flaw_or hs o with e | ⟨i, e⟩
    · rw [e]
      exact iteF (k1 e H1 x1)
    · refine ite2 (fun _ => ⟨_, rfl, raiseP fun d hd => k2 (by rw [e]; intro z; cases z) H1 d x1 hd⟩) (fun q => absurd ?_ q)
      rw [e]
      rfl
end
theorem flaw_none {hs : List Str} {o : Option (List V)} (h : flawV hs o = .non) : ∃ rs : List Str, o = some (rs.map V.str) ∧ rs ≠ [] ∧ ∀ r ∈ rs, r ∈ hs := by
  cases o with
  | none => cases h
  | some xs =>
    have h : (if xs.length = 0 then V.int 0 else fnh hs xs) = .non := h
    by_cases h0 : xs.length = 0
    · rw [if_pos h0] at h
      cases h
    · rw [if_neg h0] at h
      unfold fnh at h
      cases hf : xs.findIdx? (fun y => !isHouse hs y) with
      | some i => rw [hf] at h; cases h
      | none =>
        have all : ∀ y ∈ xs, isHouse hs y = true := fun y hy => by
          have := List.findIdx?_eq_none_iff.mp hf y hy
          simpa using this
        have e : ∀ ys : List V, (∀ y ∈ ys, isHouse hs y = true) → (ys.map strV).map V.str = ys ∧ ∀ r ∈ ys.map strV, r ∈ hs := by
          intro ys
          induction ys with
          | nil => intro _; exact ⟨rfl, fun r hr => by simp at hr⟩
          | cons y t ih =>
            intro hy
            obtain ⟨e1, e2⟩ := ih (fun z hz => hy z (List.mem_cons_of_mem _ hz))
            have h1 := hy y List.mem_cons_self
            cases y with
            | str z =>
              refine ⟨by rw [List.map_cons, List.map_cons, e1]; rfl, fun r hr => ?_⟩
              rw [List.map_cons] at hr
              rcases List.mem_cons.mp hr with rfl | hr
              · exact of_decide_eq_true h1
              · exact e2 r hr
            | _ => cases h1
        obtain ⟨e1, e2⟩ := e xs all
        refine ⟨xs.map strV, by rw [e1], fun z => h0 ?_, e2⟩
        have := congrArg List.length z
        simpa using this
theorem flaw_strs {hs rs : List Str} (h : rs ≠ []) (k : ∀ r ∈ rs, r ∈ hs) : flawV hs (some (rs.map V.str)) = .non := by
  show (if (rs.map V.str).length = 0 then V.int 0 else fnh hs (rs.map V.str)) = .non
  rw [if_neg (by rw [List.length_map]; exact fun z => h (List.length_eq_zero_iff.mp z))]
  refine fnh_none fun j z hj hz => ?_
  rw [List.getElem?_map] at hz
  obtain ⟨r, hr, rfl⟩ := Option.map_eq_some_iff.mp hz
  exact decide_eq_true (k r (List.mem_of_getElem? hr))
def cntV (rs : List Str) : Str → V := fun h => .int (rs.count h : Nat)
end K11

/-! Walks: ways put together. Law-independent, no machine. -/
namespace Tr
open PySem
/-- all ways of a tree -/
structure Ways (hs : List Str) (ps : Prs) (fr : Str → Str → Option Str) (way : Str → Str → List Str) : Prop where
  rt : ∀ r ∈ hs, Rt hs ps r (fr r)
  pth : ∀ a ∈ hs, ∀ r ∈ hs, Pth (fr r) r a (way a r)
theorem Tree.ways {hs : List Str} {ps : Prs} (T : Tree hs ps) : ∃ fr way, Ways hs ps fr way := by
  have h1 : ∀ r, ∃ f, r ∈ hs → Rt hs ps r f := fun r => by
    by_cases h : r ∈ hs
    · obtain ⟨f, R⟩ := T.root h
      exact ⟨f, fun _ => R⟩
    · exact ⟨fun _ => none, fun z => absurd z h⟩
  obtain ⟨fr, hfr⟩ := Classical.axiomOfChoice h1
  have h2 : ∀ q : Str × Str, ∃ l, q.1 ∈ hs → q.2 ∈ hs → Pth (fr q.2) q.2 q.1 l := fun q => by
    by_cases h : q.1 ∈ hs ∧ q.2 ∈ hs
    · obtain ⟨l, p⟩ := (hfr q.2 h.2).way q.1 h.1
      exact ⟨l, fun _ _ => p⟩
    · exact ⟨[], fun a b => absurd ⟨a, b⟩ h⟩
  obtain ⟨wy, hwy⟩ := Classical.axiomOfChoice h2
  exact ⟨fr, fun a r => wy (a, r), hfr, fun a ha r hr => hwy (a, r) ha hr⟩
/-- on from a house, to one after another -/
def wkFrom (way : Str → Str → List Str) : Str → List Str → List Str
  | _, [] => []
  | a, h :: t => (way a h).tail ++ wkFrom way h t
theorem wkFrom_snoc (way : Str → Str → List Str) (h : Str) : ∀ (pre : List Str) (a : Str), wkFrom way a (pre ++ [h]) = wkFrom way a pre ++ (way (pre.getLastD a) h).tail
  | [], a => by simp [wkFrom]
  | b :: t, a => by
    rw [List.cons_append, wkFrom, wkFrom, wkFrom_snoc way h t b, List.append_assoc]
    congr 3
    cases t <;> rfl
theorem Ways.tail_last {hs : List Str} {ps : Prs} {fr : Str → Str → Option Str} {way : Str → Str → List Str} (W : Ways hs ps fr way) {a h : Str} (ha : a ∈ hs) (hh : h ∈ hs) : ∃ l, way a h = a :: l ∧ (a :: l).getLast? = some h := by
  obtain ⟨l, e⟩ := (W.pth a ha h hh).head
  exact ⟨l, e, by rw [← e]; exact (W.pth a ha h hh).last⟩
theorem Ways.same {hs : List Str} {ps : Prs} {fr : Str → Str → Option Str} {way : Str → Str → List Str} (W : Ways hs ps fr way) {a : Str} (ha : a ∈ hs) : way a a = [a] := (W.pth a ha a ha).uniq (W.rt a ha).none .nil
theorem Ways.len {hs : List Str} {ps : Prs} {fr : Str → Str → Option Str} {way : Str → Str → List Str} (T : Tree hs ps) (W : Ways hs ps fr way) {a h : Str} (ha : a ∈ hs) (hh : h ∈ hs) : (way a h).length ≤ hs.length := (W.rt h hh).len T (W.pth a ha h hh) hh
theorem Ways.wk_len {hs : List Str} {ps : Prs} {fr : Str → Str → Option Str} {way : Str → Str → List Str} (T : Tree hs ps) (W : Ways hs ps fr way) : ∀ (l : List Str) (a : Str), a ∈ hs → (∀ x ∈ l, x ∈ hs) → (wkFrom way a l).length ≤ hs.length * l.length
  | [], _, _, _ => Nat.le_refl _
  | h :: t, a, ha, hl => by
    have hh := hl h List.mem_cons_self
    have h1 := W.len T ha hh
    have h2 := Ways.wk_len T W t h hh (fun x hx => hl x (List.mem_cons_of_mem _ hx))
    rw [wkFrom, List.length_append, List.length_tail, List.length_cons, Nat.mul_succ]
    omega
theorem Ways.wk_mem {hs : List Str} {ps : Prs} {fr : Str → Str → Option Str} {way : Str → Str → List Str} (T : Tree hs ps) (W : Ways hs ps fr way) : ∀ (l : List Str) (a : Str), a ∈ hs → (∀ x ∈ l, x ∈ hs) → ∀ x ∈ wkFrom way a l, x ∈ hs
  | [], _, _, _, x, hx => by simp [wkFrom] at hx
  | h :: t, a, ha, hl, x, hx => by
    have hh := hl h List.mem_cons_self
    rw [wkFrom] at hx
    rcases List.mem_append.mp hx with hx | hx
    · exact (W.rt h hh).mem T (W.pth a ha h hh) hh x (List.mem_of_mem_tail hx)
    · exact Ways.wk_mem T W t h hh (fun x hx => hl x (List.mem_cons_of_mem _ hx)) x hx
/-- where one stands -/
theorem Ways.wk_last {hs : List Str} {ps : Prs} {fr : Str → Str → Option Str} {way : Str → Str → List Str} (W : Ways hs ps fr way) : ∀ (l : List Str) (a : Str), a ∈ hs → (∀ x ∈ l, x ∈ hs) → (a :: wkFrom way a l).getLast? = some (l.getLastD a)
  | [], _, _, _ => rfl
  | h :: t, a, ha, hl => by
    have hh := hl h List.mem_cons_self
    obtain ⟨m, e, q⟩ := W.tail_last ha hh
    have ih := Ways.wk_last W t h hh (fun x hx => hl x (List.mem_cons_of_mem _ hx))
    rw [wkFrom, e]
    show (a :: (m ++ wkFrom way h t)).getLast? = _
    rw [List.getLastD_cons]
    cases hw : wkFrom way h t with
    | nil =>
      rw [hw] at ih
      have ih : some h = some (t.getLastD h) := ih
      rw [List.append_nil, q]
      exact ih
    | cons b c =>
      rw [hw] at ih
      rw [List.getLast?_cons_cons] at ih
      rw [← ih, ← List.cons_append, List.getLast?_append]
      cases hb : (b :: c).getLast? with
      | none => simp at hb
      | some z => rfl
end Tr

namespace K11
open PySem PySem.Spec PyProof.Rows L2 Tr Sq
/-! ### _law_v_village, _law_v_round -/
abbrev sVill : Stmt := top 64
abbrev sRound : Stmt := top 68
def spVill : Sp := fun vs H Q _ => ∃ (p c : Addr) (n most : Nat), vs = [.ref p, .int (most : Nat)] ∧ StrAt H p c n ∧ n + 200 ≤ 1000000000 ∧ 1 ≤ most ∧ most ≤ 12 ∧
  ∀ (t a b : Addr) (hs : List Str) (qs : PrL) (H' : Hp), H t = none → H a = none → H b = none → (∀ t ∈ qs, H t.1 = none) → H' t = some (.tup [.ref a, .ref b]) → H' a = some (.lst (hs.map V.str)) → H' b = some (.lst (refsL qs)) → PrsAt H' qs → Tree hs (qs.map (·.2)) → hs ≠ [] → hs.length ≤ most → (∀ h ∈ hs, h ∈ names12) → qs.length + 1 = hs.length → Kp p c H H' → StrAt H' p c (n + 200) → Q (.ref t) H'
def spRound : Sp := fun vs H Q _ => ∃ (p c l : Addr) (n most : Nat) (hs : List Str), vs = [.ref p, .ref l, .int (most : Nat)] ∧ StrAt H p c n ∧ n + 200 ≤ 1000000000 ∧ 1 ≤ most ∧ most ≤ 100 ∧ H l = some (.lst (hs.map V.str)) ∧ hs ≠ [] ∧ hs.length ≤ 1000 ∧
  ∀ (q : Addr) (rs : List Str) (H' : Hp), H q = none → H' q = some (.lst (rs.map V.str)) → rs ≠ [] → rs.length ≤ most → (∀ r ∈ rs, r ∈ hs) → Kp p c H H' → StrAt H' p c (n + 200) → Q (.ref q) H'
section
variable {P : Program} {w : World} {K : PySem.W.Frag} {mg : Str → Option Value} {base : Heap}
theorem scVill : FnScope ["stream", "most", "houses"] ["stream", "most"] (defScope sVill) := ⟨rfl, rfl, rfl, by decide +kernel, rfl, by decide +kernel, by decide +kernel⟩
theorem ok_vill {f fD fM fN fP : Addr} {fd fdD fdM fdN fdP : FuncData} (F : FnP K "_law_v_village" sVill f fd) (GD : FnOk P w K mg base CX0 1 fD fdD ["stream", "many"] spDraw) (bD : L2.Binds K fdD ["stream", "many"] []) (kD : PySem.W.keepIn K (.ref fD) = true) (gD : mg "_law_draw" = some (.ref fD))
    (GM : FnOk P w K mg base CX0 2 fM fdM ["stream", "some"] (spMixed K)) (bM : L2.Binds K fdM ["stream", "some"] []) (kM : PySem.W.keepIn K (.ref fM) = true) (gM : mg "_law_mixed" = some (.ref fM))
    (GN : FnOk P w K mg base CX0 3 fN fdN ["stream", "many"] spNames) (bN : L2.Binds K fdN ["stream", "many"] []) (kN : PySem.W.keepIn K (.ref fN) = true) (gN : mg "_law_v_names" = some (.ref fN))
    (GP : FnOk P w K mg base CX0 3 fP fdP ["stream", "houses"] spPaths) (bP : L2.Binds K fdP ["stream", "houses"] []) (kP : PySem.W.keepIn K (.ref fP) = true) (gP : mg "_law_v_paths" = some (.ref fP)) : FnOk P w K mg base CX0 4 f fd ["stream", "most"] spVill := by
  refine F.ok scVill (fun vs H Q E h => ?_) (fun cdv A outer s H vs Q E hr h => ?_)
  · obtain ⟨p, c, n, most, rfl, _⟩ := h
    rfl
  · obtain ⟨p, c, n, most, rfl, hS, hn, hm1, hm2, k⟩ := h
    refine ⟨_, PSs.nox (pss_cons (ps_set (i := 2) scVill.nd rfl (.inl rfl) (pe_call GN hr rfl gN kN bN .nil pass0 (pa_cons (pv 0) (pa_cons (pe_op op_add pe_int (pe_call GD (hr.mono (by decide)) rfl gD kD bD .nil pass0 (pa_cons (pv 0) (pa_cons (pv 1) pa_nil)))) pa_nil))))
      (pss_one (ps_ret (pe_tup (pa_cons (pe_call GM (hr.mono (by decide)) rfl gM kM bM .nil pass0 (pa_cons (pv 0) (pa_cons (pv 2) pa_nil))) (pa_cons (pe_call GP hr rfl gP kP bP .nil pass0 (pa_cons (pv 0) (pa_cons (pv 2) pa_nil))) pa_nil)))))), ?_⟩
    refine ⟨_, rfl, _, rfl, _, rfl, p, c, n, (most : Int), rfl, hS, by omega, by omega, by omega, fun d H1 d0 d1 hK1 hS1 => ?_⟩
    obtain ⟨j, rfl⟩ : ∃ j : Nat, d = (j : Int) := ⟨d.toNat, by omega⟩
    refine ⟨_, _, rfl, rfl, p, c, n + 1, 1 + j, by show [V.ref p, V.int (1 + (j : Int))] = _; rw [show (1 : Int) + (j : Int) = ((1 + j : Nat) : Int) by omega], hS1, by omega, by omega, by omega, fun l hs0 H2 hl hl2 hlen hnd hgood hK2 hS2 => ?_⟩
    have hne : hs0 ≠ [] := fun z => by rw [z] at hlen; simp at hlen; omega
    obtain ⟨hlp, hlc⟩ := strs_nep hl2 hne hS2
    have hlH : H l = none := hK1.fresh hS1 hl
    refine ⟨_, rfl, _, rfl, p, c, l, n + 1 + 12, hs0.map V.str, rfl, hS2, by rw [List.length_map]; omega, .inl (SqL.of hl2), by rw [List.length_map]; omega, fun a ys H3 ha ha3 hp3 hK3 hS3 => ?_⟩
    obtain ⟨hs, hperm, rfl⟩ := perm_strs hp3
    have haH : H a = none := (hK1.trans hK2).fresh hS2 ha
    have hl3 := hK3 _ _ hl2 hlp hlc
    rw [List.length_map] at hS3
    have hne2 : hs ≠ [] := fun z => hne (List.length_eq_zero_iff.mp (by rw [← hperm.length_eq, z]; rfl))
    obtain ⟨hap, hac⟩ := strs_nep ha3 hne2 hS3
    refine ⟨_, rfl, _, rfl, p, c, l, n + 1 + 12 + hs0.length, hs0, rfl, hS3, by omega, hl3, hne, by omega, hnd, fun b qs H4 hb hb4 hP4 hPf T hql hK4 hS4 => ?_⟩
    refine ⟨by show 2 ≤ sizeLine; decide, fun t ht => ?_⟩
    have K4 := ((hK1.trans hK2).trans hK3).trans hK4
    have ha4 := hK4 _ _ ha3 hap hac
    refine k t a b hs qs _ (K4.fresh hS4 ht) haH (((hK1.trans hK2).trans hK3).fresh hS3 hb) (fun t' ht' => ((hK1.trans hK2).trans hK3).fresh hS3 (hPf t' ht')) upd_same ?_ ?_ (fun t' ht' => ?_) (T.perm hperm (List.Perm.refl _)) hne2 (by rw [hperm.length_eq]; omega) (fun h hh => hgood h (hperm.mem_iff.mp hh)) (by rw [hperm.length_eq]; exact hql) (K4.new ht) ((hS4.new ht).mono (by omega))
    · rw [upd_ne (ne_of_none ha4 ht)]
      exact ha4
    · rw [upd_ne (ne_of_none hb4 ht)]
      exact hb4
    · rw [upd_ne (ne_of_none (hP4 t' ht') ht)]
      exact hP4 t' ht'
theorem scRound : FnScope ["stream", "houses", "most", "k"] ["stream", "houses", "most"] (defScope sRound) := ⟨rfl, rfl, rfl, by decide +kernel, rfl, by decide +kernel, by decide +kernel⟩
theorem ok_round {f fD fP : Addr} {fd fdD fdP : FuncData} (F : FnP K "_law_v_round" sRound f fd) (GD : FnOk P w K mg base CX0 1 fD fdD ["stream", "many"] spDraw) (bD : L2.Binds K fdD ["stream", "many"] []) (kD : PySem.W.keepIn K (.ref fD) = true) (gD : mg "_law_draw" = some (.ref fD))
    (GP : FnOk P w K mg base CX0 2 fP fdP ["stream", "some"] (spPick K)) (bP : L2.Binds K fdP ["stream", "some"] []) (kP : PySem.W.keepIn K (.ref fP) = true) (gP : mg "_law_pick" = some (.ref fP)) (gR : mg "range" = none) : FnOk P w K mg base CX0 3 f fd ["stream", "houses", "most"] spRound := by
  refine F.ok scRound (fun vs H Q E h => ?_) (fun cdv A outer s H vs Q E hr h => ?_)
  · obtain ⟨p, c, l, n, most, hs, rfl, _⟩ := h
    rfl
  · obtain ⟨p, c, l, n, most, hs, rfl, hS, hn, hm1, hm2, hl, hne, h1k, k⟩ := h
    refine' ⟨_, PSs.nox (pss_one (ps_ret ?lc)), ?rd⟩
    case lc =>
      refine pe_lc (own := [("k", 3)]) (g := gName 3) (tt := tYes) (te := tCall (spPick K) [] E0 (tCons (tVar 0) (tCons (tVar 1) tNil))) rfl scRound.nd (pi_range1 rfl gR (pa_cons (pe_op op_add pe_int (pe_call GD (hr.mono (by decide)) rfl gD kD bD .nil pass0 (pa_cons (pv 0) (pa_cons (pv 2) pa_nil)))) pa_nil))
        (blkOk_by (own := [("k", 3)]) (N := ["stream", "houses", "most", "k"]) (sc := defScope sRound) (by decide +kernel)) (fun _ _ _ _ _ => pg_name (i := 3) scRound.nd rfl (.inl rfl)) (fun _ _ _ _ _ => pts_nil) ?_
      intro _ _ _ _ _
      exact pe_call GP hr rfl gP kP bP .nil pass0 (pa_cons (pv 0) (pa_cons (pv 1) pa_nil))
    obtain ⟨hlp, hlc⟩ := strs_nep hl hne hS
    refine ⟨_, rfl, _, rfl, p, c, n, (most : Int), rfl, hS, by omega, by omega, by omega, fun d H1 d0 d1 hK1 hS1 => ?_⟩
    refine ⟨_, _, rfl, rfl, _, rfl, by omega, by omega, fun D hD => ?_⟩
    have hDH : H D = none := hK1.fresh hS1 hD
    obtain ⟨nDp, nDc⟩ := hS1.ne hD
    refine lc_range (lo := 0) (n := (1 + d).toNat) (fun i H' => ∃ rs : List Str, H' D = some (.lst (rs.map V.str)) ∧ rs.length = i ∧ (∀ r ∈ rs, r ∈ hs) ∧ Kp p c H H' ∧ StrAt H' p c (n + 1 + i)) ?_ ?_ ?_
    · exact ⟨[], upd_same, rfl, fun r hr => absurd hr (by simp), hK1.new hD, hS1.new hD⟩
    · rintro i H2 hi ⟨rs, e1, e2, e3, e4, e5⟩
      have hl2 := e4 _ _ hl hlp hlc
      refine ⟨rfl, _, rfl, _, rfl, p, c, l, n + 1 + i, hs.map V.str, rfl, e5, by omega, hlp, hlc, .inl hl2, by rw [List.length_map]; exact List.length_pos_iff.mpr hne, by rw [List.length_map]; omega, fun x j H3 hx hK3 hS3 => ?_⟩
      rw [List.getElem?_map] at hx
      obtain ⟨r, hr, rfl⟩ := Option.map_eq_some_iff.mp hx
      refine ⟨_, hK3 _ _ e1 nDp nDc, by rw [List.length_map, e2]; exact Nat.lt_of_lt_of_le (show i < 101 by omega) (by decide), rs ++ [r], by rw [upd_same, List.map_append]; rfl, by rw [List.length_append, e2]; rfl, fun y hy => ?_, (e4.trans hK3).mut hDH, hS3.upd nDp nDc⟩
      rcases List.mem_append.mp hy with hy | hy
      · exact e3 y hy
      · simp only [List.mem_singleton] at hy
        rw [hy]
        exact List.mem_of_getElem? hr
    · rintro H2 ⟨rs, e1, e2, e3, e4, e5⟩
      exact k D rs H2 hDH e1 (fun z => by rw [z] at e2; simp at e2; omega) (by omega) e3 e4 (e5.mono (by omega))
end
end K11

/-! a loop over what is either a list or a tuple; law-independent. -/
namespace Sq
open PySem PySem.Spec PyProof.Rows L2
def ItQ (K : PySem.W.Frag) : Bool → Addr → It
  | true, a => Itt K a
  | false, a => Itl K a
def iSq (K : PySem.W.Frag) (te : TE) : TI := fun σ H R => te σ H fun x H1 => ∃ t a xs, x = .ref a ∧ SqK K H1 t a xs ∧ R (ItQ K t a) H1
section
variable {X : Cx} {tg : Expr}
theorem pi_sq {l : Expr} {tl : TE} (hl : PE X l tl) : PI X tg l (iSq X.K tl) := by
  refine ⟨fun pins s σ H R I h => ?_⟩
  refine thn (hl.run pins s σ H _ I h) fun v s1 ⟨x, H1, I1, r1, t, a, xs, e, hq, q⟩ => ?_
  subst e
  cases r1
  have fresh : ∀ b ∈ [s1.heap.objs.size], FpOk X pins H1 b := fun b hb => by
    obtain rfl : b = s1.heap.objs.size := by simpa using hb
    exact I1.fpOk (Nat.le_refl _) (I1.hok.fresh (Nat.le_refl _))
  cases t with
  | false =>
    obtain ⟨its, rv, p, hz⟩ := I1.list hq
    refine wpAny_pyIter_list p.isList ?_
    exact ⟨s1.heap.objs.size, [s1.heap.objs.size], _, _, H1, rfl, I1.kept (t' := s1.toks) fun b o e => Heap.get?_push_of_some _ e, turn_list a _, ⟨_, Heap.get?_push_size _ rfl, rfl, rfl⟩, fresh, q⟩
  | true =>
    obtain ⟨its, rv, p, hz⟩ := I1.tuple hq
    refine wpAny_pyIter_tuple (show s1.heap.IsTuple a its.toArray from p) ?_
    exact ⟨s1.heap.objs.size, [s1.heap.objs.size], _, _, H1, rfl, I1.kept (t' := s1.toks) fun b o e => Heap.get?_push_of_some _ e, turn_tuple a _, ⟨_, Heap.get?_push_size _ rfl, rfl, rfl⟩, fresh, q⟩
end
theorem walk_sq {K : PySem.W.Frag} {t : Bool} {a : Addr} {xs : List V} : Walk (ItQ K t a) xs.length (fun H => SqK K H t a xs) (YAt xs) := by
  cases t with
  | false => exact walk_list
  | true => exact walk_tup
end Sq

namespace K11
open PySem PySem.Spec PyProof.Rows L2 Tr Sq Dk
/-! ### _law_loose: a text, a row of texts, a row of such rows -/
abbrev sLoose : Stmt := top 61
/-- a list or a tuple -/
def Lt (H : Hp) (t : Bool) (a : Addr) (xs : List V) : Prop := H a = some (if t = true then .tup xs else .lst xs)
theorem Lt.sq {K : PySem.W.Frag} {H : Hp} {t : Bool} {a : Addr} {xs : List V} (h : Lt H t a xs) : SqK K H t a xs := by
  cases t with
  | false => exact SqL.of h
  | true => exact SqT.of h
theorem Lt.ex {H H' : Hp} {t : Bool} {a : Addr} {xs : List V} (h : Lt H t a xs) (e : Evl.Ex H H') : Lt H' t a xs := e _ _ h
theorem Lt.pl {H : Hp} {t : Bool} {a : Addr} {xs : List V} (h : Lt H t a xs) : ∃ n, Pl H (.ref a) n ∧ lstB n = true := by
  cases t with
  | false => exact ⟨_, .lst h, rfl⟩
  | true => exact ⟨_, .tup h, rfl⟩
theorem Lt.at_ {H : Hp} {t : Bool} {a : Addr} {xs : List V} (h : Lt H t a xs) : ∃ o, H a = some o := ⟨_, h⟩
theorem Lt.ix {K : PySem.W.Frag} {H : Hp} {t : Bool} {a : Addr} {xs : List V} {j : Nat} {v : V} {Q : VK} (h : Lt H t a xs) (hx : xs[j]? = some v) (q : Q v H) : rIx K (.ref a) (.int (j : Nat)) H Q := by
  cases t with
  | false => exact .inl ⟨a, _, (j : Int), _, rfl, rfl, SqL.of h, atI_nat hx, q⟩
  | true => exact .inr (.inl ⟨a, _, (j : Int), _, rfl, rfl, SqT.of h, atI_nat hx, q⟩)
/-- rows of texts -/
abbrev RwsL := List (Addr × List Str)
def RowsAt (H : Hp) (rs : RwsL) : Prop := ∀ r ∈ rs, ∃ t, Lt H t r.1 (r.2.map V.str)
theorem RowsAt.ex {H H' : Hp} {rs : RwsL} (h : RowsAt H rs) (e : Evl.Ex H H') : RowsAt H' rs := fun r hr => (h r hr).imp fun _ z => z.ex e
def spLoose1 : Sp := fun vs H Q _ => ∃ (p : Addr) (x : V) (n : String), vs = [.ref p, x] ∧ Pl H x n ∧ lstB n = false ∧ ∀ H', Evl.Ex H H' → Q x H'
def spLoose2 : Sp := fun vs H Q _ => ∃ (p c : Addr) (n : Nat) (t : Bool) (a : Addr) (l : List Str), vs = [.ref p, .ref a] ∧ StrAt H p c n ∧ n + 1 ≤ 1000000000 ∧ Lt H t a (l.map V.str) ∧ a ≠ p ∧ a ≠ c ∧ l.length ≤ 1000 ∧
  ∀ (t' : Bool) (r : Addr) (H' : Hp), H r = none → Lt H' t' r (l.map V.str) → Kp p c H H' → StrAt H' p c (n + 1) → Q (.ref r) H'
def spLoose3 : Sp := fun vs H Q _ => ∃ (p c : Addr) (n : Nat) (t : Bool) (a : Addr) (rs : RwsL), vs = [.ref p, .ref a] ∧ StrAt H p c n ∧ n + 1 + rs.length ≤ 1000000000 ∧ Lt H t a (rs.map fun r => .ref r.1) ∧ a ≠ p ∧ a ≠ c ∧ RowsAt H rs ∧ (∀ r ∈ rs, r.1 ≠ p ∧ r.1 ≠ c ∧ r.2.length ≤ 1000) ∧ rs.length ≤ 1000 ∧
  ∀ (t' : Bool) (r : Addr) (rs' : RwsL) (H' : Hp), H r = none → (∀ x ∈ rs', H x.1 = none) → Lt H' t' r (rs'.map fun r => .ref r.1) → rs'.map (·.2) = rs.map (·.2) → RowsAt H' rs' → Kp p c H H' → StrAt H' p c (n + 1 + rs.length) → Q (.ref r) H'
def spNo : Sp := fun _ _ _ _ => False
abbrev nmLoo : List Str := ["stream", "thing", "found", "part"]
section
variable {P : Program} {w : World} {K : PySem.W.Frag} {mg : Str → Option Value} {base : Heap}
theorem scLoo : FnScope nmLoo ["stream", "thing"] (defScope sLoose) := ⟨rfl, rfl, rfl, by decide +kernel, rfl, by decide +kernel, by decide +kernel⟩
theorem okNo {f : Addr} {fd : FuncData} {n : Nat} {ps : List Str} : FnOk P w K mg base CX0 n f fd ps spNo := ⟨fun vs H Q E h => h.elim, fun A outer s H args us vs Q E _ _ _ _ h => h.elim⟩
theorem ok_loose1 {f fD : Addr} {fd fdD : FuncData} (F : FnP K "_law_loose" sLoose f fd) (GD : FnOk P w K mg base CX0 1 fD fdD ["stream", "many"] spDraw) (bD : L2.Binds K fdD ["stream", "many"] []) (kD : PySem.W.keepIn K (.ref fD) = true) (gD : mg "_law_draw" = some (.ref fD)) (gF : mg "_law_loose" = some (.ref f)) (gL : mg "list" = none) (gT : mg "tuple" = none) (gS : mg "isinstance" = none) :
    FnOk P w K mg base CX0 2 f fd ["stream", "thing"] spLoose1 := by
  have bF : L2.Binds K fd ["stream", "thing"] [] := F.bindsN fun _ _ _ _ _ _ us hl => match us, hl with | [_, _], _ => rfl
  have GN : FnOk P w K mg base CX0 1 f fd ["stream", "thing"] spNo := okNo
  refine F.ok scLoo (fun vs H Q E h => ?_) (fun cdv A outer s H vs Q E hr h => ?_)
  · obtain ⟨p, x, n, rfl, _⟩ := h
    rfl
  · obtain ⟨p, x, n, rfl, hx, hn, k⟩ := h
    refine' ⟨_, PSs.nox (pss_cons (ps_if (pt_not (pt_val (pe_callB call_isiT (by rfl) gS (by decide +kernel) (pa_cons (pv 1) (pa_cons (pe_tup (pa_cons (pe_bltn (v := .ty "list") rfl gL (by decide +kernel) rfl) (pa_cons (pe_bltn (v := .ty "tuple") rfl gT (by decide +kernel) rfl) pa_nil))) pa_nil))))) (pss_one (ps_ret (pv 1))) pss_nil)
      (pss_cons ?lc
      (pss_one (ps_ret (pe_ifExp (pt_cmpR op_eq (pe_call GD (hr.mono (by decide)) (by rfl) gD kD bD .nil pass0 (pa_cons (pv 0) (pa_cons pe_int pa_nil))) pe_int (nomark _)) (pv 2) (pe_callTy call_tuple_of (by rfl) gT (by decide +kernel) (pa_cons (pv 2) pa_nil))))))), ?rd⟩
    case lc =>
      refine ps_setLc (i := 2) (own := [("part", 3)]) (g := gName 3) (tt := tYes) (te := tCall spNo [] E0 (tCons (tVar 0) (tCons (tVar 3) tNil))) (by rfl) scLoo.nd rfl rfl (sw_true rfl rfl rfl (by decide +kernel)) (pi_sq (pv 1))
        (blkOk_by (own := [("part", 3)]) (N := nmLoo) (sc := defScope sLoose) (by decide +kernel)) (fun _ _ _ _ _ => pg_name (i := 3) scLoo.nd rfl (.inl rfl)) (fun _ _ _ _ _ => pts_nil) ?_
      intro _ _ _ _ _
      exact pe_call GN hr (by rfl) gF F.kp bF .nil pass0 (pa_cons (pv 0) (pa_cons (pv 3) pa_nil))
    refine ⟨_, rfl, by show 2 ≤ sizeLine; decide, fun tt ht => ?_⟩
    have x0 := Evl.Ex.new (o := .tup [V.ty "list", V.ty "tuple"]) ht
    refine ⟨_, _, _, _, _, _, rfl, upd_same, cls_tys ["list", "tuple"], (hx.ext x0).ty, hx.any ["list", "tuple"] (by decide), _, rfl, ?_⟩
    rw [show isBs n ["list", "tuple"] = false from hn]
    exact iteT ⟨_, rfl, k _ x0⟩
theorem ok_loose2 {f fD : Addr} {fd fdD : FuncData} (F : FnP K "_law_loose" sLoose f fd) (GD : FnOk P w K mg base CX0 1 fD fdD ["stream", "many"] spDraw) (bD : L2.Binds K fdD ["stream", "many"] []) (kD : PySem.W.keepIn K (.ref fD) = true) (gD : mg "_law_draw" = some (.ref fD)) (gF : mg "_law_loose" = some (.ref f)) (gL : mg "list" = none) (gT : mg "tuple" = none) (gS : mg "isinstance" = none) :
    FnOk P w K mg base CX0 3 f fd ["stream", "thing"] spLoose2 := by
  have bF : L2.Binds K fd ["stream", "thing"] [] := F.bindsN fun _ _ _ _ _ _ us hl => match us, hl with | [_, _], _ => rfl
  have G1 := ok_loose1 F GD bD kD gD gF gL gT gS
  refine F.ok scLoo (fun vs H Q E h => ?_) (fun cdv A outer s H vs Q E hr h => ?_)
  · obtain ⟨p, c, n, t, a, l, rfl, _⟩ := h
    rfl
  · obtain ⟨p, c, n, t, a, l, rfl, hS, hn, ha, hap, hac, hl1, k⟩ := h
    refine' ⟨_, PSs.nox (pss_cons (ps_if (pt_not (pt_val (pe_callB call_isiT (by rfl) gS (by decide +kernel) (pa_cons (pv 1) (pa_cons (pe_tup (pa_cons (pe_bltn (v := .ty "list") rfl gL (by decide +kernel) rfl) (pa_cons (pe_bltn (v := .ty "tuple") rfl gT (by decide +kernel) rfl) pa_nil))) pa_nil))))) (pss_one (ps_ret (pv 1))) pss_nil)
      (pss_cons ?lc
      (pss_one (ps_ret (pe_ifExp (pt_cmpR op_eq (pe_call GD (hr.mono (by decide)) (by rfl) gD kD bD .nil pass0 (pa_cons (pv 0) (pa_cons pe_int pa_nil))) pe_int (nomark _)) (pv 2) (pe_callTy call_tuple_of (by rfl) gT (by decide +kernel) (pa_cons (pv 2) pa_nil))))))), ?rd⟩
    case lc =>
      refine ps_setLc (i := 2) (own := [("part", 3)]) (g := gName 3) (tt := tYes) (te := tCall spLoose1 [] E0 (tCons (tVar 0) (tCons (tVar 3) tNil))) (by rfl) scLoo.nd rfl rfl (sw_true rfl rfl rfl (by decide +kernel)) (pi_sq (pv 1))
        (blkOk_by (own := [("part", 3)]) (N := nmLoo) (sc := defScope sLoose) (by decide +kernel)) (fun _ _ _ _ _ => pg_name (i := 3) scLoo.nd rfl (.inl rfl)) (fun _ _ _ _ _ => pts_nil) ?_
      intro _ _ _ _ _
      exact pe_call G1 hr (by rfl) gF F.kp bF .nil pass0 (pa_cons (pv 0) (pa_cons (pv 3) pa_nil))
    refine ⟨_, rfl, by show 2 ≤ sizeLine; decide, fun tt ht => ?_⟩
    have x0 := Evl.Ex.new (o := .tup [V.ty "list", V.ty "tuple"]) ht
    obtain ⟨nm, hp, hlb⟩ := (ha.ex x0).pl
    refine ⟨_, _, _, _, _, _, rfl, upd_same, cls_tys ["list", "tuple"], hp.ty, hp.any ["list", "tuple"] (by decide), _, rfl, ?_⟩
    rw [show isBs nm ["list", "tuple"] = true from hlb]
    refine iteF ?_
    have ha1 := ha.ex x0
    have hS1 := hS.keep x0
    generalize upd H tt (.tup [V.ty "list", V.ty "tuple"]) = H1 at x0 ha1 hS1 ⊢
    refine ⟨_, rfl, t, a, _, rfl, ha1.sq, fun D hD => ?_⟩
    have hDH : H D = none := none_of (fun o z => x0 _ _ z) hD
    obtain ⟨Dp, Dc⟩ := hS1.ne hD
    refine lc_it (walk_sq (xs := l.map V.str)) (fun i H' => Evl.Ex H1 H' ∧ H' D = some (.lst ((l.take i).map V.str))) ⟨Evl.Ex.new hD, upd_same⟩ (fun i H' _ hp => (ha1.ex hp.1).sq) (fun i x H2 H3 hi hp hy => ?_) (fun H2 hp => ?_)
    · obtain ⟨x1, e1⟩ := hp
      obtain ⟨rfl, hx⟩ := hy
      rw [List.length_map] at hi
      obtain ⟨z, hz⟩ := getD_of hi
      rw [List.getElem?_map, hz] at hx
      cases hx
      refine ⟨rfl, _, rfl, _, rfl, p, _, _, rfl, .str z, rfl, fun H4 x4 => ?_⟩
      refine ⟨_, x4 _ _ e1, ?_, ex_upd (x1.trans x4) hD, ?_⟩
      · rw [List.length_map, List.length_take]
        exact Nat.lt_of_le_of_lt (show min i l.length ≤ 1000 by omega) (by decide)
      · rw [upd_same, List.take_add_one, hz, List.map_append]
        rfl
    · obtain ⟨x1, e1⟩ := hp
      rw [List.length_map, List.take_length] at e1
      refine ⟨_, rfl, p, c, n, 3, rfl, hS1.keep x1, by omega, by decide, by decide, fun d H4 d0 d3 kp4 s4 => ?_⟩
      have x01 := x0.trans x1
      have kpH : Kp p c H H4 := fun b o e h1 h2 => kp4 b o (x01 b o e) h1 h2
      have D4 := kp4 _ _ e1 Dp Dc
      refine ⟨rfl, _, rfl, ?_⟩
      refine ite2 (fun _ => ⟨_, rfl, k false D H4 hDH D4 kpH s4⟩) (fun _ => ⟨_, rfl, D, _, rfl, .inl ⟨SqL.of D4, fun r hr => ?_⟩⟩)
      exact k true r _ (kpH.fresh s4 hr) upd_same (kpH.new hr) (s4.new hr)
theorem RowsAt.kp {p c : Addr} {H H' : Hp} {rs : RwsL} (h : RowsAt H rs) (e : Kp p c H H') (h2 : ∀ r ∈ rs, r.1 ≠ p ∧ r.1 ≠ c) : RowsAt H' rs := fun r hr => (h r hr).imp fun _ z => e _ _ z (h2 r hr).1 (h2 r hr).2
theorem ok_loose3 {f fD : Addr} {fd fdD : FuncData} (F : FnP K "_law_loose" sLoose f fd) (GD : FnOk P w K mg base CX0 1 fD fdD ["stream", "many"] spDraw) (bD : L2.Binds K fdD ["stream", "many"] []) (kD : PySem.W.keepIn K (.ref fD) = true) (gD : mg "_law_draw" = some (.ref fD)) (gF : mg "_law_loose" = some (.ref f)) (gL : mg "list" = none) (gT : mg "tuple" = none) (gS : mg "isinstance" = none) :
    FnOk P w K mg base CX0 4 f fd ["stream", "thing"] spLoose3 := by
  have bF : L2.Binds K fd ["stream", "thing"] [] := F.bindsN fun _ _ _ _ _ _ us hl => match us, hl with | [_, _], _ => rfl
  have G2 := ok_loose2 F GD bD kD gD gF gL gT gS
  refine F.ok scLoo (fun vs H Q E h => ?_) (fun cdv A outer s H vs Q E hr h => ?_)
  · obtain ⟨p, c, n, t, a, rs, rfl, _⟩ := h
    rfl
  · obtain ⟨p, c, n, t, a, rs, rfl, hS, hn, ha, hap, hac, hR, hne, hl1, k⟩ := h
    refine' ⟨_, PSs.nox (pss_cons (ps_if (pt_not (pt_val (pe_callB call_isiT (by rfl) gS (by decide +kernel) (pa_cons (pv 1) (pa_cons (pe_tup (pa_cons (pe_bltn (v := .ty "list") rfl gL (by decide +kernel) rfl) (pa_cons (pe_bltn (v := .ty "tuple") rfl gT (by decide +kernel) rfl) pa_nil))) pa_nil))))) (pss_one (ps_ret (pv 1))) pss_nil)
      (pss_cons ?lc
      (pss_one (ps_ret (pe_ifExp (pt_cmpR op_eq (pe_call GD (hr.mono (by decide)) (by rfl) gD kD bD .nil pass0 (pa_cons (pv 0) (pa_cons pe_int pa_nil))) pe_int (nomark _)) (pv 2) (pe_callTy call_tuple_of (by rfl) gT (by decide +kernel) (pa_cons (pv 2) pa_nil))))))), ?rd⟩
    case lc =>
      refine ps_setLc (i := 2) (own := [("part", 3)]) (g := gName 3) (tt := tYes) (te := tCall spLoose2 [] E0 (tCons (tVar 0) (tCons (tVar 3) tNil))) (by rfl) scLoo.nd rfl rfl (sw_true rfl rfl rfl (by decide +kernel)) (pi_sq (pv 1))
        (blkOk_by (own := [("part", 3)]) (N := nmLoo) (sc := defScope sLoose) (by decide +kernel)) (fun _ _ _ _ _ => pg_name (i := 3) scLoo.nd rfl (.inl rfl)) (fun _ _ _ _ _ => pts_nil) ?_
      intro _ _ _ _ _
      exact pe_call G2 hr (by rfl) gF F.kp bF .nil pass0 (pa_cons (pv 0) (pa_cons (pv 3) pa_nil))
    refine ⟨_, rfl, by show 2 ≤ sizeLine; decide, fun tt ht => ?_⟩
    have x0 := Evl.Ex.new (o := .tup [V.ty "list", V.ty "tuple"]) ht
    obtain ⟨nm, hp, hlb⟩ := (ha.ex x0).pl
    refine ⟨_, _, _, _, _, _, rfl, upd_same, cls_tys ["list", "tuple"], hp.ty, hp.any ["list", "tuple"] (by decide), _, rfl, ?_⟩
    rw [show isBs nm ["list", "tuple"] = true from hlb]
    refine iteF ?_
    have ha1 := ha.ex x0
    have hS1 := hS.keep x0
    have hR1 := hR.ex x0
    generalize upd H tt (.tup [V.ty "list", V.ty "tuple"]) = H1 at x0 ha1 hS1 hR1 ⊢
    refine ⟨_, rfl, t, a, _, rfl, ha1.sq, fun D hD => ?_⟩
    have hDH : H D = none := none_of (fun o z => x0 _ _ z) hD
    obtain ⟨Dp, Dc⟩ := hS1.ne hD
    refine lc_it (walk_sq (xs := rs.map fun r => V.ref r.1)) (fun i H' => Kp p c H1 H' ∧ StrAt H' p c (n + i) ∧ ∃ rs' : RwsL, H' D = some (.lst (rs'.map fun r => V.ref r.1)) ∧ rs'.map (·.2) = (rs.take i).map (·.2) ∧ RowsAt H' rs' ∧ ∀ r ∈ rs', H r.1 = none ∧ r.1 ≠ p ∧ r.1 ≠ c ∧ r.1 ≠ D) ⟨(Kp.refl H1).new hD, hS1.new hD, [], upd_same, rfl, fun r hr => absurd hr (by simp), fun r hr => absurd hr (by simp)⟩ (fun i H' _ hp => Lt.sq (hp.1 _ _ ha1 hap hac)) (fun i x H2 H3 hi hp hy => ?_) (fun H2 hp => ?_)
    · obtain ⟨kp2, s2, rs', e1, e2, e3, e4⟩ := hp
      obtain ⟨rfl, hx⟩ := hy
      rw [List.length_map] at hi
      obtain ⟨z, hz⟩ := getD_of hi
      rw [List.getElem?_map, hz] at hx
      cases hx
      have zm := List.mem_of_getElem? hz
      obtain ⟨tz, hzt⟩ := hR1 z zm
      obtain ⟨zp, zc, zl⟩ := hne z zm
      have rl : rs'.length ≤ 1000 := by
        have := congrArg List.length e2
        rw [List.length_map, List.length_map, List.length_take] at this
        omega
      refine ⟨rfl, _, rfl, _, rfl, p, c, n + i, tz, z.1, z.2, rfl, s2, by omega, kp2 _ _ hzt zp zc, zp, zc, zl, fun t' r H4 hr hr4 kp4 s4 => ?_⟩
      have kp14 := kp2.trans kp4
      have D4 := kp4 _ _ e1 Dp Dc
      have rD : r ≠ D := fun w => by rw [w, e1] at hr; cases hr
      have rH : H r = none := none_of (fun o z => x0 _ _ z) (kp2.fresh s2 hr)
      obtain ⟨rp, rc⟩ := s2.ne hr
      refine ⟨_, D4, ?_, kp14.mut hD, s4.upd Dp Dc, rs' ++ [(r, z.2)], ?_, ?_, fun y hy => ?_, fun y hy => ?_⟩
      · rw [List.length_map]
        exact Nat.lt_of_le_of_lt rl (by decide)
      · rw [upd_same, List.map_append]
        rfl
      · rw [List.map_append, e2, List.take_add_one, hz, List.map_append]
        rfl
      · rcases List.mem_append.mp hy with hy | hy
        · obtain ⟨y1, y2, y3, y4⟩ := e4 y hy
          obtain ⟨ty, hty⟩ := e3 y hy
          exact ⟨ty, by show upd H4 D _ y.1 = _; rw [upd_ne y4]; exact kp4 _ _ hty y2 y3⟩
        · rw [List.mem_singleton.mp hy]
          exact ⟨t', by show upd H4 D _ r = _; rw [upd_ne rD]; exact hr4⟩
      · rcases List.mem_append.mp hy with hy | hy
        · exact e4 y hy
        · rw [List.mem_singleton.mp hy]
          exact ⟨rH, rp, rc, rD⟩
    · obtain ⟨kp2, s2, rs', e1, e2, e3, e4⟩ := hp
      rw [List.length_map] at s2 e2
      rw [List.take_length] at e2
      refine ⟨_, rfl, p, c, n + rs.length, 3, rfl, s2, by omega, by decide, by decide, fun d H4 d0 d3 kp4 s4 => ?_⟩
      have kpH : Kp p c H H4 := fun b o e h1 h2 => kp4 b o (kp2 b o (x0 b o e) h1 h2) h1 h2
      have D4 := kp4 _ _ e1 Dp Dc
      have R4 := e3.kp kp4 fun r hr => ⟨(e4 r hr).2.1, (e4 r hr).2.2.1⟩
      have s4 := s4.mono (show n + rs.length + 1 ≤ n + 1 + rs.length by omega)
      refine ⟨rfl, _, rfl, ?_⟩
      refine ite2 (fun _ => ⟨_, rfl, k false D rs' H4 hDH (fun x hx => (e4 x hx).1) D4 e2 R4 kpH s4⟩) (fun _ => ⟨_, rfl, D, _, rfl, .inl ⟨SqL.of D4, fun r hr => ?_⟩⟩)
      exact k true r rs' _ (kpH.fresh s4 hr) (fun x hx => (e4 x hx).1) upd_same e2 (R4.ex (Evl.Ex.new hr)) (kpH.new hr) (s4.new hr)
end
end K11

/-! sorted of a tuple of texts. Law-independent. -/
namespace Stt
open PySem PySem.Spec PyProof.Rows L2
section
variable {prog : Program} {w : World} {A : Around} {E : Value → Shared → Prop} {s : Shared}
theorem collect_tuple {l : Addr} {vs : List Value} {Q : List Value → Shared → Prop} (hl : s.heap.IsTuple l vs.toArray) (hsz : vs.length ≤ sizeLine)
    (h : Q vs { s with heap := (s.heap.push (seqObj "list" #[] 0)).update s.heap.objs.size (Obj.mapSeq (· ++ vs.toArray)) }) :
    wpAny (model prog w) A (collect (.ref l)) Q E s := by
  obtain ⟨o, ho, hc, n, hd⟩ := id hl
  unfold collect
  refine wpAny_bind (wpAny_runValue (codeAny_builtin entry_proto_collect' ?_))
  show wpAny _ _ (do again (.builtin "list.__iadd__" ⟨[← newList [], .ref l], []⟩)) _ _ s
  refine wpAny_bind (wpAny_newList (wpAny_pure ⟨Code.quiet_builtin _ (by decide +kernel), codeAny_builtin entry_list_iadd' ?_⟩))
  show wpAny _ _ (Builtin.List.listExtendWith (.ref s.heap.objs.size) (.ref l) (.ref s.heap.objs.size)) _ _ { s with heap := s.heap.push (seqObj "list" #[] 0) }
  unfold Builtin.List.listExtendWith
  have ho' : (s.heap.push (seqObj "list" #[] 0)).get? l = some o := Heap.get?_push_of_some _ ho
  refine wpAny_bind (wpAny_typeOf (T := "tuple") ⟨o, ho', hc⟩ ?_)
  have ht : (Value.type "tuple" == Value.type "tuple") = true := by rfl
  rw [if_pos (by rw [ht]; simp)]
  refine wpAny_bind (listItems_at ho' hd ?_)
  refine wpAny_bind (listItems_at (xs := #[]) (n := 0) (Heap.get?_push_size _ rfl) rfl ?_)
  rw [if_neg (by simp)]
  refine wpAny_bind (listUpdate_at (xs := #[]) (n := 0) (Heap.get?_push_size _ rfl) rfl ?_ (Nat.zero_le _) (by show (#[] ++ vs.toArray).size ≤ sizeLine + 1; simp only [Array.size_append, List.size_toArray, List.length_nil]; omega))
  refine wpAny_pure ?_
  show wpAny (model prog w) A (do
      let o ← load s.heap.objs.size
      match o.data with
      | .seq xs _ => pure xs.toList
      | _ => unsupported "internal:collect") Q E { s with heap := (s.heap.push (seqObj "list" #[] 0)).update s.heap.objs.size (Obj.mapSeq (· ++ vs.toArray)) }
  refine wpAny_bind (wpAny_load (get?_update_seq (Heap.get?_push_size _ rfl) _) ?_)
  show wpAny _ _ (pure ((#[] : Array Value) ++ vs.toArray).toList) Q E _
  rw [show ((#[] : Array Value) ++ vs.toArray).toList = vs by simp]
  exact wpAny_pure h
theorem sorted_strsT {l : Addr} {vs : List Value} {ss : List Str} {Q : Value → Shared → Prop} (hl : s.heap.IsTuple l vs.toArray) (hS : StrsAre vs ss) (h64 : vs.length < 64)
    (h : ∀ (out : Array Value) (ss' : List Str), StrsAre out.toList ss' → ss'.Perm ss → sortedS ss' = true → Q (.ref (s.heap.objs.size + 1)) { s with heap := sortedAll s.heap vs out }) :
    wpAny (model prog w) A (call (.builtin "sorted") [.ref l]) Q E s := by
  have hz : vs.length ≤ sizeLine := by rw [sizeLine_eq]; omega
  refine Calls.call_function_entry kind_sorted plain_sorted entry_sorted (args_sorted1 _) ?_
  unfold Builtin.«sorted»
  refine wpAny_bind (m := checkCount "sorted" 1 1 _) (wpAny_pure ?_)
  refine wpAny_bind (collect_tuple hl hz ?_)
  refine wpAny_bind (wpAny_newList ?_)
  have hsz : ((s.heap.push (seqObj "list" #[] 0)).update s.heap.objs.size (Obj.mapSeq (· ++ vs.toArray))).objs.size = s.heap.objs.size + 1 := by
    rw [Heap.size_update, size_push']
  have hoL : (((s.heap.push (seqObj "list" #[] 0)).update s.heap.objs.size (Obj.mapSeq (· ++ vs.toArray))).push (seqObj "list" vs.toArray 0)).get? (s.heap.objs.size + 1) = some (seqObj "list" vs.toArray 0) := by
    rw [← hsz]; exact Heap.get?_push_size _ rfl
  show wpAny _ _ _ _ _ { s with heap := ((s.heap.push (seqObj "list" #[] 0)).update s.heap.objs.size (Obj.mapSeq (· ++ vs.toArray))).push (seqObj "list" vs.toArray 0) }
  rw [hsz]
  refine wpAny_bind (wpAny_holding (wpAny_call_entry slot_list_sort ⟨_, hoL, rfl⟩ entry_list_sort (list_sort_treeK strKind_oneLt hoL hS.keysOf (fun v₁ v₂ rest e => keyKind_strs (by rw [← e]; exact hS)) h64 fun st' hp hs => ⟨_, rfl, ?_⟩) (args_list_sort _)))
  obtain ⟨ss', h1, h2, h3⟩ := sorted_out_str hS hp hs
  exact wpAny_pure ⟨_, rfl, h _ ss' h1 h2 h3⟩
end
/-- sorted of a list or a tuple of texts -/
def rSortedSq (K : PySem.W.Frag) : List V → Hp → VK → Prop := fun vs H Q => ∃ (a : Addr) (xs : List Str), vs = [V.ref a] ∧ (SqL K H a (xs.map V.str) ∨ SqT K H a (xs.map V.str)) ∧ xs.length < 64 ∧
  ∀ (ys : List Str) (p : Addr), ys.Perm xs → sortedS ys = true → H p = none → Q (.ref p) (upd H p (.lst (ys.map V.str)))
theorem cr_sortedSq {X : Cx} : CallR X (.builtin "sorted") (rSortedSq X.K) := by
  intro pins s σ H vs us Q I r h
  obtain ⟨a, xs, rfl, hs | hs, h64, q⟩ := h
  · exact cr_sortedS pins s σ H _ us Q I r ⟨a, xs, rfl, hs, h64, q⟩
  obtain ⟨its, rv, hl, _⟩ := I.tuple hs
  rw [Vals.ref1 r]
  have hlen0 := rv.length
  rw [List.length_map] at hlen0
  refine sorted_strsT hl rv.strs (by rw [← hlen0]; exact h64) fun out ys h1 h2 h3 => ?_
  obtain ⟨ep, he'⟩ := PyProof.Rows.sortedAll_at s.heap its out
  have hlen : (ys.map V.str).length ≤ sizeLine := by rw [List.length_map, h2.length_eq]; exact small64 h64
  exact ⟨.ref _, upd H (s.heap.objs.size + 1) (.lst (ys.map V.str)), I.laid (t' := s.toks) (fun _ _ => PyProof.Rows.sortedAll_old) (Nat.le_succ _) ⟨hlen, out.toList, ep, vals_of_strs h1, he'⟩, rfl, q ys _ h2 h3 (I.hok.fresh (Nat.le_succ _))⟩
end Stt

namespace K11
open PySem PySem.Spec PyProof.Rows L2 Tr Sq Dk
/-! ### a village made of a list or a tuple of houses and of paths -/
abbrev LpL := List (Addr × Str × Str)
def LpsAt (H : Hp) (rs : LpL) : Prop := ∀ r ∈ rs, ∃ t, Lt H t r.1 [V.str r.2.1, V.str r.2.2]
theorem LpsAt.ex {H H' : Hp} {rs : LpL} (h : LpsAt H rs) (e : Evl.Ex H H') : LpsAt H' rs := fun r hr => (h r hr).imp fun _ z => z.ex e
theorem lt_ins {H : Hp} {t : Bool} {v C dx : Addr} {xs : List V} (h : Lt H t v xs) (hv : H v = some (.ins C dx [])) : False := by
  unfold Lt at h
  rw [hv] at h
  cases t <;> cases h
def spCheckL : Sp := fun vs H Q _ => ∃ (t : Bool) (l : Addr) (hs : List Str), vs = [.ref l] ∧ Lt H t l (hs.map V.str) ∧ hs ≠ [] ∧ hs.Nodup ∧ hs.length ≤ 1000 ∧ (∀ h ∈ hs, h ∈ names12) ∧ ∀ H', Evl.Ex H H' → Q .non H'
def spIsPairL : Sp := fun vs H Q _ => ∃ (b : Bool) (t : Addr) (x y : V), vs = [.ref t] ∧ Lt H b t [x, y] ∧ ∀ H', Evl.Ex H H' → Q (.bl true) H'
def spPathsCL : Sp := fun vs H Q _ => ∃ (tq : Bool) (l q : Addr) (hs hs0 : List Str) (qs : LpL), vs = [.ref l, .ref q] ∧ H l = some (.lst (hs.map V.str)) ∧ Lt H tq q (qs.map fun r => V.ref r.1) ∧ LpsAt H qs ∧ Tree hs (qs.map (·.2)) ∧ hs ≠ [] ∧ hs.length ≤ 1000 ∧ qs.length ≤ 1000 ∧ hs0 = hs ∧
  ∀ (r : Addr) (zs : PrL) (H' : Hp), H r = none → Evl.Ex H H' → H' r = some (.lst (refsL zs)) → PrsAt H' zs → (zs.map (·.2)).Perm ((qs.map (·.2)).map ordP) → (zs.map (·.2)).Pairwise (fun x y => Srs.lexT y x = false) → (∀ t ∈ zs, H t.1 = none) → Q (.ref r) H'
def spInitL (K : PySem.W.Frag) : Sp := fun vs H Q _ => ∃ (tl tq : Bool) (v l q C dx : Addr) (hs : List Str) (qs : LpL), vs = [.ref v, .ref l, .ref q] ∧ H v = some (.ins C dx []) ∧ Cls K C ∧ NoAttr K C "_houses" ∧ NoAttr K C "_paths" ∧ NoAttr K C "_near" ∧ Lt H tl l (hs.map V.str) ∧ Lt H tq q (qs.map fun r => V.ref r.1) ∧ LpsAt H qs ∧ Tree hs (qs.map (·.2)) ∧
  hs ≠ [] ∧ hs.length ≤ 12 ∧ qs.length ≤ 12 ∧ (∀ h ∈ hs, h ∈ names12) ∧
  ∀ (H' : Hp) (hs' : List Str) (ps' : Prs) (m : VilD), (∀ b o, b ≠ v → H b = some o → H' b = some o) → Vil H' C v hs' ps' m → hs'.Perm hs → sortedS hs' = true → ps'.Perm ((qs.map (·.2)).map ordP) → ps'.Pairwise (fun x y => Srs.lexT y x = false) → Tree hs' ps' → FreshV H hs' m → Q .non H'
section
variable {P : Program} {w : World} {K : PySem.W.Frag} {mg : Str → Option Value} {base : Heap}
theorem ok_checkL {f fN fL : Addr} {fd fdN fdL : FuncData} (F : FnP K "check_houses" sCheck f fd) (GN : FnOk P w K mg base CX0 1 fN fdN ["thing"] spIsName) (bN : L2.Binds K fdN ["thing"] []) (kN : PySem.W.keepIn K (.ref fN) = true) (gN : mg "is_name" = some (.ref fN))
    (GL : FnOk P w K mg base CX0 1 fL fdL ["thing"] spIsLst) (bL : L2.Binds K fdL ["thing"] []) (kL : PySem.W.keepIn K (.ref fL) = true) (gLs : mg "is_listed" = some (.ref fL)) (gLe : mg "len" = none) (gE : mg "enumerate" = none) : FnOk P w K mg base CX0 2 f fd ["houses"] spCheckL := by
  refine F.ok scCheck (fun vs H Q E h => ?_) (fun cdv A outer s H vs Q E hr h => ?_)
  · obtain ⟨t, l, hs, rfl, _⟩ := h
    rfl
  · obtain ⟨t, l, hs, rfl, hl, hne, hnd, h1k, hgood, k⟩ := h
    refine ⟨_, PSs.nox (pss_cons (ps_if (PW.pt (pw_or (pt_not (pt_val (pe_call GL hr rfl gLs kL bL .nil pass0 (pa_cons (pv 0) pa_nil)))) (pw_or1 (pt_cmpR op_eq (pe_callB call_len_seq (by rfl) gLe PySem.boot_len (pa_cons (pv 0) pa_nil)) pe_int (nomark _))))) pss_never pss_nil)
      (pss_cons (ps_set (i := 1) scCheck.nd rfl (.inl rfl) pe_dnewK)
      (pss_one (ps_for PassesOwn.never rfl (pi_enumA rfl gE (pa_cons (pv 0) pa_nil)) (pg_tup rfl (pgs_cons (pg_name (i := 2) scCheck.nd rfl (.inl rfl)) (pgs_cons (pg_name (i := 3) scCheck.nd rfl (.inl rfl)) pgs_nil)))
        (pss_cons (ps_if (PW.pt (pw_or (pt_not (pt_val (pe_call GN hr rfl gN kN bN .nil pass0 (pa_cons (pv 3) pa_nil)))) (pw_or1 (pt_cmp (pc_din (hu_of hr) (pv 3) (pv 1)) rfl)))) pss_never pss_nil)
        (pss_one (ps_dput (hu_of hr) (pv 1) (pv 3) pe_bl rfl))))))), ?_⟩
    have hl1 : 1 ≤ hs.length := List.length_pos_iff.mpr hne
    obtain ⟨nm, hpl, hlb⟩ := hl.pl
    refine ⟨_, rfl, _, nm, rfl, hpl, fun H1 x1 => ⟨_, rfl, ?_⟩⟩
    rw [hlb]
    refine ite2 (fun q => absurd q (by decide)) (fun _ => ?_)
    refine ⟨_, rfl, l, _, rfl, sqk_or (hl.ex x1).sq, rfl, _, rfl, ?_⟩
    refine ite2 (fun q => absurd q ?_) (fun _ => ?_)
    · simp [hne]
    · refine fun d hd => ⟨_, rfl, t, l, hs.map V.str, rfl, ?_, ?_⟩
      · exact (hl.ex (x1.trans (Evl.Ex.new hd))).sq
      · refine for_it (walk_enumA (t := t) (xs := hs.map V.str)) (fun i σ H' => ∃ v2 v3, σ = [some (.ref l), some (.ref d), v2, v3] ∧ Evl.Ex H H' ∧ H' d = some (.dK (tab (hs.take i) fun _ => .bl true))) ?_ ?_ ?_ ?_
        · exact ⟨none, none, rfl, x1.trans (Evl.Ex.new hd), upd_same⟩
        · rintro i σ H' _ ⟨v2, v3, rfl, x2, e2⟩
          exact (hl.ex x2).sq
        · rintro i y σ H' _ hi ⟨v2, v3, rfl, x2, e2⟩ ⟨T, u, z, rfl, hT, rfl, hu, hz⟩
          injection hu with hu
          subst hu
          rw [List.length_map] at hi
          obtain ⟨h, hh⟩ := getD_of hi
          have hz : (hs.map V.str)[i]? = some z := hz
          rw [List.getElem?_map, hh] at hz
          injection hz with hz
          subst hz
          have hm : h ∈ hs := List.mem_of_getElem? hh
          have hdT : d ≠ T := ne_of_none e2 hT
          refine ⟨T, _, rfl, SqT.of upd_same, rfl, _, _, rfl, _, _, rfl, rfl, _, rfl, h, rfl, hgood h hm, fun H3 x3 => ⟨_, rfl, ?_⟩⟩
          have e3 : H3 d = some (.dK (tab (hs.take i) fun _ => .bl true)) := x3 _ _ (by rw [upd_ne hdT]; exact e2)
          have hni : h ∉ hs.take i := fun z => by
            obtain ⟨j, hj⟩ := List.mem_iff_getElem?.mp z
            have lt : j < i := by
              have := (List.getElem?_eq_some_iff.mp hj).1
              rw [List.length_take] at this
              omega
            rw [List.getElem?_take_of_lt lt] at hj
            have := (List.getElem?_inj (by omega) hnd).mp (hj.trans hh.symm)
            omega
          refine ite2 (fun q => absurd q (by decide)) (fun _ => ⟨_, rfl, _, rfl, d, _, rfl, DGet.k (k := Sum.inr h) e3, _, rfl, ?_⟩)
          rw [val_out hni]
          refine iteF ?_
          refine ⟨_, rfl, _, rfl, d, _, rfl, DPut.k (k := Sum.inr h) e3 ?_, ?_⟩
          · rw [tab_length, List.length_take]
            exact Nat.lt_of_le_of_lt (show min i hs.length ≤ 1000 by omega) (by decide)
          · refine ⟨_, _, rfl, ?_, ?_⟩
            · exact ex_upd ((x2.trans (Evl.Ex.new hT)).trans x3) (by
                cases q : H d with
                | none => rfl
                | some o =>
                  rw [x1 _ _ q] at hd
                  cases hd)
            · rw [upd_same, put_new hni, List.take_add_one, hh]
              congr 2
              exact tab_congr fun x _ => by split <;> rfl
        · rintro σ H' ⟨v2, v3, rfl, x2, e2⟩
          exact k _ x2
theorem ok_isPairL {f fL : Addr} {fd fdL : FuncData} (F : FnP K "is_pair" sIsPair f fd) (GL : FnOk P w K mg base CX0 1 fL fdL ["thing"] spIsLst) (bL : L2.Binds K fdL ["thing"] []) (kL : PySem.W.keepIn K (.ref fL) = true) (gLs : mg "is_listed" = some (.ref fL)) (gLe : mg "len" = none) :
    FnOk P w K mg base CX0 2 f fd ["thing"] spIsPairL := by
  refine F.ok scIsPair (fun vs H Q E h => ?_) (fun cdv A outer s H vs Q E hr h => ?_)
  · obtain ⟨b, t, x, y, rfl, _⟩ := h
    rfl
  · obtain ⟨b, t, x, y, rfl, ht, k⟩ := h
    refine ⟨_, PSs.nox (pss_one (ps_ret (pe_and (pe_call GL hr rfl gLs kL bL .nil pass0 (pa_cons (pv 0) pa_nil)) (pe_one (pe_cmpR op_eq (pe_callB call_len_seq (by rfl) gLe PySem.boot_len (pa_cons (pv 0) pa_nil)) pe_int (nomark _)))))), ?_⟩
    obtain ⟨nm, hpl, hlb⟩ := ht.pl
    refine ⟨_, rfl, _, nm, rfl, hpl, fun H1 x1 => ⟨_, rfl, ?_⟩⟩
    rw [hlb]
    exact iteT ⟨_, rfl, t, _, rfl, sqk_or (ht.ex x1).sq, rfl, k _ x1⟩
theorem ok_pathsCL {f fL fP fJ fB : Addr} {fd fdL fdP fdJ fdB : FuncData} (F : FnP K "checked_paths" sPathsC f fd)
    (GL : FnOk P w K mg base CX0 1 fL fdL ["thing"] spIsLst) (bL : L2.Binds K fdL ["thing"] []) (kL : PySem.W.keepIn K (.ref fL) = true) (gLs : mg "is_listed" = some (.ref fL))
    (GP : FnOk P w K mg base CX0 2 fP fdP ["thing"] spIsPairL) (bP : L2.Binds K fdP ["thing"] []) (kP : PySem.W.keepIn K (.ref fP) = true) (gP : mg "is_pair" = some (.ref fP))
    (GJ : FnOk P w K mg base CX0 1 fJ fdJ ["group", "one", "other"] spJoined) (bJ : L2.Binds K fdJ ["group", "one", "other"] []) (kJ : PySem.W.keepIn K (.ref fJ) = true) (gJ : mg "joined_groups" = some (.ref fJ))
    (GB : FnOk P w K mg base CX0 1 fB fdB ["one", "other"] spBetween) (bB : L2.Binds K fdB ["one", "other"] []) (kB : PySem.W.keepIn K (.ref fB) = true) (gB : mg "path_between" = some (.ref fB))
    (gI : mg "isinstance" = none) (gT : mg "str" = none) (gE : mg "enumerate" = none) (gA : mg "all" = none) (gS : mg "sorted" = none) : FnOk P w K mg base CX0 3 f fd ["houses", "paths"] spPathsCL := by
  refine F.ok scPathsC (fun vs H Q E h => ?_) (fun cdv A outer s H vs Q E hr h => ?_)
  · obtain ⟨tq, l, q, hs, _, qs, rfl, _⟩ := h
    rfl
  · obtain ⟨tq, l, q, hs, _, qs, rfl, hl, hq, hP, T, hne, h1k, hq1k, _, k⟩ := h
    refine' ⟨_, PSs.nox (pss_cons (ps_if (pt_not (pt_val (pe_call GL (hr.mono (by decide)) rfl gLs kL bL .nil pass0 (pa_cons (pv 1) pa_nil)))) pss_never pss_nil)
      (pss_cons (ps_set (i := 2) scPathsC.nd rfl (.inr rfl) ?dc)
      (pss_cons (ps_set (i := 3) scPathsC.nd rfl (.inl rfl) (pe_lst pa_nil))
      (pss_cons (ps_for PassesOwn.never rfl (pi_enumA rfl gE (pa_cons (pv 1) pa_nil)) (pg_tup rfl (pgs_cons (pg_name (i := 4) scPathsC.nd rfl (.inl rfl)) (pgs_cons (pg_name (i := 5) scPathsC.nd rfl (.inl rfl)) pgs_nil)))
        (pss_cons (ps_if (PW.pt (pw_or (pt_not (pt_val (pe_call GP hr rfl gP kP bP .nil pass0 (pa_cons (pv 5) pa_nil)))) (pw_or1 (pt_not (pt_val (pe_callB (cr_all rfl) (by rfl) gA (by decide +kernel) (pa_cons ?lc pa_nil))))))) pss_never pss_nil)
        (pss_cons (ps_if (pt_cmpR op_eq (pe_dget (hu_of hr) (pv 2) (pe_ix ix_seq (pv 5) pe_int (fun _ _ => rfl)) (fun _ _ => rfl)) (pe_dget (hu_of hr) (pv 2) (pe_ix ix_seq (pv 5) pe_int (fun _ _ => rfl)) (fun _ _ => rfl)) (nomark _)) pss_never pss_nil)
        (pss_cons (ps_set (i := 2) scPathsC.nd rfl (.inr rfl) (pe_call GJ (hr.mono (by decide)) rfl gJ kJ bJ .nil pass0 (pa_cons (pv 2) (pa_cons (pe_dget (hu_of hr) (pv 2) (pe_ix ix_seq (pv 5) pe_int (fun _ _ => rfl)) (fun _ _ => rfl)) (pa_cons (pe_dget (hu_of hr) (pv 2) (pe_ix ix_seq (pv 5) pe_int (fun _ _ => rfl)) (fun _ _ => rfl)) pa_nil)))))
        (pss_one (ps_expr (pe_bm PySem.F.plainAttrs_list PySem.F.slot_list_append PySem.F.type_list_append mt_append (pv 3) (pa_cons (pe_call GB (hr.mono (by decide)) rfl gB kB bB .nil pass0 (pa_cons (pe_ix ix_seq (pv 5) pe_int (fun _ _ => rfl)) (pa_cons (pe_ix ix_seq (pv 5) pe_int (fun _ _ => rfl)) pa_nil))) pa_nil))))))))
      (pss_cons (ps_for PassesOwn.never rfl (pi_list (pv 0)) (pg_name (i := 6) scPathsC.nd rfl (.inl rfl))
        (pss_one (ps_if (pt_cmpR op_ne (pe_dget (hu_of hr) (pv 2) (pv 6) (fun _ _ => rfl)) (pe_dget (hu_of hr) (pv 2) (pe_ix ix_list (pv 0) pe_int (fun _ _ => rfl)) (fun _ _ => rfl)) (nomark _)) pss_never pss_nil)))
      (pss_one (ps_ret (pe_callB Srs.cr_sortedPT (by rfl) gS (by decide +kernel) (pa_cons (pv 3) pa_nil))))))))), ?rd⟩
    case dc =>
      exact pe_dc (own := [("house", 6)]) (g := gName 6) (tt := tYes) (tk := tVar 6) (tv := tVar 6) rfl scPathsC.nd (pi_list (pv 0))
        (blkOk_by (own := [("house", 6)]) (N := ["houses", "paths", "group", "told", "index", "pair", "house"]) (sc := defScope sPathsC) (by decide +kernel)) (fun _ _ _ _ _ => pg_name (i := 6) scPathsC.nd rfl (.inl rfl)) (fun _ _ _ _ _ => pts_nil) (fun _ _ _ _ _ => pv 6) (fun _ _ _ _ _ => pv 6)
    case lc =>
      refine pe_lc (own := [("house", 6)]) (g := gName 6) (tt := tYes) (te := tAndV (tCB (rIsi K) (tCons (tVar 6) (tCons (tC (.ty "str")) tNil))) (tDIn (tVar 6) (tVar 2))) rfl scPathsC.nd (pi_sq (pv 5))
        (blkOk_by (own := [("house", 6)]) (N := ["houses", "paths", "group", "told", "index", "pair", "house"]) (sc := defScope sPathsC) (by decide +kernel)) (fun _ _ _ _ _ => pg_name (i := 6) scPathsC.nd rfl (.inl rfl)) (fun _ _ _ _ _ => pts_nil) ?_
      intro _ _ _ _ _
      exact pe_and (pe_callB call_isi (by rfl) gI (by decide +kernel) (pa_cons (pv 6) (pa_cons (pe_bltn (v := .ty "str") rfl gT (by decide +kernel) rfl) pa_nil))) (pe_one (pe_cmp (pc_din (hu_of hr) (pv 6) (pv 2)) rfl))
    obtain ⟨I, I0, I1, I2⟩ := T.groups
    have hnd := T.nd
    obtain ⟨nmq, hplq, hlbq⟩ := hq.pl
    refine ⟨_, rfl, _, nmq, rfl, hplq, fun H1 x1 => ⟨_, rfl, ?_⟩⟩
    rw [hlbq]
    refine ite2 (fun q => absurd q (by decide)) (fun _ => ?_)
    refine ⟨_, rfl, l, rfl, ⟨_, SqL.of (x1 _ _ hl)⟩, fun D hD => ?_⟩
    refine dc_it (walk_list (xs := hs.map V.str)) (fun i H' => Evl.Ex H H' ∧ H' D = some (.dK (tab (hs.take i) fun x => .str x))) ?_ ?_ ?_ ?_
    · exact ⟨x1.trans (Evl.Ex.new hD), upd_same⟩
    · intro i H' _ hp
      exact SqL.of (hp.1 _ _ hl)
    · rintro i y H2 H3 hi ⟨e1, e2⟩ ⟨rfl, hy⟩
      rw [List.length_map] at hi
      obtain ⟨h, hh⟩ := getD_of hi
      rw [List.getElem?_map, hh] at hy
      cases hy
      have hni : h ∉ hs.take i := fun z => by
        obtain ⟨j, hj⟩ := List.mem_iff_getElem?.mp z
        have lt : j < i := by
          have := (List.getElem?_eq_some_iff.mp hj).1
          rw [List.length_take] at this
          omega
        rw [List.getElem?_take_of_lt lt] at hj
        have := (List.getElem?_inj (by omega) hnd).mp (hj.trans hh.symm)
        omega
      refine ⟨rfl, _, rfl, _, rfl, _, Sum.inr h, rfl, e2, ?_, ex_upd e1 ?_, ?_⟩
      · rw [tab_length, List.length_take]
        exact Nat.lt_of_le_of_lt (show min i hs.length ≤ 1000 by omega) (by decide)
      · cases q0 : H D with
        | none => rfl
        | some o => rw [x1 _ _ q0] at hD; cases hD
      · rw [upd_same, put_new hni, List.take_add_one, hh]
        congr 2
        exact tab_congr fun x _ => by split <;> simp_all
    · rintro H2 ⟨x2, e2⟩
      rw [List.length_map, List.take_length] at e2
      refine ⟨by show 0 ≤ sizeLine; decide, fun fo hfo => ?_⟩
      have hfoH : H fo = none := by
        cases q0 : H fo with
        | none => rfl
        | some o => rw [x2 _ _ q0] at hfo; cases hfo
      have hDf : D ≠ fo := ne_of_none e2 hfo
      refine ⟨_, rfl, tq, q, qs.map fun r => V.ref r.1, rfl, (hq.ex (x2.trans (Evl.Ex.new hfo))).sq, ?_⟩
      refine for_it (walk_enumA (t := tq) (xs := qs.map fun r => V.ref r.1)) (fun i σ H' => ∃ G g v4 v5 v6 zs, σ = [some (.ref l), some (.ref q), some (.ref G), some (.ref fo), v4, v5, v6] ∧ Evl.Ex H H' ∧ H' G = some (.dK (tab hs fun x => .str (g x))) ∧ I ((qs.map (·.2)).take i) g ∧
        H' fo = some (.lst (refsL zs)) ∧ PrsAt H' zs ∧ zs.map (·.2) = ((qs.map (·.2)).take i).map ordP ∧ ∀ t ∈ zs, H t.1 = none) ?_ ?_ ?_ ?_
      · exact ⟨D, id, none, none, none, [], rfl, x2.trans (Evl.Ex.new hfo), by rw [upd_ne hDf]; exact e2, I0 _ (fun x _ y _ e => e), upd_same, fun t ht => absurd ht (by simp), rfl, fun t ht => absurd ht (by simp)⟩
      · rintro i σ H' _ ⟨G, g, v4, v5, v6, zs, rfl, f1, _⟩
        exact (hq.ex f1).sq
      · rintro i y σ H3 H4 hi ⟨G, g, v4, v5, v6, zs, rfl, f1, f2, f3, f4, f5, f6, f7⟩ ⟨TT, u, z, rfl, hTT, rfl, hu, hz⟩
        injection hu with hu
        subst hu
        have hz : (qs.map fun r => V.ref r.1)[i]? = some z := hz
        rw [List.length_map] at hi
        obtain ⟨t, ht⟩ := getD_of hi
        rw [List.getElem?_map, ht] at hz
        cases hz
        have tm := List.mem_of_getElem? ht
        obtain ⟨Ta, a, b⟩ := t
        have hab : (a, b) ∈ qs.map (·.2) := List.mem_map.mpr ⟨_, tm, rfl⟩
        obtain ⟨m1, m2⟩ := T.mem (.inl hab)
        have tk : (qs.map (·.2)).take (i + 1) = (qs.map (·.2)).take i ++ [(a, b)] := by rw [List.take_add_one, List.getElem?_map, ht]; rfl
        have hnt : (a, b) ∉ (qs.map (·.2)).take i := fun z => by
          obtain ⟨j, hj⟩ := List.mem_iff_getElem?.mp z
          have lt : j < i := by
            have := (List.getElem?_eq_some_iff.mp hj).1
            rw [List.length_take] at this
            omega
          rw [List.getElem?_take_of_lt lt] at hj
          have e9 : (qs.map (·.2))[i]? = some (a, b) := by rw [List.getElem?_map, ht]; rfl
          have := (List.getElem?_inj (by rw [List.length_map]; omega) T.np).mp (hj.trans e9.symm)
          omega
        obtain ⟨gne, gnext⟩ := I1 _ g a b f3 hab (fun q hq => List.mem_of_mem_take hq) hnt
        refine ⟨TT, _, rfl, SqT.of upd_same, rfl, _, _, rfl, _, _, rfl, rfl, ?_⟩
        have x4 : Evl.Ex H (upd H3 TT (.tup [.int (i : Nat), .ref Ta])) := f1.trans (Evl.Ex.new hTT)
        have y4 : Evl.Ex H3 (upd H3 TT (.tup [.int (i : Nat), .ref Ta])) := Evl.Ex.new hTT
        generalize upd H3 TT (.tup [.int (i : Nat), .ref Ta]) = H4 at x4 y4 ⊢
        obtain ⟨tb, hTa0⟩ := hP _ tm
        have hTa : ∀ {H'}, Evl.Ex H H' → Lt H' tb Ta [.str a, .str b] := fun e => Lt.ex hTa0 e
        refine ⟨_, rfl, tb, Ta, .str a, .str b, rfl, hTa x4, fun H5 x5 => ⟨_, rfl, ?_⟩⟩
        refine ite2 (fun q => absurd q (by decide)) (fun _ => ?_)
        have hTa5 : Lt H5 tb Ta [.str a, .str b] := (hTa x4).ex x5
        refine ⟨_, rfl, tb, Ta, _, rfl, hTa5.sq, fun LL hLL => ?_⟩
        have hG5 : H5 G = some (.dK (tab hs fun x => .str (g x))) := x5 _ _ (y4 _ _ f2)
        have hGL : G ≠ LL := ne_of_none hG5 hLL
        refine lc_it (walk_sq (xs := [.str a, .str b])) (fun j H' => Evl.Ex H5 H' ∧ H' LL = some (.lst ((List.replicate j true).map V.bl))) ⟨Evl.Ex.new hLL, upd_same⟩ (fun j H' _ hp => (hTa5.ex hp.1).sq) (fun j x H6 H7 hj hp hy => ?_) (fun H6 hp => ?_)
        · obtain ⟨g1, g2⟩ := hp
          obtain ⟨rfl, hx⟩ := hy
          obtain ⟨h, rfl, hm⟩ : ∃ h, x = .str h ∧ h ∈ hs := by
            have hj : j < 2 := hj
            have : j = 0 ∨ j = 1 := by omega
            rcases this with rfl | rfl
            · exact ⟨a, (Option.some.inj hx).symm, m1⟩
            · exact ⟨b, (Option.some.inj hx).symm, m2⟩
          have hG6 : DGet H7 G (kV (Sum.inr h)) (some (.str (g h))) := by have := DGet.k (k := Sum.inr h) (g1 _ _ hG5); rw [val_in hm] at this; exact this
          refine ⟨rfl, _, rfl, _, _, _, _, _, rfl, .ty _, (Pl.str h : Pl H7 (.str h) "str").ty, (Pl.str h : Pl H7 (.str h) "str").one "str", _, rfl, iteT ⟨_, rfl, _, rfl, G, _, rfl, hG6, _, g2, ?_, ex_upd g1 hLL, ?_⟩⟩
          · rw [List.length_map, List.length_replicate]
            exact Nat.lt_of_lt_of_le (show j < 2 from hj) (by decide)
          · rw [upd_same, List.replicate_succ', List.map_append]
            rfl
        · obtain ⟨g1, g2⟩ := hp
          refine ⟨LL, List.replicate 2 true, rfl, SqL.of g2, _, rfl, ?_⟩
          refine iteF ?_
          have x6 : Evl.Ex H H6 := (x4.trans x5).trans g1
          have hG6 : H6 G = some (.dK (tab hs fun x => .str (g x))) := g1 _ _ hG5
          have ga : DGet H6 G (kV (Sum.inr a)) (some (.str (g a))) := by have := DGet.k (k := Sum.inr a) hG6; rw [val_in m1] at this; exact this
          have gb : DGet H6 G (kV (Sum.inr b)) (some (.str (g b))) := by have := DGet.k (k := Sum.inr b) hG6; rw [val_in m2] at this; exact this
          have t6 := hTa x6
          refine ⟨_, rfl, _, rfl, t6.ix (j := 0) rfl ⟨G, _, rfl, ga, _, rfl, _, rfl, t6.ix (j := 1) rfl ⟨G, _, rfl, gb, rfl, _, rfl, ?_⟩⟩⟩
          refine ite2 (fun q => absurd (of_decide_eq_true q) (fun z => gne (V.str.inj z))) (fun _ => ?_)
          refine ⟨_, rfl, _, rfl, _, rfl, t6.ix (j := 0) rfl ⟨G, _, rfl, ga, _, rfl, _, rfl, t6.ix (j := 1) rfl ⟨G, _, rfl, gb, ?_⟩⟩⟩
          refine ⟨G, g a, g b, hs, g, rfl, hG6, hnd, h1k, fun G' H7 hG' x7 hG7 => ?_⟩
          have x6' : Evl.Ex H4 H6 := x5.trans g1
          have x47 : Evl.Ex H3 H7 := y4.trans (x6'.trans x7)
          have hf7 : H7 fo = some (.lst (refsL zs)) := x47 _ _ f4
          have t7 : Lt H7 tb Ta [.str a, .str b] := hTa (x6.trans x7)
          have hzl : zs.length = i := by
            have := congrArg List.length f6
            rw [List.length_map, List.length_map, List.length_take, List.length_map] at this
            omega
          refine ⟨_, rfl, .inl ⟨rfl, _, SqL.of hf7⟩, _, rfl, t7.ix (j := 0) rfl ⟨_, rfl, t7.ix (j := 1) rfl ⟨a, b, rfl, fun U hU => ?_⟩⟩⟩
          have hfU : fo ≠ U := ne_of_none hf7 hU
          have hUH : H U = none := by
            cases q0 : H U with
            | none => rfl
            | some o => rw [x7 _ _ (x6 _ _ q0)] at hU; cases hU
          refine ⟨fo, _, _, rfl, rfl, by rw [upd_ne hfU]; exact hf7, ?_, ?_⟩
          · unfold refsL
            rw [List.length_map, hzl]
            exact Nat.lt_of_le_of_lt (show i ≤ 1000 by omega) (by decide)
          · refine ⟨G', fun x => if g x = g b then g a else g x, some (.int (i : Nat)), some (.ref Ta), _, zs ++ [(U, ordP (a, b))], rfl, ?_⟩
            refine ⟨ex_upd ((x6.trans x7).trans (Evl.Ex.new hU)) hfoH, ?_, ?_, ?_, fun t ht => ?_, ?_, fun t ht => ?_⟩
            · have hGf : G' ≠ fo := fun z => by rw [z, x6' _ _ (y4 _ _ f4)] at hG'; cases hG'
              rw [upd_ne hGf, upd_ne (ne_of_none hG7 hU)]
              exact hG7
            · rw [tk]
              exact gnext _ fun x hx => rfl
            · unfold refsL
              rw [upd_same, List.map_append]
              rfl
            · rcases List.mem_append.mp ht with ht | ht
              · have := x47 _ _ (f5 t ht)
                rw [upd_ne (fun z => by rw [z, hf7] at this; cases this), upd_ne (ne_of_none this hU)]
                exact this
              · simp only [List.mem_singleton] at ht
                subst ht
                rw [upd_ne hfU.symm]
                exact upd_same
            · rw [List.map_append, f6, tk, List.map_append]
              rfl
            · rcases List.mem_append.mp ht with ht | ht
              · exact f7 t ht
              · simp only [List.mem_singleton] at ht
                subst ht
                exact hUH
      · rintro σ H3 ⟨G, g, v4, v5, v6, zs, rfl, f1, f2, f3, f4, f5, f6, f7⟩
        have lenR : (qs.map fun r => V.ref r.1).length = (qs.map (·.2)).length := by rw [List.length_map, List.length_map]
        rw [lenR, List.take_length] at f3 f6
        have same := I2 _ g f3 (fun _ h => h)
        obtain ⟨h0, hh0⟩ : ∃ h0, hs[0]? = some h0 := getD_of (List.length_pos_iff.mpr hne)
        have m0 : h0 ∈ hs := List.mem_of_getElem? hh0
        refine ⟨_, rfl, l, rfl, ⟨_, SqL.of (f1 _ _ hl)⟩, ?_⟩
        refine for_it (walk_list (xs := hs.map V.str)) (fun i σ H' => H' = H3 ∧ ∃ v6, σ = [some (.ref l), some (.ref q), some (.ref G), some (.ref fo), v4, v5, v6]) ⟨rfl, _, rfl⟩ ?_ ?_ ?_
        · rintro i σ H' _ ⟨rfl, _⟩
          exact SqL.of (f1 _ _ hl)
        · rintro i y σ H4 H5 hi ⟨rfl, w6, rfl⟩ ⟨rfl, hy⟩
          rw [List.length_map] at hi
          obtain ⟨h, hh⟩ := getD_of hi
          rw [List.getElem?_map, hh] at hy
          cases hy
          have hm := List.mem_of_getElem? hh
          have ga : DGet H5 G (kV (Sum.inr h)) (some (.str (g h))) := by have := DGet.k (k := Sum.inr h) f2; rw [val_in hm] at this; exact this
          have gb : DGet H5 G (kV (Sum.inr h0)) (some (.str (g h0))) := by have := DGet.k (k := Sum.inr h0) f2; rw [val_in m0] at this; exact this
          have e0 : (hs.map V.str)[0]? = some (.str h0) := by rw [List.getElem?_map, hh0]; rfl
          refine ⟨_, rfl, _, rfl, G, _, rfl, ga, _, rfl, _, rfl, l, _, _, _, rfl, rfl, SqL.of (f1 _ _ hl), atI_nat (j := 0) e0, G, _, rfl, gb, rfl, _, rfl, ?_⟩
          rw [same h hm h0 m0]
          refine ite2 (fun q => absurd q (by simp)) (fun _ => ⟨rfl, _, rfl⟩)
        · rintro σ H4 ⟨rfl, w6, rfl⟩
          refine ⟨_, rfl, fo, refsL zs, prOf H4, rfl, SqL.of f4, fun x hx => ?_, fun ys p hys hsr hp => ?_⟩
          · obtain ⟨t, ht, rfl⟩ := List.mem_map.mp hx
            exact ⟨t.1, rfl, by rw [prOf_at (f5 t ht)]; exact f5 t ht⟩
          · obtain ⟨ws, hws, rfl⟩ := snd_refs hys
            have hpH : H p = none := by
              cases q0 : H p with
              | none => rfl
              | some o => rw [f1 _ _ q0] at hp; cases hp
            have f5' : PrsAt H4 ws := fun t ht => f5 t (hws.mem_iff.mp ht)
            refine k p ws _ hpH (f1.trans (Evl.Ex.new hp)) upd_same (f5'.ex (Evl.Ex.new hp)) ?_ ?_ (fun t ht => f7 t (hws.mem_iff.mp ht))
            · rw [← f6]
              exact hws.map _
            · rw [← prOf_refs f5']
              exact List.pairwise_map.mpr hsr
theorem ok_initL {f fC fP fN : Addr} {fd fdC fdP fdN : FuncData} (F : FnM K "__init__" "Village.__init__" sInit f fd)
    (GC : FnOk P w K mg base CX0 2 fC fdC ["houses"] spCheckL) (bC : L2.Binds K fdC ["houses"] []) (kC : PySem.W.keepIn K (.ref fC) = true) (gC : mg "check_houses" = some (.ref fC))
    (GP : FnOk P w K mg base CX0 3 fP fdP ["houses", "paths"] spPathsCL) (bP : L2.Binds K fdP ["houses", "paths"] []) (kP : PySem.W.keepIn K (.ref fP) = true) (gP : mg "checked_paths" = some (.ref fP))
    (GN : FnOk P w K mg base CX0 1 fN fdN ["houses", "paths"] spNear) (bN : L2.Binds K fdN ["houses", "paths"] []) (kN : PySem.W.keepIn K (.ref fN) = true) (gN : mg "near_houses" = some (.ref fN))
    (gS : mg "sorted" = none) : FnOk P w K mg base CX0 4 f fd ["self", "houses", "paths"] (spInitL K) := by
  refine F.ok scInit (fun vs H Q E h => ?_) (fun cdv A outer s H vs Q E hr h => ?_)
  · obtain ⟨tl, tq, v, l, q, C, dx, hs, qs, rfl, _⟩ := h
    rfl
  · obtain ⟨tl, tq, v, l, q, C, dx, hs, qs, rfl, hv, cl, n1, n2, n3, hl, hq, hP, T, hne, h12, q12, hgood, k⟩ := h
    refine ⟨_, PSs.nox (pss_cons (ps_expr (pe_call GC (hr.mono (by decide)) rfl gC kC bC .nil pass0 (pa_cons (pv 1) pa_nil)))
      (pss_cons (ps_fld (pv 0) (pe_callB Stt.cr_sortedSq (by rfl) gS (by decide +kernel) (pa_cons (pv 1) pa_nil)) rfl)
      (pss_cons (ps_fld (pv 0) (pe_call GP hr rfl gP kP bP .nil pass0 (pa_cons (pe_fld (pv 0) rfl) (pa_cons (pv 2) pa_nil))) rfl)
      (pss_one (ps_fld (pv 0) (pe_call GN (hr.mono (by decide)) rfl gN kN bN .nil pass0 (pa_cons (pe_fld (pv 0) rfl) (pa_cons (pe_fld (pv 0) rfl) pa_nil))) rfl))))), ?_⟩
    refine ⟨_, rfl, tl, l, hs, rfl, hl, hne, T.nd, Nat.le_trans h12 (by decide), hgood, fun H1 x1 => ?_⟩
    refine ⟨_, rfl, l, hs, rfl, sqk_or (hl.ex x1).sq, by omega, fun ys p hys hsr hp => ?_⟩
    have hv1 : H1 v = some (.ins C dx []) := x1 _ _ hv
    have hvp : v ≠ p := ne_of_none hv1 hp
    refine ⟨_, rfl, v, C, dx, [], rfl, by rw [upd_ne hvp]; exact hv1, cl, n1, by decide, ?_⟩
    show tSeq _ _ _ _ (upd (upd H1 p (.lst (ys.map V.str))) v (.ins C dx [("_houses", .ref p)]))
    have keep : ∀ b o, b ≠ v → H b = some o → upd (upd H1 p (.lst (ys.map V.str))) v (.ins C dx [("_houses", .ref p)]) b = some o := fun b o hb e => by
      have := x1 _ _ e
      rw [upd_ne hb, upd_ne (ne_of_none this hp)]
      exact this
    have g1 : upd (upd H1 p (.lst (ys.map V.str))) v (.ins C dx [("_houses", .ref p)]) v = some (.ins C dx [("_houses", .ref p)]) := upd_same
    have g2 : upd (upd H1 p (.lst (ys.map V.str))) v (.ins C dx [("_houses", .ref p)]) p = some (.lst (ys.map V.str)) := by rw [upd_ne hvp.symm]; exact upd_same
    generalize upd (upd H1 p (.lst (ys.map V.str))) v (.ins C dx [("_houses", .ref p)]) = H2 at keep g1 g2
    have hqv : q ≠ v := fun z => by rw [z] at hq; exact lt_ins hq hv
    have hqn : ∀ t ∈ qs, t.1 ≠ v := fun t ht z => by
      obtain ⟨_, this⟩ := hP t ht
      rw [z] at this
      exact lt_ins this hv
    have T2 : Tree ys (qs.map (·.2)) := T.perm hys (List.Perm.refl _)
    have hyl : ys.length = hs.length := hys.length_eq
    have yne : ys ≠ [] := fun z => hne (List.length_eq_zero_iff.mp (by rw [← hyl, z]; rfl))
    refine ⟨_, rfl, v, C, dx, _, .ref p, rfl, g1, cl, n1, rfl, _, rfl, tq, p, q, ys, ys, qs, rfl, g2, keep _ _ hqv hq, fun t ht => (hP t ht).imp fun _ z => keep _ _ (hqn t ht) z, T2, yne, by omega, by omega, rfl, fun r zs H3 hr3 x3 h3 hP3 hpm hpw hfr => ?_⟩
    have hvr : v ≠ r := ne_of_none g1 hr3
    refine ⟨_, rfl, v, C, dx, [("_houses", .ref p)], rfl, x3 _ _ g1, cl, n2, (by show 1 < 1000; decide), ?_⟩
    rw [put2]
    have k3 : ∀ b o, b ≠ v → H2 b = some o → upd H3 v (.ins C dx [("_houses", .ref p), ("_paths", .ref r)]) b = some o := fun b o hb e => by rw [upd_ne hb]; exact x3 _ _ e
    have k3' : ∀ b o, b ≠ v → H3 b = some o → upd H3 v (.ins C dx [("_houses", .ref p), ("_paths", .ref r)]) b = some o := fun b o hb e => by rw [upd_ne hb]; exact e
    have g4 : upd H3 v (.ins C dx [("_houses", .ref p), ("_paths", .ref r)]) v = some (.ins C dx [("_houses", .ref p), ("_paths", .ref r)]) := upd_same
    generalize upd H3 v (.ins C dx [("_houses", .ref p), ("_paths", .ref r)]) = H4 at k3 k3' g4
    have g5 : H4 p = some (.lst (ys.map V.str)) := k3 _ _ hvp.symm g2
    have g6 : H4 r = some (.lst (refsL zs)) := k3' _ _ hvr.symm h3
    have zn : ∀ t ∈ zs, t.1 ≠ v := fun t ht z => by have := hfr t ht; rw [z, g1] at this; cases this
    have hP4 : PrsAt H4 zs := fun t ht => k3' _ _ (zn t ht) (hP3 t ht)
    have T3 : Tree ys (zs.map (·.2)) := (T2.turn ordP ordP_or).perm (List.Perm.refl _) hpm
    have zl : zs.length = qs.length := by have := hpm.length_eq; rw [List.length_map, List.length_map, List.length_map] at this; exact this
    refine ⟨_, rfl, v, C, dx, _, .ref p, rfl, g4, cl, n1, rfl, _, rfl, v, C, dx, _, .ref r, rfl, g4, cl, n2, rfl, p, r, ys, zs, rfl, g5, g6, hP4, T3.nd, by omega, by omega, fun t ht => T3.mem (.inl (List.mem_map.mpr ⟨t, ht, rfl⟩)), fun d ad H5 hd had x5 hN => ?_⟩
    refine ⟨_, rfl, v, C, dx, [("_houses", .ref p), ("_paths", .ref r)], rfl, x5 _ _ g4, cl, n3, (by show 2 < 1000; decide), ?_⟩
    rw [put3]
    have k5 : ∀ b o, b ≠ v → H5 b = some o → upd H5 v (.ins C dx [("_houses", .ref p), ("_paths", .ref r), ("_near", .ref d)]) b = some o := fun b o hb e => by rw [upd_ne hb]; exact e
    have nd : d ≠ v := (ne_of_none g4 hd).symm
    have nad : ∀ h ∈ ys, ad h ≠ v := fun h hh => (ne_of_none g4 (had h hh)).symm
    refine k _ ys (zs.map (·.2)) ⟨dx, p, r, d, zs, ad⟩ (fun b o hb e => k5 _ _ hb (x5 _ _ (k3 _ _ hb (keep _ _ hb e)))) ⟨upd_same, k5 _ _ hvp.symm (x5 _ _ g5), k5 _ _ hvr.symm (x5 _ _ g6), fun t ht => k5 _ _ (zn t ht) (x5 _ _ (hP4 t ht)), rfl, k5 _ _ nd hN.1, fun h hh => k5 _ _ (nad h hh) (hN.2 h hh)⟩ hys hsr hpm hpw T3 ⟨?_, ?_, ?_, fun t ht => ?_, fun h hh => ?_⟩
    · exact none_of (fun o e => x1 _ _ e) hp
    · exact none_of (fun o e => keep _ _ hvr.symm e) hr3
    · exact none_of (fun o e => k3 _ _ nd (keep _ _ nd e)) hd
    · exact none_of (fun o e => keep _ _ (zn t ht) e) (hfr t ht)
    · exact none_of (fun o e => k3 _ _ (nad h hh) (keep _ _ (nad h hh) e)) (had h hh)
end
end K11

namespace Lm
open PySem PySem.W PySem.Spec PySem.Calls PyProof.Rows L2
/-! ### a lambda is made, and its own code object's table is known, too -/
section
variable {M : Model} {A : Around} {E : Value → Shared → Prop} {s : Shared} {name qual : Str} {params : Arguments} {body : Expr} {scope : Scope} {env : Env} {c P : Addr} {ps : Array Value} {pos : Pos} {line : Nat} {mg : Str → Option Value} {clos : List (Str × Addr)} {Q : Value → Shared → Prop}
/-- what stands behind the making: the code object c2 with its table P2, still empty -/
structure Made (P : Addr) (ps : Array Value) (pos : Pos) (qual : Str) (h h' : Heap) (c2 P2 : Addr) : Prop where
  keep : Heap.ExtBut P h h'
  big : h.objs.size ≤ c2
  lt : c2 < h'.objs.size
  rec_ : h'.CodeRec (.ref c2) qual
  tab : h'.get? P = some (tabObj (ps ++ #[rawInt pos.line, rawInt pos.col, .ref c2]))
  big2 : h.objs.size ≤ P2
  head : CodeHd h' c2 P2
  tab2 : h'.get? P2 = some (tabObj #[])
theorem make_new (hcl : closureFor scope env = pure clos) (hgl : env.globals = mainGlobals) (hg : s.heap.Ns mainGlobals mg) (hcode : env.code = .ref c) (C : CodeHd s.heap c P) (hP : s.heap.get? P = some (tabObj ps)) (ht : TriplesOk ps.toList)
    (hnf : codeAmong pos ps.toList = none) (hgP : mainGlobals ≠ P) (hb : s.heap.BuiltinsAt mg P)
    (k : ∀ c2 P2 ctv h' tk, Made P ps pos qual s.heap h' c2 P2 → Q (.ref h'.objs.size) { s with heap := h'.push (kla_obj name qual params body scope clos ((mg "__name__").getD .none) c2 ctv), toks := tk }) :
    wpAny M A (makeFunction name qual params (.expr body) scope env [] [] [] pos line) Q E s := by
  rw [makeFunction_eq]
  simp only [List.zip_nil_right, List.filterMap_nil, List.isEmpty_nil, if_true, pure_bind]
  obtain ⟨bm, ob, b1, b2, _, b4, b5, b6, b7, b8⟩ := hb
  have code : ∀ (h0 : Heap) (R : Value → Shared → Prop), (∀ b o, s.heap.get? b = some o → h0.get? b = some o) → s.heap.objs.size ≤ h0.objs.size → h0.Ns mainGlobals mg →
      (∀ c2 P2 h' tk, Made P ps pos qual s.heap h' c2 P2 → h'.Ns mainGlobals mg → h'.get? bm = some ob → R (.ref c2) { s with heap := h', toks := tk }) → wpAny M A (functionCode env pos line name qual params scope (.expr body)) R E { s with heap := h0 } := by
    intro h0 R kp sz hg0 kR
    refine wpAny_functionCodeX hcode ((C.keeps kp).code (kp _ _ hP) ht) ((C.keeps kp).tab (kp _ _ hP)) hnf fun c2 h' tk hx hge hlt _ hrec htb ⟨P2, hP2, hic, hta⟩ => ?_
    have hx' : Heap.ExtBut P s.heap h' := fun b o hb' e => hx b o hb' (kp b o e)
    exact kR c2 P2 h' tk ⟨hx', Nat.le_trans sz hge, hlt, hrec, htb.2, Nat.le_trans sz hP2, CodeHd.of hic hta, hta.2⟩ (hg0.extBut hx hgP) (hx' _ _ b4 b5)
  unfold makeTail
  rw [hcl, hgl]
  refine wpAny_bind (wpAny_pure ?_)
  cases clos with
  | nil =>
    simp only [List.isEmpty_nil, if_true]
    refine wpAny_bind (wpAny_pure (wpAny_bind (code s.heap _ (fun _ _ e => e) (Nat.le_refl _) hg fun c2 P2 h' tk m hn hm => ?_)))
    refine wpAny_bind (wpAny_builtinsFor hn b1 b2 hm b6 b7 b8 (wpAny_bind (wpAny_nsGet hn ?_)))
    exact wpAny_bind (wpAny_pure (wpAny_newObj_type (k c2 P2 .none h' tk m) (by size_fits)))
  | cons q r =>
    simp only [List.isEmpty_cons, Bool.false_eq_true, if_false]
    refine wpAny_bind (wpAny_newTextTuple (wpAny_bind (code (s.heap.push _) _ (fun _ _ e => Heap.get?_push_of_some _ e) (by rw [Heap.size_push]; omega) (hg.push _) fun c2 P2 h' tk m hn hm => ?_)))
    refine wpAny_bind (wpAny_builtinsFor hn b1 b2 hm b6 b7 b8 (wpAny_bind (wpAny_nsGet hn ?_)))
    exact wpAny_bind (wpAny_pure (wpAny_newObj_type (k c2 P2 _ h' tk m) (by size_fits)))
end
/-- a code object of the name q, its table at P2 -/
def CodeT (c : Addr) (q : Str) (P2 : Addr) : HO := .ext fun h => h.CodeRec (.ref c) q ∧ CodeHd h c P2
theorem codeHd_at {h h' : Heap} {c P2 : Addr} (x : CodeHd h c P2) (e : ∀ o, h.get? c = some o → h'.get? c = some o) : CodeHd h' c P2 := by
  obtain ⟨o, r1, r2, r3, r4, r5, r6, r7, r8, g, r⟩ := x
  exact ⟨o, r1, r2, r3, r4, r5, r6, r7, r8, e _ g, r⟩
theorem codeT_ok {P : Program} {w : World} {H : Hp} {h : Heap} {c P2 : Addr} {q : Str} (r : h.CodeRec (.ref c) q) (hd : CodeHd h c P2) : ObjOk P w H h c (CodeT c q P2) := by
  refine ⟨⟨r, hd⟩, ?_, fun h1 h2 ⟨a, b⟩ st => ⟨a.at st, codeHd_at b st⟩⟩
  obtain ⟨_, o, _, _, e, g, _⟩ := r
  cases e
  exact ⟨o, g⟩
theorem codeT_ne {c P2 : Addr} {q : Str} (ps : Array Value) : CodeT c q P2 ≠ .tbl ps := fun z => by
  unfold CodeT at z
  cases z
section
variable {X : Cx} {pins : List (Addr × Obj)} {σ : L2.St} {H : Hp} {s : Shared}
theorem inv_made {P c2 P2 : Addr} {q : Str} {ps : Array Value} {pos : Pos} {h0 h' : Heap} {t' : Nat} (I : Inv X pins σ H s) (hP : H P = some (.tbl ps)) (m : Made P ps pos q s.heap h0 c2 P2) (kh : ∀ b o, h0.get? b = some o → h'.get? b = some o) :
    Inv X pins σ (upd (upd (upd H P (.tbl (ps ++ #[rawInt pos.line, rawInt pos.col, .ref c2]))) c2 (CodeT c2 q P2)) P2 (.tbl #[])) { s with heap := h', toks := t' } := by
  have nC : H c2 = none := I.hok.fresh m.big
  have n2 : H P2 = none := I.hok.fresh m.big2
  have c2P : c2 ≠ P2 := by
    obtain ⟨_, _, _, _, _, _, _, _, _, _, _, _, _, _, _, _, _, _, ne⟩ := m.head
    exact ne
  have nPc : P ≠ c2 := ne_of_none hP nC
  have nP2 : P ≠ P2 := ne_of_none hP n2
  have off : ∀ b, b ≠ P → b ≠ c2 → b ≠ P2 → upd (upd (upd H P (.tbl (ps ++ #[rawInt pos.line, rawInt pos.col, .ref c2]))) c2 (CodeT c2 q P2)) P2 (.tbl #[]) b = H b := fun b h1 h2 h3 => by rw [upd_ne h3, upd_ne h2, upd_ne h1]
  have atP : upd (upd (upd H P (.tbl (ps ++ #[rawInt pos.line, rawInt pos.col, .ref c2]))) c2 (CodeT c2 q P2)) P2 (.tbl #[]) P = some (.tbl (ps ++ #[rawInt pos.line, rawInt pos.col, .ref c2])) := by rw [upd_ne nP2, upd_ne nPc, upd_same]
  have notP : ∀ b u, H b = some u → (∀ z, u ≠ .tbl z) → b ≠ P := fun b u e z y => by
    rw [y, hP] at e
    exact z ps (Option.some.inj e).symm
  have freeP : ∀ b, H b = none → b ≠ P := fun b e z => by
    rw [z, hP] at e
    cases e
  have oldC : ∀ b o, s.heap.get? b = some o → b ≠ c2 := fun b o e z => Nat.lt_irrefl _ (Nat.lt_of_lt_of_le (Heap.lt_size e) (z ▸ m.big))
  have old2 : ∀ b o, s.heap.get? b = some o → b ≠ P2 := fun b o e z => Nat.lt_irrefl _ (Nat.lt_of_lt_of_le (Heap.lt_size e) (z ▸ m.big2))
  have kp : ∀ b o, b ≠ P → s.heap.get? b = some o → h'.get? b = some o := fun b o hb e => kh _ _ (m.keep b o hb e)
  refine I.step (g' := s.gens) (d' := s.drawn) (ch := []) (fun b hb => absurd hb (by simp)) (fun b o _ _ _ e n => kp b o (freeP b n) e) (fun b o _ _ _ e n => ⟨o.slots, kp b o (freeP b n) e⟩)
    (fun b o _ e n => by rw [off b (freeP b n) (oldC b o e) (old2 b o e)]; exact n) (fun b o _ e => ?_) (fun b xs e => ?_) (fun b o u e => ?_) (fun b qs e => ?_) (fun mm hn => ?_) (fun b u e => ?_) I.bare
  · by_cases hb : b = P
    · rw [hb]
      exact ⟨_, kh _ _ m.tab⟩
    · exact ⟨o, kp b o hb e⟩
  · rw [off b (notP b _ e (fun z y => by cases y)) (ne_of_none e nC) (ne_of_none e n2)]
    exact e
  · rw [off b (notP b _ e (fun z y => by cases y)) (ne_of_none e nC) (ne_of_none e n2)]
    exact e
  · by_cases hb : b = P
    · rw [hb, hP] at e
      cases e
      rw [hb, atP]
      exact ⟨_, rfl⟩
    · rw [off b hb (ne_of_none e nC) (ne_of_none e n2), e]
      exact ⟨#[], by simp⟩
  · obtain ⟨ob, es, ep, ho, r⟩ := hn
    exact ⟨ob, es, ep, kp _ ob (freeP _ I.free) ho, r⟩
  · by_cases h2 : b = P2
    · subst h2
      rw [upd_same] at e
      cases e
      exact kh _ _ m.tab2
    · rw [upd_ne h2] at e
      by_cases hc : b = c2
      · subst hc
        rw [upd_same] at e
        cases e
        exact codeT_ok (m.rec_.keeps kh) (m.head.keeps kh)
      · rw [upd_ne hc] at e
        by_cases hb : b = P
        · subst hb
          rw [upd_same] at e
          cases e
          exact kh _ _ m.tab
        · rw [upd_ne hb] at e
          refine (I.hok b u e).stay (fun d v hd y => kp d v ?_ y) (fun d y => ?_) fun d xs y => ?_
          · rcases hd with z | z
            · rw [z]
              exact hb
            · exact notP d _ z (fun z y => by cases y)
          · rw [off d (notP d _ y (fun z y => by cases y)) (ne_of_none y nC) (ne_of_none y n2)]
            exact y
          · rw [off d (notP d _ y (fun z y => by cases y)) (ne_of_none y nC) (ne_of_none y n2)]
            exact y
end
/-- a table's address is none of those that the making of a lambda reads besides -/
def Good (mg : Str → Option Value) (P2 : Addr) : Prop := mainGlobals ≠ P2 ∧ ∀ bm, mg "__builtins__" = some (.ref bm) → bm ≠ P2
/-- the table at P: its code objects bear the first name, their own tables the next ones -/
def TabD (mg : Str → Option Value) : List Str → Hp → Addr → Prop
  | [], _, _ => True
  | q :: qs, H, P => ∃ ps : Array Value, H P = some (.tbl ps) ∧ TriplesOk ps.toList ∧ ∀ (pos : Pos) (cv : Value), codeAmong pos ps.toList = some cv → ∃ c P2, cv = .ref c ∧ H c = some (CodeT c q P2) ∧ P2 ≠ P ∧ TabD mg qs H P2 ∧ Good mg P2
/-- all stays but the table at P -/
def Grow (P : Addr) (H H1 : Hp) : Prop := ∀ b o, b ≠ P → H b = some o → H1 b = some o
theorem tabD_nil {mg : Str → Option Value} {qs : List Str} {H : Hp} {P2 : Addr} (h : H P2 = some (.tbl #[])) : TabD mg qs H P2 := by
  cases qs with
  | nil => exact True.intro
  | cons q r => exact ⟨#[], h, True.intro, fun pos cv hc => by simp [codeAmong] at hc⟩
theorem tabD_one {mg : Str → Option Value} {q : Str} {H H1 : Hp} {P Y : Addr} {ps0 : Array Value} (hP : H P = some (.tbl ps0)) (g : Grow P H H1) (hY : Y ≠ P) (t : TabD mg [q] H Y) : TabD mg [q] H1 Y := by
  obtain ⟨ps, h1, h2, h3⟩ := t
  refine ⟨ps, g _ _ hY h1, h2, fun pos cv hc => ?_⟩
  obtain ⟨c, P2, e1, e2, e3, e4, e5⟩ := h3 pos cv hc
  exact ⟨c, P2, e1, g _ _ (fun z => by rw [z, hP] at e2; exact codeT_ne ps0 (Option.some.inj e2).symm) e2, e3, e4, e5⟩
/-- an inner table has grown: the outer one tells as before -/
theorem tabD_two {mg : Str → Option Value} {q1 q2 : Str} {H H1 : Hp} {P Y : Addr} {ps0 : Array Value} (hP : H P = some (.tbl ps0)) (g : Grow P H H1) (hY : Y ≠ P) (new : TabD mg [q2] H1 P) (t : TabD mg [q1, q2] H Y) : TabD mg [q1, q2] H1 Y := by
  obtain ⟨ps, h1, h2, h3⟩ := t
  refine ⟨ps, g _ _ hY h1, h2, fun pos cv hc => ?_⟩
  obtain ⟨c, P2, e1, e2, e3, e4, e5⟩ := h3 pos cv hc
  refine ⟨c, P2, e1, g _ _ (fun z => by rw [z, hP] at e2; exact codeT_ne ps0 (Option.some.inj e2).symm) e2, e3, ?_, e5⟩
  by_cases hz : P2 = P
  · rw [hz]
    exact new
  · exact tabD_one hP g hz e4
section
variable {X : Cx} {pins : List (Addr × Obj)} {σ : L2.St} {H : Hp} {s : Shared}
/-- a lambda is made: new, or by the code object that stands in the table -/
theorem lam_makeT {qs : List Str} {c P : Addr} {params : Arguments} {body : Expr} {scope : Scope} {pos : Pos} {E : Value → Shared → Prop} {Q : Value → Shared → Prop} (I : Inv X pins σ H s) (C : CodeHd s.heap c P) (hgP : mainGlobals ≠ P) (bP : s.heap.BuiltinsAt X.mg P) (hcode : X.env.code = .ref c)
    (hT : TabD X.mg ((X.env.qual ++ "<lambda>") :: qs) H P) (stab : ∀ H1 Y, Grow P H H1 → Y ≠ P → TabD X.mg qs H Y → TabD X.mg qs H1 Y) (hdef : defaultsOf params X.env = ([], [])) (hfree : ∀ y ∈ scope.names, y.2 = .free → ∃ c, X.env.cells.lookup y.1 = some c)
    (k : ∀ (f c2 P2 : Addr) (pm ctv : Value) (H1 : Hp) (s' : Shared), Inv X pins σ H1 s' → Grow P H H1 → TabD X.mg ((X.env.qual ++ "<lambda>") :: qs) H1 P →
      s'.heap.get? f = some (kla_obj "<lambda>" (X.env.qual ++ "<lambda>") params body scope (cloFrom X.env.cells scope.names []) pm c2 ctv) → H1 f = none → f ∉ frs X.stack → H1 c2 = some (CodeT c2 (X.env.qual ++ "<lambda>") P2) → P2 ≠ P → TabD X.mg qs H1 P2 → Good X.mg P2 → Q (.ref f) s') :
    wpAny (model X.prog X.w) X.A (eval (.Lambda params body scope pos) X.env) Q E s := by
  obtain ⟨ps, hP, ht, ha⟩ := hT
  have hP' : s.heap.get? P = some (tabObj ps) := I.hok P _ hP
  have away : ∀ f, s.heap.objs.size ≤ f → f ∉ frs X.stack := fun f hf z => by
    rcases List.mem_cons.mp (I.stkSub _ z) with e | e
    · exact Nat.lt_irrefl _ (Nat.lt_of_lt_of_le (e ▸ I.lt) hf)
    · exact I.nofs hf e
  refine kla_eval hdef ?_
  cases hc : codeAmong pos ps.toList with
  | some cv =>
    obtain ⟨c2, P2, e, e2, e3, e4, e5⟩ := ha pos cv hc
    subst e
    refine kla_makeFunctionHit (mg := X.mg) (c := c) (P := P) (ps := ps) (closure_ok hfree) I.ok.glob (I.mod.glob.keeps I.bk) hcode C hP' ht hc bP fun ctv h' tk hx hsz => ?_
    exact k h'.objs.size c2 P2 _ ctv H _ (I.kept fun b o e => Heap.get?_push_of_some _ (hx b o e)) (fun _ _ _ e => e) ⟨ps, hP, ht, ha⟩ (Heap.get?_push_size _ rfl) (I.hok.fresh hsz) (away _ hsz) e2 e3 e4 e5
  | none =>
    have bP0 := bP
    obtain ⟨bm, ob, b1, _, _, _, b5, _⟩ := bP0
    refine make_new (mg := X.mg) (c := c) (P := P) (ps := ps) (closure_ok hfree) I.ok.glob (I.mod.glob.keeps I.bk) hcode C hP' ht hc hgP bP fun c2 P2 ctv h' tk m => ?_
    have nC : H c2 = none := I.hok.fresh m.big
    have n2 : H P2 = none := I.hok.fresh m.big2
    have nPc : P ≠ c2 := ne_of_none hP nC
    have nP2 : P ≠ P2 := ne_of_none hP n2
    have c2P : c2 ≠ P2 := by
      obtain ⟨_, _, _, _, _, _, _, _, _, _, _, _, _, _, _, _, _, _, ne⟩ := m.head
      exact ne
    have hsz : s.heap.objs.size ≤ h'.objs.size := Nat.le_trans m.big (Nat.le_of_lt m.lt)
    have I1 := inv_made (t' := tk) (h' := h'.push (kla_obj "<lambda>" (X.env.qual ++ "<lambda>") params body scope (cloFrom X.env.cells scope.names []) ((X.mg "__name__").getD .none) c2 ctv)) I hP m (fun b o e => Heap.get?_push_of_some _ e)
    have gr : Grow P H (upd (upd (upd H P (.tbl (ps ++ #[rawInt pos.line, rawInt pos.col, .ref c2]))) c2 (CodeT c2 (X.env.qual ++ "<lambda>") P2)) P2 (.tbl #[])) := fun b o hb e => by
      rw [upd_ne (ne_of_none e n2), upd_ne (ne_of_none e nC), upd_ne hb]
      exact e
    have hcT : upd (upd (upd H P (.tbl (ps ++ #[rawInt pos.line, rawInt pos.col, .ref c2]))) c2 (CodeT c2 (X.env.qual ++ "<lambda>") P2)) P2 (.tbl #[]) c2 = some (CodeT c2 (X.env.qual ++ "<lambda>") P2) := by rw [upd_ne c2P, upd_same]
    have t2 : TabD X.mg qs (upd (upd (upd H P (.tbl (ps ++ #[rawInt pos.line, rawInt pos.col, .ref c2]))) c2 (CodeT c2 (X.env.qual ++ "<lambda>") P2)) P2 (.tbl #[])) P2 := tabD_nil upd_same
    have gd : Good X.mg P2 := by
      refine ⟨fun z => ?_, fun b hb z => ?_⟩
      · obtain ⟨og, _, _, eg, _⟩ := I.mod.glob.keeps I.bk
        exact Nat.lt_irrefl _ (Nat.lt_of_lt_of_le (Heap.lt_size eg) (z ▸ m.big2))
      · rw [b1] at hb
        cases hb
        exact Nat.lt_irrefl _ (Nat.lt_of_lt_of_le (Heap.lt_size b5) (z ▸ m.big2))
    refine k h'.objs.size c2 P2 _ ctv _ _ I1 gr ⟨_, by rw [upd_ne nP2, upd_ne nPc, upd_same], ?_, fun p' cv hcv => ?_⟩ (Heap.get?_push_size _ rfl) ?_ (away _ hsz) hcT nP2.symm t2 gd
    · rw [show (ps ++ #[rawInt pos.line, rawInt pos.col, .ref c2]).toList = ps.toList ++ [rawInt pos.line, rawInt pos.col, .ref c2] by simp]
      exact PySem.TriplesOk_snoc _ _ _ _ ht
    · rw [show (ps ++ #[rawInt pos.line, rawInt pos.col, .ref c2]).toList = ps.toList ++ [rawInt pos.line, rawInt pos.col, .ref c2] by simp] at hcv
      rcases LamX.among_app _ ht hcv with z | z
      · obtain ⟨c0, P0, e1, e2, e3, e4, e5⟩ := ha p' cv z
        exact ⟨c0, P0, e1, gr _ _ (fun y => by rw [y, hP] at e2; exact codeT_ne ps (Option.some.inj e2).symm) e2, e3, stab _ _ gr e3 e4, e5⟩
      · exact ⟨c2, P2, z, hcT, nP2.symm, t2, gd⟩
    · have n1 : h'.objs.size ≠ c2 := Nat.ne_of_gt m.lt
      have n3 : h'.objs.size ≠ P2 := Nat.ne_of_gt (Heap.lt_size m.tab2)
      have n4 : h'.objs.size ≠ P := Nat.ne_of_gt (Nat.lt_of_lt_of_le (Heap.lt_size hP') hsz)
      rw [upd_ne n3, upd_ne n1, upd_ne n4]
      exact I.hok.fresh hsz
end
section
variable {X : Cx} {pins : List (Addr × Obj)} {σ : L2.St} {H : Hp} {s : Shared}
/-- a(), in the def that got the lambda f: its body, as it stands where the lambda was written -/
theorem pe_actT {CXg : CXT} {Eg : XK} {Ng : List Str} {qg : Str} {sg : Scope} {g f c2 P2 : Addr} {cdg pm ctv : Value} {params : Arguments} {body : Expr} {scope : Scope} {lv i : Nat} {a : Str} {pn : List (Addr × Obj)} {xe : Value → Shared → Prop} {W : WX} {E : XK} {tb : TE} {p1 p2 : Pos}
    (I : Inv X pins σ H s) (L : LamX.LamS X.env.scope scope) (hf : s.heap.get? f = some (kla_obj "<lambda>" (X.env.qual ++ "<lambda>") params body scope (cloFrom X.env.cells scope.names []) pm c2 ctv)) (hfn : H f = none) (hfr : f ∉ frs X.stack)
    (hbind : bindArgs (kla_fn "<lambda>" (X.env.qual ++ "<lambda>") params body scope (cloFrom X.env.cells scope.names []) pm (.ref c2) ctv) ⟨[], []⟩ = pure [])
    (tk : Takes ((cxOf CXg X.prog X.w X.K X.mg X.base Ng qg sg g cdg X.A X.stack s H Eg).tr pn xe) W) (hW : ∀ cls d σ' H', E cls d H' → W cls d σ' H') (hr : Room (lv + 1) (X.A.deeper (envOfC qg sg s.heap.objs.size g cdg)))
    (hbody : ∀ (A : Around) (outer : List Env) (s : Shared) (H : Hp), Room lv (A.deeper (LamX.lamEnv X scope s.heap.objs.size f c2)) → PE (LamX.lamCx X A outer s H E scope f c2) body tb)
    (hN : Ng[i]? = some a) (hv : Vis sg a) (hd : (a == ("__debug__" : Str)) = false := by decide) (hcd : (a == ("__classdict__" : Str)) = false := by decide) :
    PE ((cxOf CXg X.prog X.w X.K X.mg X.base Ng qg sg g cdg X.A X.stack s H Eg).tr pn xe) (.Call (.Name a p1) [] [] p2)
      (fun σZ HZ Q => σZ[i]? = some (some (.ref f)) ∧ HZ c2 = some (CodeT c2 (X.env.qual ++ "<lambda>") P2) ∧ tb σ HZ Q) := by
  refine ⟨fun pz sz σz Hz Q Iz ⟨h1, h2, h3⟩ => ?_⟩
  have hvar := (pe_var (pos := p1) (i := i) hN hv hd hcd).run pz sz σz Hz (fun v H1 => v = .ref f ∧ H1 = Hz) Iz ⟨.ref f, h1, rfl, rfl⟩
  refine wpAny_Call_Name_kw (thn hvar fun u s1 ⟨v, H1, I1, r1, ev, eH⟩ => ?_)
  subst ev eH
  obtain rfl : u = Value.ref f := r1
  have of1 : s1.heap.get? f = some (kla_obj "<lambda>" (X.env.qual ++ "<lambda>") params body scope (cloFrom X.env.cells scope.names []) pm c2 ctv) := I1.base.keep f _ hf hfn hfr (fun z => nomatch (show f ∈ ([] : List Addr) from z))
  obtain ⟨⟨cr, _⟩, _, _⟩ := I1.hok c2 _ h2
  have un : Un (frs X.stack) [] H H1 s.heap s1.heap := I1.base
  refine callWith_F0 ⟨_, _, _, _, of1⟩ ?_
  have run : codeAny (model X.prog X.w) (X.A.deeper (envOfC qg sg s.heap.objs.size g cdg)) (.call (.ref f) ⟨[], []⟩) (CR (L2.CX X.prog X.w) (envOfC qg sg s.heap.objs.size g cdg :: X.stack) X.prog X.w H1 s1 Q E) s1 := by
    refine kla_callFunE hr.depth of1 rfl L.co L.gen rfl cr ?_
    rw [hbind]
    refine wpAny_pure (wpAny_newFunctionEnv (fun y hy => (L.own y hy).2) (fun y hy => absurd hy (by simp)) (fun h₁ hns hsb => ⟨I1.nolimit.fresh _ hsb, ?_⟩) L.kind)
    show codeAny _ _ (.expr body (LamX.lamEnv X scope s1.heap.objs.size f c2)) _ _
    have kp1 : ∀ b o, s1.heap.get? b = some o → h₁.get? b = some o := fun b o e => hsb.extBut b o (Nat.ne_of_lt (Heap.lt_size e)) (Heap.get?_push_of_some _ e)
    have J := LamX.lam_start2 (E := E) (f := f) (c' := c2) (tk := s1.toks + ([] : List (Str × Value)).length) I L I1.env0 hr.hd un hns kp1
    exact kla_codeExpr (wpAny_mono ((hbody _ _ s1 H1 (hr.deeper _)).run [] _ _ H1 Q J h3) (fun v s' ⟨w', H', J', rv, q⟩ => ⟨w', H', J'.os, J'.bare, J'.base, J'.hok, rv, q⟩) fun e s' hq => hq)
  have hx : Passes (L2.CX X.prog X.w) ((cxOf CXg X.prog X.w X.K X.mg X.base Ng qg sg g cdg X.A X.stack s H Eg).tr pn xe) E := passes_call tk hW
  refine wpAny_call (codeAny_mono run fun r s' hq => ?_)
  match r, hq with
  | .error e, hq => exact hx pz σz H1 s1 e s' I1 hq
  | .ok (.ret u), hq => exact I1.after hq
  | .ok .next, hq => exact False.elim hq
  | .ok .brk, hq => exact False.elim hq
  | .ok .cont, hq => exact False.elim hq
end
/-- the def that calls what it got by its name a; TT: what it makes of the lambda's reading -/
def GivesT (X : Cx) (Ng : List Str) (x : Str) (sg : Scope) (g : Addr) (cdg : Value) (bg : List Stmt) (a : Str) (q : Str) (TT : (XK → Hp → VK → Prop) → Hp → VK → Prop) : Prop :=
  ∀ (f c2 P2 : Addr) (s : Shared) (H : Hp) (Q : VK) (tl : XK → Hp → VK → Prop),
    (∀ (W : WX) (pn : List (Addr × Obj)) (xe : Value → Shared → Prop) (E : XK) (p1 p2 : Pos), Takes ((cxOf C8.CX0 X.prog X.w X.K X.mg X.base Ng x sg g cdg X.A X.stack s H C8.E0).tr pn xe) W → (∀ cls d σ' H', E cls d H' → W cls d σ' H') →
      PE ((cxOf C8.CX0 X.prog X.w X.K X.mg X.base Ng x sg g cdg X.A X.stack s H C8.E0).tr pn xe) (.Call (.Name a p1) [] [] p2) (fun σZ HZ Q => σZ[0]? = some (some (.ref f)) ∧ HZ c2 = some (CodeT c2 q P2) ∧ tl E HZ Q)) →
    H c2 = some (CodeT c2 q P2) → TT tl H Q →
    ∃ t, PSs (cxOf C8.CX0 X.prog X.w X.K X.mg X.base Ng x sg g cdg X.A X.stack s H C8.E0).nox bg t ∧ t { nx := fun _ H' => Q .non H', rt := Q } (L2.start Ng [.ref f]) H
/-- what the reading of x(lambda: ..) asks: where the maker's code object is known (Pre), the tables, before and behind -/
def tLamT (mg : Str → Option Value) (Pre : Hp → Prop) (P : Addr) (q : Str) (qs : List Str) (TT : (XK → Hp → VK → Prop) → Hp → VK → Prop) (t : XK → TE) : TE := fun σ H Q => Pre H ∧ TabD mg (q :: qs) H P ∧
  ∀ H1, Grow P H H1 → TabD mg (q :: qs) H1 P → TT (fun E H' Q' => t E σ H' Q') H1 Q
section
variable {X : Cx}
theorem pe_lamT {Pre : Hp → Prop} {qs : List Str} {TT : (XK → Hp → VK → Prop) → Hp → VK → Prop} {x a : Str} {g c P : Addr} {lv : Nat} {pg : Arguments} {bg : List Stmt} {sg : Scope} {dV kV doc pm cdv ct oc : Value} {an od : Option Addr} {osl : Array (Option Value)} {Ng : List Str}
    {params : Arguments} {body : Expr} {scope : Scope} {t : XK → TE} {p lpos pos : Pos} (hg : Gl X x) (hm : X.mg x = some (.ref g)) (hk : keepIn X.K (.ref g) = true)
    (lk : X.K.lookup g = some ⟨oc, od, .func (fnOf x x pg bg sg dV kV doc pm an cdv ct), osl⟩) (hcg : codeIn X.K cdv x = true) (hb : L2.Binds X.K (fnOf x x pg bg sg dV kV doc pm an cdv ct) [a] []) (Sg : FnScope Ng [a] sg) (hNg : Ng[0]? = some a) (hva : Vis sg a)
    (hG : GivesT X Ng x sg g cdv bg a (X.env.qual ++ "<lambda>") TT)
    (src : ∀ pins σ H s, Inv X pins σ H s → Pre H → CodeHd s.heap c P ∧ s.heap.BuiltinsAt X.mg P ∧ mainGlobals ≠ P) (hcode : X.env.code = .ref c) (stab : ∀ H H1 Y, (∃ ps, H P = some (.tbl ps)) → Grow P H H1 → Y ≠ P → TabD X.mg qs H Y → TabD X.mg qs H1 Y) (hr : Room (lv + 2) X.A) (L : LamX.LamS X.env.scope scope) (hdef : defaultsOf params X.env = ([], []))
    (hbind : ∀ (q : Str) (cl : List (Str × Addr)) (pm cv ctv : Value), bindArgs (kla_fn "<lambda>" q params body scope cl pm cv ctv) ⟨[], []⟩ = pure [])
    (hbody : ∀ (A : Around) (outer : List Env) (s : Shared) (H : Hp) (E : XK) (f c2 : Addr), Room lv (A.deeper (LamX.lamEnv X scope s.heap.objs.size f c2)) → PE (LamX.lamCx X A outer s H E scope f c2) body (t E))
    (hdb : (x == ("__debug__" : Str)) = false := by decide) (hd : (a == ("__debug__" : Str)) = false := by decide) (hcd : (a == ("__classdict__" : Str)) = false := by decide) :
    PE X (.Call (.Name x p) [.Lambda params body scope lpos] [] pos) (tLamT X.mg Pre P (X.env.qual ++ "<lambda>") qs TT t) := by
  refine ⟨fun pins s σ H Q I ⟨hpre, hT, h⟩ => ?_⟩
  obtain ⟨sC, sB, sP⟩ := src pins σ H s I hpre
  have htb : ∃ ps, H P = some (.tbl ps) := by
    obtain ⟨ps, h1, _⟩ := hT
    exact ⟨ps, h1⟩
  refine wpAny_Call_Name_kw (ld_glob I hg hm ?_ hdb)
  refine callWith_K (h₀ := X.base) I.ok.mod.kin hk ?_ (by rfl) (by rfl)
  show wpAny _ _ (spliced ((false, eval (.Lambda params body scope lpos) X.env) :: backTo pos (starEach [] X.env))) _ _ s
  refine Calls.spliced_cons (lam_makeT I sC sP sB hcode hT (fun H1 Y => stab H H1 Y htb) hdef (L.has I.ok) fun f c2 P2 pm2 ctv H1 s1 I1 gr T1 hf hfn hfr hco _ _ _ => ?_)
  refine Calls.spliced_nil ⟨I1.kIn, ?_⟩
  have run : codeAny (model X.prog X.w) X.A (.call (.ref g) ⟨[.ref f], []⟩) (CR C8.CX0 X.stack X.prog X.w H1 s1 Q C8.E0) s1 := by
    refine LamX.run_ofS (N := Ng) (ps := [a]) (us := [.ref f]) (vs := [.ref f]) lk hcg Sg hr I1.env0 (hb s1 [.ref f] I1.kIn rfl) (.cons rfl .nil) rfl fun hr2 => ?_
    obtain ⟨t2, ht2, hq2⟩ := hG f c2 P2 s1 H1 Q (fun E H' Q' => t E σ H' Q') (fun W pn xe E p1 p2 tk hW => pe_actT (i := 0) I1 L hf hfn hfr (hbind _ _ _ _ _) tk hW hr2 (fun A outer s H hr3 => hbody A outer s H E f c2 hr3) hNg hva hd hcd) hco (h H1 gr T1)
    exact ⟨t2, ht2.nox, hq2⟩
  refine wpAny_call (codeAny_mono run fun r s2 hq => ?_)
  match r, hq with
  | .error e, hq => exact (show False from hq).elim
  | .ok (.ret u), hq => exact I1.after hq
  | .ok .next, hq => exact False.elim hq
  | .ok .brk, hq => exact False.elim hq
  | .ok .cont, hq => exact False.elim hq
end
/-! ### a lambda with parameters, that captures nothing of the def around it -/
theorem run_lam {CX : CXT} {P : Program} {w : World} {K : Frag} {mg : Str → Option Value} {base : Heap} {lv : Nat} {f c2 : Addr} {qual : Str} {params : Arguments} {body : Expr} {scope : Scope} {pm ctv : Value} {N ps : List Str} {tb : TE} {A : Around} {outer : List Env} {s : Shared} {H : Hp} {us : List Value} {vs : List V} {Q : VK} {E : XK}
    (of1 : s.heap.get? f = some (kla_obj "<lambda>" qual params body scope [] pm c2 ctv)) (cr : s.heap.CodeRec (.ref c2) qual) (S : FnScope N ps scope) (hr : Room (lv + 1) A) (e0 : Env0 P w K mg base A outer s H)
    (hbind : bindArgs (kla_fn "<lambda>" qual params body scope [] pm (.ref c2) ctv) ⟨us, []⟩ = pure (ps.zip us)) (r : Vals vs us) (hl : vs.length = ps.length)
    (hbody : Room lv (A.deeper (envOfC qual scope s.heap.objs.size f (.ref c2))) → PE (cxOf CX P w K mg base N qual scope f (.ref c2) A outer s H E) body tb) (h : tb (L2.start N vs) H Q) :
    codeAny (model P w) A (.call (.ref f) ⟨us, []⟩) (CR CX outer P w H s Q E) s := by
  have lim : s.heap.NoLimit := e0.mod.nolimit.keeps fun b o e => (e0.bs b o e).1
  have hkind : ∀ y ∈ ps.zip us, scope.names.lookup y.1 = some .local ∨ (scope.names.lookup y.1 = some .cell ∧ ((cellsFrom (s.heap.objs.size + 1) scope.names []).lookup y.1).isSome = true) := fun y hy =>
    (S.par y.1 (List.of_mem_zip (a := y.1) (b := y.2) hy).1).elim .inl fun z => .inr ⟨z, cellsFrom_some _ _ _ (.inl z)⟩
  refine kla_callFunE hr.depth of1 rfl S.co S.gen rfl cr ?_
  rw [hbind]
  refine wpAny_pure (wpAny_newFunctionEnv_cells S.kind hkind fun env he s1 x => ?_)
  subst he
  have J : Inv (cxOf CX P w K mg base N qual scope f (.ref c2) A outer s H E) [] (L2.start N vs) H s1 := inv_start S hr.hd e0 hl r x
  refine ⟨lim.keeps x.toInCall.keep, kla_codeExpr (wpAny_mono ((hbody (hr.deeper _)).run [] s1 _ H Q J h) (fun v s' ⟨w', H', J', rv, q⟩ => ⟨w', H', J'.os, J'.bare, J'.base, J'.hok, rv, q⟩) fun e s' hq => hq)⟩
section
variable {X : Cx} {pins : List (Addr × Obj)} {σ : L2.St} {H : Hp} {s : Shared}
/-- a(e), in the def that got such a lambda -/
theorem pe_act1 {CXg : CXT} {Eg : XK} {Ng : List Str} {qg : Str} {sg : Scope} {g f c2 P2 : Addr} {cdg pm ctv : Value} {qual : Str} {params : Arguments} {body e : Expr} {scope : Scope} {lv i : Nat} {a b : Str} {N : List Str} {te tb : TE} {p1 p2 : Pos}
    (I : Inv X pins σ H s) (hf : s.heap.get? f = some (kla_obj "<lambda>" qual params body scope [] pm c2 ctv)) (hfn : H f = none) (hfr : f ∉ frs X.stack) (S : FnScope N [b] scope)
    (hbind : ∀ u : Value, bindArgs (kla_fn "<lambda>" qual params body scope [] pm (.ref c2) ctv) ⟨[u], []⟩ = pure [(b, u)]) (hr : Room (lv + 1) (X.A.deeper (envOfC qg sg s.heap.objs.size g cdg)))
    (he : PE (cxOf CXg X.prog X.w X.K X.mg X.base Ng qg sg g cdg X.A X.stack s H Eg) e te)
    (hbody : ∀ (A : Around) (outer : List Env) (s : Shared) (H : Hp), Room lv (A.deeper (envOfC qual scope s.heap.objs.size f (.ref c2))) → PE (cxOf C8.CX0 X.prog X.w X.K X.mg X.base N qual scope f (.ref c2) A outer s H C8.E0) body tb)
    (hN : Ng[i]? = some a) (hv : Vis sg a) (hd : (a == ("__debug__" : Str)) = false := by decide) (hcd : (a == ("__classdict__" : Str)) = false := by decide)
    (hs : starEach [e] (cxOf CXg X.prog X.w X.K X.mg X.base Ng qg sg g cdg X.A X.stack s H Eg).env = (false, eval e (cxOf CXg X.prog X.w X.K X.mg X.base Ng qg sg g cdg X.A X.stack s H Eg).env) :: starEach [] (cxOf CXg X.prog X.w X.K X.mg X.base Ng qg sg g cdg X.A X.stack s H Eg).env := by rfl) :
    PE (cxOf CXg X.prog X.w X.K X.mg X.base Ng qg sg g cdg X.A X.stack s H Eg) (.Call (.Name a p1) [e] [] p2)
      (fun σZ HZ Q => σZ[i]? = some (some (.ref f)) ∧ te σZ HZ fun v H1 => H1 c2 = some (CodeT c2 qual P2) ∧ tb (L2.start N [v]) H1 Q) := by
  refine ⟨fun pz sz σz Hz Q Iz ⟨h1, h2⟩ => ?_⟩
  have hvar := (pe_var (pos := p1) (i := i) hN hv hd hcd).run pz sz σz Hz (fun v H1 => v = .ref f ∧ H1 = Hz) Iz ⟨.ref f, h1, rfl, rfl⟩
  refine wpAny_Call_Name_kw (thn hvar fun u s1 ⟨v, H1, I1, r1, ev, eH⟩ => ?_)
  subst ev eH
  obtain rfl : u = Value.ref f := r1
  have at_ : ∀ {s2 : Shared} {H2 : Hp}, Inv (cxOf CXg X.prog X.w X.K X.mg X.base Ng qg sg g cdg X.A X.stack s H Eg) pz σz H2 s2 → s2.heap.get? f = some (kla_obj "<lambda>" qual params body scope [] pm c2 ctv) := fun {s2 H2} I2 =>
    I2.base.keep f _ hf hfn hfr (fun z => nomatch (show f ∈ ([] : List Addr) from z))
  have hpa := (pa_cons he pa_nil hs).run p2 pz s1 σz H1 (fun vs H2 => match vs with
    | [v] => H2 c2 = some (CodeT c2 qual P2) ∧ tb (L2.start N [v]) H2 Q
    | _ => False) I1
  refine callWith_F ⟨_, _, _, _, at_ I1⟩ (thn (hpa h2) fun us s2 ⟨vs, H2, I2, r, hm⟩ => ⟨⟨_, _, _, _, at_ I2⟩, ?_⟩) hs rfl
  match vs, r, hm with
  | [v], r, ⟨hc, hq⟩ =>
    obtain ⟨⟨cr, _⟩, _, _⟩ := I2.hok c2 _ hc
    have hus : ∃ u, us = [u] := by
      cases r with
      | cons r1 rr =>
        cases rr
        exact ⟨_, rfl⟩
    obtain ⟨u, rfl⟩ := hus
    have run := run_lam (CX := C8.CX0) (E := C8.E0) (Q := Q) (at_ I2) cr S hr I2.env0 (hbind u) r rfl (fun hr2 => hbody _ _ s2 H2 hr2) hq
    refine wpAny_call (codeAny_mono run fun r s' hq => ?_)
    match r, hq with
    | .error e, hq => exact (show False from hq).elim
    | .ok (.ret u), hq => exact I2.after hq
    | .ok .next, hq => exact False.elim hq
    | .ok .brk, hq => exact False.elim hq
    | .ok .cont, hq => exact False.elim hq
end
/-- the def that calls what it got with one thing; TT: what it makes of the reading -/
def GivesT1 (X : Cx) (Ng : List Str) (x : Str) (sg : Scope) (g : Addr) (cdg : Value) (bg : List Stmt) (a : Str) (q : Str) (TT : Addr → Addr → (V → Hp → VK → Prop) → Hp → VK → Prop) : Prop :=
  ∀ (f c2 P2 : Addr) (s : Shared) (H : Hp) (Q : VK) (tl : V → Hp → VK → Prop),
    (∀ (e : Expr) (te : TE) (p1 p2 : Pos), PE (cxOf C8.CX0 X.prog X.w X.K X.mg X.base Ng x sg g cdg X.A X.stack s H C8.E0) e te →
      (starEach [e] (cxOf C8.CX0 X.prog X.w X.K X.mg X.base Ng x sg g cdg X.A X.stack s H C8.E0).env = (false, eval e (cxOf C8.CX0 X.prog X.w X.K X.mg X.base Ng x sg g cdg X.A X.stack s H C8.E0).env) :: starEach [] (cxOf C8.CX0 X.prog X.w X.K X.mg X.base Ng x sg g cdg X.A X.stack s H C8.E0).env) →
      PE (cxOf C8.CX0 X.prog X.w X.K X.mg X.base Ng x sg g cdg X.A X.stack s H C8.E0) (.Call (.Name a p1) [e] [] p2) (fun σZ HZ Q => σZ[0]? = some (some (.ref f)) ∧ te σZ HZ fun v H1 => H1 c2 = some (CodeT c2 q P2) ∧ tl v H1 Q)) →
    H c2 = some (CodeT c2 q P2) → TT c2 P2 tl H Q →
    ∃ t, PSs (cxOf C8.CX0 X.prog X.w X.K X.mg X.base Ng x sg g cdg X.A X.stack s H C8.E0) bg t ∧ t { nx := fun _ H' => Q .non H', rt := Q } (L2.start Ng [.ref f]) H
def tLamT1 (mg : Str → Option Value) (Pre : Hp → Prop) (P : Addr) (q : Str) (qs : List Str) (N : List Str) (TT : Addr → Addr → (V → Hp → VK → Prop) → Hp → VK → Prop) (tb : Addr → Addr → TE) : TE := fun _ H Q => Pre H ∧ TabD mg (q :: qs) H P ∧
  ∀ H1 c2 P2, Grow P H H1 → TabD mg (q :: qs) H1 P → P2 ≠ P → TabD mg qs H1 P2 → Good mg P2 → H1 c2 = some (CodeT c2 q P2) → TT c2 P2 (fun v H' Q' => tb c2 P2 (L2.start N [v]) H' Q') H1 Q
section
variable {X : Cx}
theorem pe_lamT1 {Pre : Hp → Prop} {qs : List Str} {TT : Addr → Addr → (V → Hp → VK → Prop) → Hp → VK → Prop} {x a b : Str} {g c P : Addr} {lv : Nat} {pg : Arguments} {bg : List Stmt} {sg : Scope} {dV kV doc pm cdv ct oc : Value} {an od : Option Addr} {osl : Array (Option Value)} {Ng N : List Str}
    {params : Arguments} {body : Expr} {scope : Scope} {tb : Addr → Addr → TE} {p lpos pos : Pos} (hg : Gl X x) (hm : X.mg x = some (.ref g)) (hk : keepIn X.K (.ref g) = true)
    (lk : X.K.lookup g = some ⟨oc, od, .func (fnOf x x pg bg sg dV kV doc pm an cdv ct), osl⟩) (hcg : codeIn X.K cdv x = true) (hb : L2.Binds X.K (fnOf x x pg bg sg dV kV doc pm an cdv ct) [a] []) (Sg : FnScope Ng [a] sg) (hNg : Ng[0]? = some a) (hva : Vis sg a)
    (hG : GivesT1 X Ng x sg g cdv bg a (X.env.qual ++ "<lambda>") TT)
    (src : ∀ pins σ H s, Inv X pins σ H s → Pre H → CodeHd s.heap c P ∧ s.heap.BuiltinsAt X.mg P ∧ mainGlobals ≠ P) (hcode : X.env.code = .ref c) (stab : ∀ H H1 Y, (∃ ps, H P = some (.tbl ps)) → Grow P H H1 → Y ≠ P → TabD X.mg qs H Y → TabD X.mg qs H1 Y) (hr : Room (lv + 2) X.A) (S : FnScope N [b] scope) (hcl : cloFrom X.env.cells scope.names [] = []) (hfree : ∀ y ∈ scope.names, y.2 ≠ .free) (hdef : defaultsOf params X.env = ([], []))
    (hbind : ∀ (q : Str) (pm cv ctv u : Value), bindArgs (kla_fn "<lambda>" q params body scope [] pm cv ctv) ⟨[u], []⟩ = pure [(b, u)])
    (hbody : ∀ (A : Around) (outer : List Env) (s : Shared) (H : Hp) (f c2 P2 : Addr), Room lv (A.deeper (envOfC (X.env.qual ++ "<lambda>") scope s.heap.objs.size f (.ref c2))) → PE (cxOf C8.CX0 X.prog X.w X.K X.mg X.base N (X.env.qual ++ "<lambda>") scope f (.ref c2) A outer s H C8.E0) body (tb c2 P2))
    (hdb : (x == ("__debug__" : Str)) = false := by decide) (hd : (a == ("__debug__" : Str)) = false := by decide) (hcd : (a == ("__classdict__" : Str)) = false := by decide) :
    PE X (.Call (.Name x p) [.Lambda params body scope lpos] [] pos) (tLamT1 X.mg Pre P (X.env.qual ++ "<lambda>") qs N TT tb) := by
  refine ⟨fun pins s σ H Q I ⟨hpre, hT, h⟩ => ?_⟩
  obtain ⟨sC, sB, sP⟩ := src pins σ H s I hpre
  have htb : ∃ ps, H P = some (.tbl ps) := by
    obtain ⟨ps, h1, _⟩ := hT
    exact ⟨ps, h1⟩
  refine wpAny_Call_Name_kw (ld_glob I hg hm ?_ hdb)
  refine callWith_K (h₀ := X.base) I.ok.mod.kin hk ?_ (by rfl) (by rfl)
  show wpAny _ _ (spliced ((false, eval (.Lambda params body scope lpos) X.env) :: backTo pos (starEach [] X.env))) _ _ s
  refine Calls.spliced_cons (lam_makeT I sC sP sB hcode hT (fun H1 Y => stab H H1 Y htb) hdef (fun y hy z => absurd z (hfree y hy)) fun f c2 P2 pm2 ctv H1 s1 I1 gr T1 hf hfn hfr hco n2 t2 gd => ?_)
  rw [hcl] at hf
  refine Calls.spliced_nil ⟨I1.kIn, ?_⟩
  have run : codeAny (model X.prog X.w) X.A (.call (.ref g) ⟨[.ref f], []⟩) (CR C8.CX0 X.stack X.prog X.w H1 s1 Q C8.E0) s1 := by
    refine LamX.run_ofS (N := Ng) (ps := [a]) (us := [.ref f]) (vs := [.ref f]) lk hcg Sg hr I1.env0 (hb s1 [.ref f] I1.kIn rfl) (.cons rfl .nil) rfl fun hr2 => ?_
    exact hG f c2 P2 s1 H1 Q (fun v H' Q' => tb c2 P2 (L2.start N [v]) H' Q') (fun e te p1 p2 he hs => pe_act1 (i := 0) (P2 := P2) I1 hf hfn hfr S (fun u => hbind _ _ _ _ u) hr2 he (fun A outer s H hr3 => hbody A outer s H f c2 P2 hr3) hNg hva hd hcd hs) hco (h H1 c2 P2 gr T1 n2 t2 gd hco)
  refine wpAny_call (codeAny_mono run fun r s2 hq => ?_)
  match r, hq with
  | .error e, hq => exact (show False from hq).elim
  | .ok (.ret u), hq => exact I1.after hq
  | .ok .next, hq => exact False.elim hq
  | .ok .brk, hq => exact False.elim hq
  | .ok .cont, hq => exact False.elim hq
end
end Lm

namespace K11
open PySem PySem.Spec PyProof.Rows L2 Exs
/-! ### _law_met: what a call told, or how it was refused -/
abbrev sMet : Stmt := top 72
/-- the way of an error into one clause: its word, its field -/
def Told1 (C : Addr) (w f : Str) (Q : VK) (cls : Value) (d : Option Addr) (H : Hp) : Prop := cls = .ref C ∧ ∃ (dd : Addr) (fs : List (Str × V)) (v : V), d = some dd ∧ H dd = some (.xd fs) ∧ fs.lookup f = some v ∧ ∀ p, H p = none → Q (.ref p) (upd H p (.tup [.str w, v]))
def MetE (K : PySem.W.Frag) (Q : VK) : List (Addr × Str × Str) → XK
  | [] => fun _ _ _ => False
  | (C, w, f) :: r => fun cls d H => ∃ b, PySem.W.exmOne K cls (.ref C) = some b ∧ (b = true → Told1 C w f Q cls d H) ∧ (b = false → MetE K Q r cls d H)
def TMet (K : PySem.W.Frag) (cs : List (Addr × Str × Str)) : (XK → Hp → VK → Prop) → Hp → VK → Prop := fun tl H Q =>
  tl (MetE K Q cs) H fun v H1 => 2 ≤ sizeLine ∧ ∀ p, H1 p = none → Q (.ref p) (upd H1 p (.tup [.str "told", v]))
theorem scMet : FnScope ["ask", "e"] ["ask"] (defScope sMet) := ⟨rfl, rfl, rfl, by decide +kernel, rfl, by decide +kernel, by decide +kernel⟩
/-- what the two clauses are -/
def metCs (C1 C2 : Addr) : List (Addr × Str × Str) := [(C1, "letters", "thing"), (C2, "ledger", "thing")]
theorem met_gives {X : Cx} {g C1 f1 C2 f2 : Addr} {cdg : Value} {q : Str} (T1 : Err X.prog X.w X.K X.mg X.base "BadLetters" "thing" C1 f1) (T2 : Err X.prog X.w X.K X.mg X.base "BadLedger" "thing" C2 f2) :
    Lm.GivesT X ["ask", "e"] "_law_met" (defScope sMet) g cdg (defBody sMet) "ask" q (TMet X.K (metCs C1 C2)) := by
  intro f c2 P2 s H Q tl act hc h
  refine ⟨_, pss_one (ps_try_clauses (l := [(.ref C1, 1, fun a cls d => tRet (tTup (tCons (tC (.str "letters")) (tCons (tXf a cls d C1 "thing" (tVar 1)) tNil)))), (.ref C2, 1, fun a cls d => tRet (tTup (tCons (tC (.str "ledger")) (tCons (tXf a cls d C2 "thing" (tVar 1)) tNil))))])
    (Wout := fun _ _ _ _ => False)
    (tb := fun W D σ H => ∃ Ech : XK, (∀ cls d σ' H', Ech cls d H' → W cls d σ' H') ∧ σ[0]? = some (some (.ref f)) ∧ H c2 = some (Lm.CodeT c2 q P2) ∧ tl Ech H fun v H1 => 2 ≤ sizeLine ∧ ∀ p, H1 p = none → D.rt (.ref p) (upd H1 p (.tup [.str "told", v])))
    rfl rfl scMet.nd takes_none5 ?_ ?_), ?_⟩
  · intro W pn xe tk _
    refine ⟨fun pins s' σ H' D I h' => ?_⟩
    obtain ⟨Ech, hW, h1, h2, h3⟩ := h'
    exact PSs.run (t := tRet (tTup (tCons (tC (.str "told")) (tCons (fun σZ HZ Q => σZ[0]? = some (some (.ref f)) ∧ HZ c2 = some (Lm.CodeT c2 q P2) ∧ tl Ech HZ Q) tNil)))) (pss_one (ps_ret (pe_tup (pa_cons pe_str (pa_cons (act W pn xe Ech _ _ tk hW) pa_nil))))) pins s' σ H' D I ⟨h1, h2, h3⟩
  · refine .cons ⟨rfl, rfl, .inl T1.g⟩ rfl rfl (fun a oe cls d pn hz hf => ?_) (.cons ⟨rfl, rfl, .inl T2.g⟩ rfl rfl (fun a oe cls d pn hz hf => ?_) .nil)
    · exact pss_one (ps_ret (pe_tup (pa_cons pe_str (pa_cons (pe_xf T1.c.xf T1.c.no hz hf (pv 1)) pa_nil))))
    · exact pss_one (ps_ret (pe_tup (pa_cons pe_str (pa_cons (pe_xf T2.c.xf T2.c.no hz hf (pv 1)) pa_nil))))
  · refine ⟨MetE X.K Q (metCs C1 C2), fun cls d σ' H' hE => ?_, rfl, hc, ?_⟩
    · obtain ⟨b1, e1, h1, h2⟩ := hE
      have slot : ∀ {v : Option V}, σ'.length = 2 → (σ'.set 1 v)[1]? = some v := fun {v} hl => by
        rw [List.getElem?_set_self (by omega)]
      refine ⟨b1, e1, fun z a ha hl => ?_, fun z => ?_⟩
      · obtain ⟨rfl, dd, fs, v, rfl, k1, k2, k3⟩ := h1 z
        refine ⟨_, slot hl, rfl, rfl, dd, fs, v, rfl, k1, k2, by show 2 ≤ sizeLine; decide, fun p hp => k3 p hp⟩
      · obtain ⟨b2, e2, h3, h4⟩ := h2 z
        refine ⟨b2, e2, fun z a ha hl => ?_, fun z => ?_⟩
        · obtain ⟨rfl, dd, fs, v, rfl, k1, k2, k3⟩ := h3 z
          refine ⟨_, slot hl, rfl, rfl, dd, fs, v, rfl, k1, k2, by show 2 ≤ sizeLine; decide, fun p hp => k3 p hp⟩
        · exact h4 z
    · exact h
end K11

/-! Crossings of a path by walks; what a row is seen as from a house. Law-independent, no machine. -/
namespace Tr
open PySem
section
variable {hs : List Str} {ps : Prs} {fr : Str → Str → Option Str} {way : Str → Str → List Str}
/-- the first step from a house, when one's end moves by a path -/
theorem Ways.step (T : Tree hs ps) (W : Ways hs ps fr way) {u v a : Str} (h : Adj ps u v) (ha : a ∈ hs) : fr v a = if a = v then none else if a = u then some v else fr u a := by
  have hm := T.mem h
  have := (((W.rt u hm.1).move T h).agree T (W.rt v hm.2) a ha)
  rw [← this]
  rfl
/-- whether x lies beyond the path from a to b -/
def bey (fr : Str → Str → Option Str) (a b x : Str) : Bool := decide (fr x a = some b)
theorem Ways.side (T : Tree hs ps) (W : Ways hs ps fr way) {a b u v : Str} (hab : Adj ps a b) (huv : Adj ps u v) :
    (bey fr a b u = bey fr a b v ∧ (u, v) ≠ (a, b) ∧ (u, v) ≠ (b, a)) ∨ ((u, v) = (a, b) ∧ bey fr a b u = false ∧ bey fr a b v = true) ∨ ((u, v) = (b, a) ∧ bey fr a b u = true ∧ bey fr a b v = false) := by
  have ma := (T.mem hab).1
  have mu := (T.mem huv).1
  have mv := (T.mem huv).2
  have hne : u ≠ v := fun z => T.irr (z ▸ huv : Adj ps v v)
  have hs := W.step T huv ma
  have nu := (W.rt u mu).none
  have nv := (W.rt v mv).none
  unfold bey
  by_cases h1 : a = v
  · subst h1
    have e1 : fr u a = some u := by
      rcases (W.rt u mu).one _ _ huv with e | e
      · rw [nu] at e; cases e
      · exact e
    rw [e1, nv]
    by_cases h2 : u = b
    · subst h2
      exact .inr (.inr ⟨rfl, by simp, by simp⟩)
    · refine .inl ⟨by simp [h2], fun z => ?_, fun z => ?_⟩
      · injection z with z1 z2; exact hne z1
      · injection z with z1 z2; exact h2 z1
  · rw [if_neg h1] at hs
    by_cases h2 : a = u
    · subst h2
      rw [if_pos rfl] at hs
      rw [hs, nu]
      by_cases h3 : v = b
      · subst h3
        exact .inr (.inl ⟨rfl, by simp, by simp⟩)
      · refine .inl ⟨by simp [h3], fun z => ?_, fun z => ?_⟩
        · injection z with z1 z2; exact h3 z2
        · injection z with z1 z2; exact h1 z2.symm
    · rw [if_neg h2] at hs
      rw [hs]
      refine .inl ⟨rfl, fun z => ?_, fun z => ?_⟩
      · injection z with z1 z2; exact h2 z1.symm
      · injection z with z1 z2; exact h1 z2.symm
end
/-- the steps of a row -/
def stp (l : List Str) : Prs := l.zip l.tail
theorem stp_cons2 (x y : Str) (l : List Str) : stp (x :: y :: l) = (x, y) :: stp (y :: l) := rfl
theorem stp_app : ∀ (l : List Str) (x : Str) (m : List Str), stp (l ++ x :: m) = stp (l ++ [x]) ++ stp (x :: m)
  | [], x, m => rfl
  | [y], x, m => rfl
  | y :: z :: l, x, m => by
    have := stp_app (z :: l) x m
    show (y, z) :: stp (z :: l ++ x :: m) = (y, z) :: stp (z :: l ++ [x]) ++ stp (x :: m)
    rw [this]
    rfl
theorem stp_mem {l : List Str} {a b : Str} : (a, b) ∈ stp l ↔ ∃ i, l[i]? = some a ∧ l[i + 1]? = some b := by
  unfold stp
  rw [List.mem_iff_getElem?]
  constructor
  · rintro ⟨i, h⟩
    rw [List.getElem?_zip_eq_some] at h
    refine ⟨i, h.1, ?_⟩
    have := h.2
    rwa [List.getElem?_tail] at this
  · rintro ⟨i, h1, h2⟩
    exact ⟨i, by rw [List.getElem?_zip_eq_some]; exact ⟨h1, by rw [List.getElem?_tail]; exact h2⟩⟩
theorem stp_len (l : List Str) : (stp l).length = l.length - 1 := by
  unfold stp
  rw [List.length_zip, List.length_tail]
  omega
theorem stp_adj {ps : Prs} {l : List Str} (h : Row ps l) : ∀ q ∈ stp l, Adj ps q.1 q.2 := fun q hq => by
  obtain ⟨a, b⟩ := q
  obtain ⟨i, h1, h2⟩ := stp_mem.mp hq
  exact h i a b h1 h2
theorem stp_fst : ∀ l : List Str, (stp l).map (·.1) = l.dropLast
  | [] => rfl
  | [x] => rfl
  | x :: y :: l => by rw [stp_cons2, List.map_cons, stp_fst (y :: l), List.dropLast_cons₂]
theorem getLastD_ne {y : Str} {l : List Str} (a b : Str) : (y :: l).getLastD a = (y :: l).getLastD b := by
  rw [List.getLastD_cons, List.getLastD_cons]
theorem stp_count_le {l : List Str} (hn : l.Nodup) (q : Str × Str) : (stp l).count q ≤ 1 := by
  have : (stp l).Nodup := by
    have e : ((stp l).map (·.1)).Nodup := by
      rw [stp_fst]
      exact hn.sublist (List.dropLast_sublist _)
    exact List.Pairwise.imp (fun h z => h (by rw [z])) (List.pairwise_map.mp e)
  exact List.nodup_iff_count.mp this q
theorem stp_not_both {l : List Str} (hn : l.Nodup) {a b : Str} (h1 : (a, b) ∈ stp l) (h2 : (b, a) ∈ stp l) : False := by
  obtain ⟨i, e1, e2⟩ := stp_mem.mp h1
  obtain ⟨j, e3, e4⟩ := stp_mem.mp h2
  have hi := (List.getElem?_eq_some_iff.mp e2).1
  have hj := (List.getElem?_eq_some_iff.mp e4).1
  have a1 := (List.getElem?_inj (by omega) hn).mp (e2.trans e3.symm)
  have a2 := (List.getElem?_inj (by omega) hn).mp (e1.trans e4.symm)
  omega
section
variable {hs : List Str} {ps : Prs} {fr : Str → Str → Option Str} {way : Str → Str → List Str}
/-- over, and back -/
theorem Ways.row_count (T : Tree hs ps) (W : Ways hs ps fr way) {a b : Str} (hab : Adj ps a b) : ∀ (l : List Str) (x : Str), Row ps (x :: l) → (stp (x :: l)).count (a, b) + (bey fr a b x).toNat = (stp (x :: l)).count (b, a) + (bey fr a b ((x :: l).getLastD x)).toNat
  | [], x, _ => rfl
  | y :: l, x, h => by
    have ih := Ways.row_count T W hab l y h.tail
    have ha : Adj ps x y := h 0 x y rfl rfl
    rw [stp_cons2, List.count_cons, List.count_cons, show (x :: y :: l).getLastD x = (y :: l).getLastD y from by rw [List.getLastD_cons]; exact getLastD_ne _ _]
    have hne : a ≠ b := fun z => T.irr (z ▸ hab : Adj ps b b)
    rcases W.side T hab ha with ⟨e, n1, n2⟩ | ⟨e, b1, b2⟩ | ⟨e, b1, b2⟩
    · rw [e]
      have m1 : ((x, y) == (a, b)) = false := beq_eq_false_iff_ne.mpr n1
      have m2 : ((x, y) == (b, a)) = false := beq_eq_false_iff_ne.mpr n2
      rw [m1, m2]
      simpa using ih
    · have m1 : ((x, y) == (a, b)) = true := beq_iff_eq.mpr e
      have m2 : ((x, y) == (b, a)) = false := beq_eq_false_iff_ne.mpr (fun z => by rw [e] at z; injection z with z1 z2; exact hne z1)
      rw [m1, m2, b1]
      rw [b2] at ih
      simp at ih ⊢
      omega
    · have m1 : ((x, y) == (a, b)) = false := beq_eq_false_iff_ne.mpr (fun z => by rw [e] at z; injection z with z1 z2; exact hne z1.symm)
      have m2 : ((x, y) == (b, a)) = true := beq_iff_eq.mpr e
      rw [m1, m2, b1]
      rw [b2] at ih
      simp at ih ⊢
      omega
theorem Ways.way_count (T : Tree hs ps) (W : Ways hs ps fr way) {a b x y : Str} (hab : Adj ps a b) (hx : x ∈ hs) (hy : y ∈ hs) : (stp (way x y)).count (a, b) = if !bey fr a b x && bey fr a b y then 1 else 0 := by
  have P := W.pth x hx y hy
  obtain ⟨l, e, q⟩ := W.tail_last hx hy
  have hr := P.row (W.rt y hy)
  have hn := P.nodup (W.rt y hy).none
  rw [e] at hr hn ⊢
  have k := W.row_count T hab l x hr
  have : (x :: l).getLastD x = y := by
    rw [List.getLastD_eq_getLast?, q]
    rfl
  rw [this] at k
  have c1 := stp_count_le hn (a, b)
  have c2 := stp_count_le hn (b, a)
  have c3 : ¬ (0 < (stp (x :: l)).count (a, b) ∧ 0 < (stp (x :: l)).count (b, a)) := fun z => stp_not_both hn (List.count_pos_iff.mp z.1) (List.count_pos_iff.mp z.2)
  cases h1 : bey fr a b x <;> cases h2 : bey fr a b y <;> rw [h1, h2] at k <;> simp at k ⊢ <;> omega
end
/-- how often one comes to what is so, from what is not -/
def ups (B : Str → Bool) : Str → List Str → Nat
  | _, [] => 0
  | x, y :: l => (if !B x && B y then 1 else 0) + ups B y l
theorem ups_snoc (B : Str → Bool) (z : Str) : ∀ (l : List Str) (x : Str), ups B x (l ++ [z]) = ups B x l + (if !B (l.getLastD x) && B z then 1 else 0)
  | [], x => by simp [ups]
  | y :: l, x => by
    rw [List.cons_append, ups, ups, ups_snoc B z l y, List.getLastD_cons]
    omega
theorem ups_map (B : Str → Bool) (f : Str → Str) : ∀ (l : List Str) (x : Str), ups B (f x) (l.map f) = ups (fun z => B (f z)) x l
  | [], x => rfl
  | y :: l, x => by rw [List.map_cons, ups, ups, ups_map B f l y]
theorem ups_congr {A B : Str → Bool} : ∀ (l : List Str) (x : Str), A x = B x → (∀ y ∈ l, A y = B y) → ups A x l = ups B x l
  | [], _, _, _ => rfl
  | y :: l, x, h, k => by rw [ups, ups, h, k y List.mem_cons_self, ups_congr l y (k y List.mem_cons_self) (fun z hz => k z (List.mem_cons_of_mem _ hz))]
theorem Ways.wk_count {hs : List Str} {ps : Prs} {fr : Str → Str → Option Str} {way : Str → Str → List Str} (T : Tree hs ps) (W : Ways hs ps fr way) {a b : Str} (hab : Adj ps a b) : ∀ (l : List Str) (x : Str), x ∈ hs → (∀ y ∈ l, y ∈ hs) → (stp (x :: wkFrom way x l)).count (a, b) = ups (bey fr a b) x l
  | [], _, _, _ => rfl
  | h :: t, x, hx, hl => by
    have hh := hl h List.mem_cons_self
    have ih := Ways.wk_count T W hab t h hh (fun x hx => hl x (List.mem_cons_of_mem _ hx))
    obtain ⟨l, e, q⟩ := W.tail_last hx hh
    have wc := W.way_count T hab hx hh
    obtain ⟨Y, eY⟩ := List.getLast?_eq_some_iff.mp q
    have e2 : x :: wkFrom way x (h :: t) = Y ++ h :: wkFrom way h t := by
      rw [wkFrom, e]
      show (x :: l) ++ wkFrom way h t = _
      rw [eY, List.append_assoc]
      rfl
    rw [e2, stp_app, List.count_append, ih, ← eY, ← e, wc, ups]
/-- the walk is a row -/
theorem Ways.wk_row {hs : List Str} {ps : Prs} {fr : Str → Str → Option Str} {way : Str → Str → List Str} (T : Tree hs ps) (W : Ways hs ps fr way) : ∀ (l : List Str) (x : Str), x ∈ hs → (∀ y ∈ l, y ∈ hs) → ∀ q ∈ stp (x :: wkFrom way x l), Adj ps q.1 q.2
  | [], _, _, _, q, hq => absurd hq (by simp [stp, wkFrom])
  | h :: t, x, hx, hl, q, hq => by
    have hh := hl h List.mem_cons_self
    obtain ⟨l, e, z⟩ := W.tail_last hx hh
    obtain ⟨Y, eY⟩ := List.getLast?_eq_some_iff.mp z
    have e2 : x :: wkFrom way x (h :: t) = Y ++ h :: wkFrom way h t := by
      rw [wkFrom, e]
      show (x :: l) ++ wkFrom way h t = _
      rw [eY, List.append_assoc]
      rfl
    rw [e2, stp_app, List.mem_append, ← eY, ← e] at hq
    rcases hq with hq | hq
    · exact stp_adj ((W.pth x hx h hh).row (W.rt h hh)) q hq
    · exact Ways.wk_row T W t h hh (fun x hx => hl x (List.mem_cons_of_mem _ hx)) q hq
theorem ups_back (B : Str → Bool) : ∀ (l : List Str) (x : Str), ups B x l + (B x).toNat = ups (fun z => !B z) x l + (B (l.getLastD x)).toNat
  | [], x => rfl
  | y :: l, x => by
    have ih := ups_back B l y
    rw [ups, ups, List.getLastD_cons]
    cases h1 : B x <;> cases h2 : B y <;> rw [h2] at ih <;> simp at ih ⊢ <;> omega
/-! ### what a row is seen as -/
/-- the sign of x from a -/
def sgn (fr : Str → Str → Option Str) (a x : Str) : Str := (fr x a).getD a
section
variable {hs : List Str} {ps : Prs} {fr : Str → Str → Option Str} {way : Str → Str → List Str}
theorem Ways.some_ne (T : Tree hs ps) (W : Ways hs ps fr way) {a x : Str} (ha : a ∈ hs) (hx : x ∈ hs) (h : a ≠ x) : ∃ y, fr x a = some y ∧ Adj ps a y := by
  have P := W.pth a ha x hx
  generalize way a x = l at P
  cases P with
  | nil => exact absurd rfl h
  | cons e p => exact ⟨_, e, (W.rt x hx).adj _ _ e⟩
theorem Ways.sgn_self (W : Ways hs ps fr way) {a : Str} (ha : a ∈ hs) : sgn fr a a = a := by
  unfold sgn
  rw [(W.rt a ha).none]
  rfl
theorem Ways.sgn_ne (T : Tree hs ps) (W : Ways hs ps fr way) {a x : Str} (ha : a ∈ hs) (hx : x ∈ hs) : sgn fr a x = a ↔ x = a := by
  constructor
  · intro h
    by_cases e : x = a
    · exact e
    · obtain ⟨y, h1, h2⟩ := W.some_ne T ha hx (fun z => e z.symm)
      unfold sgn at h
      rw [h1] at h
      have h : y = a := h
      rw [h] at h2
      exact (T.irr h2).elim
  · rintro rfl
    exact W.sgn_self hx
theorem Ways.sgn_bey (T : Tree hs ps) (W : Ways hs ps fr way) {a b x : Str} (ha : a ∈ hs) (hx : x ∈ hs) (hab : Adj ps a b) : decide (sgn fr a x = b) = bey fr a b x := by
  have hne : a ≠ b := fun z => T.irr (z ▸ hab : Adj ps b b)
  unfold bey sgn
  cases h : fr x a with
  | none => simp [hne]
  | some y => simp
/-- from the one before it -/
theorem Ways.sgn_step (T : Tree hs ps) (W : Ways hs ps fr way) {a u v : Str} (ha : a ∈ hs) (h : Adj ps u v) (hv : v ≠ a) : sgn fr a v = if u = a then v else sgn fr a u := by
  have := W.step T h ha
  rw [if_neg (fun z => hv z.symm)] at this
  unfold sgn
  rw [this]
  by_cases e : u = a
  · rw [if_pos e, if_pos e.symm]
    rfl
  · rw [if_neg e, if_neg (fun z => e z.symm)]
theorem Ways.sgn_mem (T : Tree hs ps) (W : Ways hs ps fr way) {a x : Str} (ha : a ∈ hs) (hx : x ∈ hs) : sgn fr a x ∈ hs := by
  unfold sgn
  cases h : fr x a with
  | none => exact ha
  | some y => exact (T.mem ((W.rt x hx).adj _ _ h)).2
end
def cstep (a : Str) (acc : List Str) (s : Str) : List Str := if s = a ∨ acc.getLast? ≠ some s then acc ++ [s] else acc
def comp (a : Str) (l : List Str) : List Str := l.foldl (cstep a) []
theorem comp_snoc (a : Str) (l : List Str) (s : Str) : comp a (l ++ [s]) = cstep a (comp a l) s := by
  unfold comp
  rw [List.foldl_append]
  rfl
theorem cstep_last (a : Str) (acc : List Str) (s : Str) : (cstep a acc s).getLast? = some s := by
  unfold cstep
  split
  · simp
  · rename_i h
    have : ¬ acc.getLast? ≠ some s := fun z => h (.inr z)
    exact Classical.not_not.mp this
theorem snoc_ind {α : Type} {P : List α → Prop} (h0 : P []) (hs : ∀ l x, P l → P (l ++ [x])) : ∀ l, P l := by
  intro l
  rw [← List.reverse_reverse l]
  induction l.reverse with
  | nil => exact h0
  | cons x r ih => rw [List.reverse_cons]; exact hs _ _ ih
theorem comp_last (a : Str) (l : List Str) : (comp a l).getLast? = l.getLast? := by
  refine snoc_ind (P := fun l => (comp a l).getLast? = l.getLast?) rfl (fun l x _ => ?_) l
  rw [comp_snoc, cstep_last]
  simp
theorem comp_head (a : Str) (l : List Str) : (comp a l).head? = l.head? := by
  refine snoc_ind (P := fun l => (comp a l).head? = l.head?) rfl (fun l x ih => ?_) l
  rw [comp_snoc]
  unfold cstep
  cases l with
  | nil => simp [comp]
  | cons y r =>
    cases hc : comp a (y :: r) with
    | nil => rw [hc] at ih; cases ih
    | cons z t =>
      rw [hc] at ih
      split <;> exact ih
theorem comp_ne {a : Str} {l : List Str} (h : l ≠ []) : comp a l ≠ [] := by
  intro z
  have := comp_head a l
  rw [z] at this
  cases l with
  | nil => exact h rfl
  | cons y r => cases this
theorem comp_len (a : Str) (l : List Str) : (comp a l).length ≤ l.length := by
  refine snoc_ind (P := fun l => (comp a l).length ≤ l.length) (Nat.le_refl _) (fun l x ih => ?_) l
  rw [comp_snoc]
  unfold cstep
  split
  · simp; exact ih
  · simp; omega
theorem comp_mem {a : Str} {l : List Str} {z : Str} (h : z ∈ comp a l) : z ∈ l := by
  revert h
  refine snoc_ind (P := fun l => z ∈ comp a l → z ∈ l) (fun h => h) (fun l x ih h => ?_) l
  rw [comp_snoc] at h
  unfold cstep at h
  split at h
  · rcases List.mem_append.mp h with h | h
    · exact List.mem_append_left _ (ih h)
    · exact List.mem_append_right _ h
  · exact List.mem_append_left _ (ih h)
theorem comp_self (a : Str) (l : List Str) : (comp a l).count a = l.count a := by
  refine snoc_ind (P := fun l => (comp a l).count a = l.count a) rfl (fun l x ih => ?_) l
  rw [comp_snoc, List.count_append]
  unfold cstep
  split
  · rw [List.count_append, ih]
  · rename_i h
    have : x ≠ a := fun z => h (.inl z)
    rw [ih, List.count_singleton]
    simp [this]
theorem comp_adj (a : Str) (l : List Str) : ∀ i x, (comp a l)[i]? = some x → (comp a l)[i + 1]? = some x → x = a := by
  refine snoc_ind (P := fun l => ∀ i x, (comp a l)[i]? = some x → (comp a l)[i + 1]? = some x → x = a) (fun i x h => by simp [comp] at h) (fun l y ih => ?_) l
  rw [comp_snoc]
  unfold cstep
  split
  · rename_i h
    intro i x h1 h2
    have lt : i + 1 < (comp a l ++ [y]).length := (List.getElem?_eq_some_iff.mp h2).1
    rw [List.length_append, List.length_singleton] at lt
    by_cases e : i + 1 < (comp a l).length
    · rw [List.getElem?_append_left (by omega)] at h1
      rw [List.getElem?_append_left e] at h2
      exact ih i x h1 h2
    · have e2 : i + 1 = (comp a l).length := by omega
      rw [List.getElem?_append_left (by omega)] at h1
      rw [List.getElem?_append_right (by omega), e2, Nat.sub_self] at h2
      have h2 : y = x := by simpa using h2
      subst h2
      rcases h with h | h
      · exact h
      · refine absurd ?_ h
        rw [List.getLast?_eq_getElem?, ← e2]
        exact h1
  · exact ih
theorem comp_count {a b : Str} (hab : b ≠ a) (s : Str) (l : List Str) : (comp a (s :: l)).count b = (if s = b then 1 else 0) + ups (fun z => decide (z = b)) s l := by
  refine snoc_ind (P := fun l => (comp a (s :: l)).count b = (if s = b then 1 else 0) + ups (fun z => decide (z = b)) s l) ?_ (fun l x ih => ?_) l
  · have : comp a [s] = [s] := by
      unfold comp
      show cstep a [] s = [s]
      unfold cstep
      rw [if_pos (.inr (by simp))]
      rfl
    rw [this, List.count_singleton]
    by_cases e : s = b <;> simp [e, ups]
  · rw [← List.cons_append, comp_snoc, ups_snoc]
    have hl := comp_last a (s :: l)
    have e1 : (s :: l).getLast? = some (l.getLastD s) := by
      rw [List.getLast?_cons]
      cases l with
      | nil => rfl
      | cons y r => simp [List.getLastD_eq_getLast?]
    rw [e1] at hl
    unfold cstep
    rw [hl]
    generalize l.getLastD s = z at *
    by_cases h : x = a ∨ some z ≠ some x
    · rw [if_pos h, List.count_append, ih, List.count_singleton]
      by_cases e : x = b
      · subst e
        have : z ≠ x := by
          rcases h with h | h
          · exact absurd h hab
          · exact fun q => h (by rw [q])
        simp [this]
        omega
      · simp [e]
    · rw [if_neg h, ih]
      have : z = x := Option.some.inj (Classical.not_not.mp fun q => h (.inr q))
      subst this
      simp
/-- closed to a ring -/
def ringd (a : Str) (l : List Str) : List Str := if 1 < l.length ∧ l.getLast? = l.head? ∧ l.head? ≠ some a then l.dropLast else l
theorem ringd_self {a : Str} (l : List Str) (h : (1 : Nat) ≤ l.length) : (ringd a l).count a = l.count a := by
  unfold ringd
  split
  · rename_i h1
    obtain ⟨_, h2, h3⟩ := h1
    cases hl : l.getLast? with
    | none => rw [List.getLast?_eq_none_iff] at hl; rw [hl] at h; exact absurd h (by decide)
    | some z =>
      obtain ⟨Y, e⟩ := List.getLast?_eq_some_iff.mp hl
      rw [hl] at h2
      rw [← h2] at h3
      have : z ≠ a := fun q => h3 (by rw [q])
      rw [e, List.dropLast_concat, List.count_append, List.count_singleton]
      simp [this]
  · rfl
theorem ringd_count {a b s : Str} {l : List Str} (hab : b ≠ a) (hn : ringd a (comp a (s :: l)) ≠ [b]) : (ringd a (comp a (s :: l))).count b = ups (fun z => decide (z = b)) s (l ++ [s]) := by
  have h0 := comp_head a (s :: l)
  have h1 := comp_last a (s :: l)
  have e1 : (s :: l).getLast? = some (l.getLastD s) := by
    rw [List.getLast?_cons]
    cases l with
    | nil => rfl
    | cons y r => simp [List.getLastD_eq_getLast?]
  rw [e1] at h1
  have hc := comp_count hab s l
  rw [ups_snoc]
  have h0 : (comp a (s :: l)).head? = some s := h0
  generalize comp a (s :: l) = c at *
  generalize l.getLastD s = z at *
  unfold ringd at hn ⊢
  obtain ⟨Y, e⟩ := List.getLast?_eq_some_iff.mp h1
  split at hn
  · rename_i h
    rw [if_pos h]
    obtain ⟨h2, h3, h4⟩ := h
    rw [h1, h0] at h3
    injection h3 with h3
    subst h3
    rw [e, List.count_append, List.count_singleton] at hc
    rw [e, List.dropLast_concat]
    by_cases q : z = b
    · subst q
      simp at hc ⊢
      omega
    · simp [q] at hc ⊢
      omega
  · rename_i h
    rw [if_neg h]
    rw [hc]
    by_cases q : s = b
    · subst q
      have : z ≠ s := fun w => by
        subst w
        refine h ⟨?_, h1.trans h0.symm, by rw [h0]; exact fun r => hab (Option.some.inj r)⟩
        cases Y with
        | nil => exact absurd e hn
        | cons y r => rw [e]; simp
      simp [this]
      omega
    · simp [q]
theorem ringd_adj {a s : Str} {l : List Str} : ∀ i x, (ringd a (comp a (s :: l)))[i]? = some x → (ringd a (comp a (s :: l)) ++ [s])[i + 1]? = some x → x = a ∨ (ringd a (comp a (s :: l))).length ≤ 1 := by
  have h0 : (comp a (s :: l)).head? = some s := comp_head a (s :: l)
  have hadj := comp_adj a (s :: l)
  generalize comp a (s :: l) = c at *
  intro i x h1 h2
  unfold ringd at *
  split at h1
  · rename_i h
    rw [if_pos h] at h2 ⊢
    obtain ⟨g2, g3, g4⟩ := h
    rw [h0] at g3
    obtain ⟨Y, e⟩ := List.getLast?_eq_some_iff.mp g3
    rw [e, List.dropLast_concat] at h1 h2
    rw [← e] at h2
    refine .inl (hadj i x ?_ h2)
    rw [e, List.getElem?_append_left (List.getElem?_eq_some_iff.mp h1).1]
    exact h1
  · rename_i h
    rw [if_neg h] at h2 ⊢
    have li := (List.getElem?_eq_some_iff.mp h1).1
    by_cases lt : i + 1 < c.length
    · rw [List.getElem?_append_left lt] at h2
      exact .inl (hadj i x h1 h2)
    · have e2 : i + 1 = c.length := by omega
      rw [List.getElem?_append_right (by omega), e2, Nat.sub_self] at h2
      have h2 : s = x := by simpa using h2
      subst h2
      by_cases e3 : 1 < c.length
      · refine .inl (Classical.byContradiction fun ne => h ⟨e3, ?_, by rw [h0]; exact fun r => ne (Option.some.inj r)⟩)
        rw [h0, List.getLast?_eq_getElem?, show c.length - 1 = i by omega]
        exact h1
      · exact .inr (by omega)
theorem ringd_head {a s : Str} {l : List Str} : (ringd a (comp a (s :: l))).head? = some s ∧ 1 ≤ (ringd a (comp a (s :: l))).length ∧ (comp a (s :: l)).take (ringd a (comp a (s :: l))).length = ringd a (comp a (s :: l)) := by
  have h0 : (comp a (s :: l)).head? = some s := comp_head a (s :: l)
  generalize comp a (s :: l) = c at *
  cases c with
  | nil => cases h0
  | cons x r =>
    unfold ringd
    split
    · rename_i h
      obtain ⟨g1, _⟩ := h
      cases r with
      | nil => simp at g1
      | cons y r => 
        refine ⟨h0, by simp, ?_⟩
        rw [List.dropLast_eq_take, List.length_take]
        congr 1
        simp
    · exact ⟨h0, by simp, by rw [List.take_length]⟩
section
variable {hs : List Str} {ps : Prs} {fr : Str → Str → Option Str} {way : Str → Str → List Str}
theorem Ways.way_1 (W : Ways hs ps fr way) {a x : Str} (ha : a ∈ hs) (hx : x ∈ hs) (h : x ≠ a) : ∃ w, way a x = a :: sgn fr a x :: w := by
  have P := W.pth a ha x hx
  generalize way a x = l at P
  cases P with
  | nil => exact absurd rfl h
  | cons e p =>
    obtain ⟨t, rfl⟩ := p.head
    refine ⟨t, ?_⟩
    unfold sgn
    rw [e]
    rfl
theorem row_of {l : List Str} (h : ∀ q ∈ stp l, Adj ps q.1 q.2) : Row ps l := fun i a b e1 e2 => h (a, b) (stp_mem.mpr ⟨i, e1, e2⟩)
/-- a round's walk: there as often as back -/
theorem Ways.ring_back (T : Tree hs ps) (W : Ways hs ps fr way) {a b r0 : Str} {rt : List Str} (hab : Adj ps a b) (hin : ∀ r ∈ r0 :: rt, r ∈ hs) : (stp (r0 :: wkFrom way r0 (rt ++ [r0]))).count (b, a) = (stp (r0 :: wkFrom way r0 (rt ++ [r0]))).count (a, b) := by
  have h0 := hin r0 List.mem_cons_self
  have h1 : ∀ y ∈ rt ++ [r0], y ∈ hs := fun y hy => by
    rcases List.mem_append.mp hy with hy | hy
    · exact hin y (List.mem_cons_of_mem _ hy)
    · rw [List.mem_singleton.mp hy]; exact h0
  have k := W.row_count T hab _ r0 (row_of (W.wk_row T _ r0 h0 h1))
  have e := W.wk_last _ r0 h0 h1
  rw [List.getLastD_eq_getLast?, e] at k
  simp at k
  omega
theorem Ways.ring_ups (T : Tree hs ps) (W : Ways hs ps fr way) {a b r0 : Str} {rt : List Str} (hab : Adj ps a b) (hin : ∀ r ∈ r0 :: rt, r ∈ hs) : (stp (r0 :: wkFrom way r0 (rt ++ [r0]))).count (a, b) = ups (bey fr a b) r0 (rt ++ [r0]) := by
  have h0 := hin r0 List.mem_cons_self
  refine W.wk_count T hab _ r0 h0 fun y hy => ?_
  rcases List.mem_append.mp hy with hy | hy
  · exact hin y (List.mem_cons_of_mem _ hy)
  · rw [List.mem_singleton.mp hy]; exact h0
/-- a sign stands as often as the path is gone -/
theorem Ways.sign_count (T : Tree hs ps) (W : Ways hs ps fr way) {a b r0 : Str} {rt : List Str} (ha : a ∈ hs) (hab : Adj ps a b) (hin : ∀ r ∈ r0 :: rt, r ∈ hs) (hn : ringd a (comp a ((r0 :: rt).map (sgn fr a))) ≠ [b]) :
    (ringd a (comp a ((r0 :: rt).map (sgn fr a)))).count b = (stp (r0 :: wkFrom way r0 (rt ++ [r0]))).count (a, b) := by
  have hne : b ≠ a := fun z => T.irr (z ▸ hab : Adj ps a a)
  rw [W.ring_ups T hab hin, List.map_cons, ringd_count hne hn]
  have : rt.map (sgn fr a) ++ [sgn fr a r0] = (rt ++ [r0]).map (sgn fr a) := by rw [List.map_append]; rfl
  rw [this, ups_map]
  refine ups_congr _ _ (W.sgn_bey T ha (hin _ List.mem_cons_self) hab) fun y hy => ?_
  refine W.sgn_bey T ha ?_ hab
  rcases List.mem_append.mp hy with hy | hy
  · exact hin y (List.mem_cons_of_mem _ hy)
  · rw [List.mem_singleton.mp hy]; exact hin _ List.mem_cons_self
theorem Ways.sign_self (T : Tree hs ps) (W : Ways hs ps fr way) {a : Str} (ha : a ∈ hs) : ∀ {rs : List Str}, (∀ r ∈ rs, r ∈ hs) → (rs.map (sgn fr a)).count a = rs.count a
  | [], _ => rfl
  | r :: t, h => by
    rw [List.map_cons, List.count_cons, List.count_cons, Ways.sign_self T W ha (fun x hx => h x (List.mem_cons_of_mem _ hx))]
    have := W.sgn_ne T ha (h r List.mem_cons_self)
    by_cases e : r = a
    · rw [this.mpr e, e]
    · have n : sgn fr a r ≠ a := fun z => e (this.mp z)
      rw [beq_eq_false_iff_ne.mpr n, beq_eq_false_iff_ne.mpr e]
end
end Tr

/-! A dict comprehension whose keys are tuples. Law-independent. -/
namespace L2
open PySem PySem.Spec PyProof.Rows
section
variable {X : Cx}
/-- one entry set, its key a tuple that is known -/
theorem tupKeySet {ps : List (Addr × Obj)} {σ : St} {H : Hp} {s : Shared} {R : Value → Shared → Prop} {d b : Addr} {es : List (List Key × V)} {k : List Key} {x : V} {u : Value} {Q : Unit → Shared → Prop} (J : Inv X ps σ H s) (hd : H d = some (.dT es)) (hb : H b = some (.tup (k.map kV)))
    (room : X.A.units < cLine) (few : es.length < sizeLine) (hx : RelV x u) (go : ∀ z, Inv X ps σ (upd H d (.dT (putK es k x))) z → Q () z) : wpAny (model X.prog X.w) X.A (dictSet d (.ref b) u) Q R s := by
  obtain ⟨h1, h2, ys, h3, h4⟩ := dt_of J.hok hd
  have few1 : ys.length ≤ sizeLine := (Paired.length h3) ▸ h1
  have few2 : (putK es k x).length ≤ sizeLine := Nat.le_trans (length_putK es k x) few
  refine wpAny_dictSet_heap (hsz := few1) (show (tupleKind (mixKind X.prog X.w)).room X.A from room) (key_of J.hok hb) h4 fun hp dd same => go _ ?_
  obtain ⟨o, ents, ep, g1, g2, g3, g4, _, g5⟩ := dd
  refine d_write J (by rw [hd]; exact True.intro) same ⟨o, g1⟩ ⟨few2, h2, _, KT.keeps (h3.put k hb hx) (fun c zs hc => ?_), o, ents, ep, g1, g2, g3, g4, g5⟩
  rw [upd_ne (fun e => by rw [e, hd] at hc; cases hc)]
  exact hc
/-- {k: v for target in iter if ..}, each k a tuple: d the new dict -/
def tDcT (wi : TI) (g : TG) (tt : TT) (tk tv : TE) (vs : List Nat) : TE := fun σ H Q => wi σ H fun J H1 => ∀ d, H1 d = none → ∃ W : Nat → Nat → Hp → Prop, (∃ m, W 0 m (upd H1 d (.dT []))) ∧ ∀ i m H, W i m H →
  (J.stop i H ∧ Q (.ref d) H) ∨ (J.go i H ∧ ∃ Nx : Hp → Prop, (∀ H', Nx H' → ∃ m', m' < m ∧ W (i + 1) m' H') ∧ ∀ x H', J.yld i H x H' → g x (wipe σ vs) H' fun σ2 H2 => wipe σ2 vs = wipe σ vs ∧ tt σ2 H2 fun yes H3 =>
    if yes = true then tk σ2 H3 fun y H4 => tv σ2 H4 fun z H5 => ∃ es k b, y = .ref b ∧ H5 b = some (.tup (k.map kV)) ∧ H5 d = some (.dT es) ∧ es.length < sizeLine ∧ Nx (upd H5 d (.dT (putK es k z))) else Nx H3)
theorem dcT_run {pins : List (Addr × Obj)} {s0 : Shared} {σ : St} {H : Hp} {Q : VK} {ke ve tg it : Expr} {ifs : List Expr} {sc : Scope} {own : List (Str × Nat)} {p1 p2 : Pos} {wi : TI} {g : TG} {tt : TT} {tk tv : TE} {use : Option (Value → Sem Unit)} {Qf : Value → Shared → Prop}
    (room : X.A.units < cLine) (calm : X.calm = true) (nd : X.N.Nodup) (J0 : Inv X pins σ H s0) (pi : PI X tg it wi) (bo : BlkOk X.N X.env.scope sc own)
    (pg : ∀ (s : Shared) (H : Hp) (C : Addr) (cl : List (Str × Addr)) (fp : List Addr), PG (X.blk s H sc (compEnvC sc cl C X.env) fp) tg g) (pt : ∀ (s : Shared) (H : Hp) (C : Addr) (cl : List (Str × Addr)) (fp : List Addr), PTs (X.blk s H sc (compEnvC sc cl C X.env) fp) ifs tt)
    (pk : ∀ (s : Shared) (H : Hp) (C : Addr) (cl : List (Str × Addr)) (fp : List Addr), PE (X.blk s H sc (compEnvC sc cl C X.env) fp) ke tk) (pw : ∀ (s : Shared) (H : Hp) (C : Addr) (cl : List (Str × Addr)) (fp : List Addr), PE (X.blk s H sc (compEnvC sc cl C X.env) fp) ve tv)
    (fold : ∀ x, foldedSetIterable it X.env x = pure x) (rd : tDcT wi g tt tk tv (own.map (·.2)) σ H Q)
    (fin : ∀ d C z m H', Inv X pins σ H' z → Q (.ref d) H' → z.heap.Ns C m → FpOk X pins H' C → compPost (model X.prog X.w) X.A X.xe use Qf (.ref d) C (.ok .next) z) :
    wpAny (model X.prog X.w) X.A (comprehension (.DictComp ke ve [⟨tg, it, ifs, 0⟩] sc p1) sc X.env p2 newDict false (eval it X.env) use) Qf X.xe s0 := by
  have frees : ∀ y ∈ sc.names, y.2 = .free → ∃ c, X.env.cells.lookup y.1 = some c := fun y my e => (bo.free y my e).elim (fun q => J0.ok.has _ (.inl q)) (fun q => J0.ok.has _ (.inr q))
  refine wpAny_comprehension_free (use := use) rfl fold (closure_ok frees) bo.kind (fun y my e => (bo.uniq y my).trans (congrArg some e)) (thn (pi.run pins s0 σ H _ J0 rd) fun xv z1 hz => thn hz fun iv z2 hz2 => ?_)
  obtain ⟨ia, fp, tn, J, H2, e0, J2, T, st2, fo2, q⟩ := hz2
  cases e0
  refine wpAny_newObj_type (newEnv_comp ?_)
  generalize hd : z2.heap.objs.size = d
  have new : H2 d = none := J2.hok.fresh (Nat.le_of_eq hd)
  obtain ⟨W, ⟨m0, w0⟩, turn⟩ := q d new
  generalize hz3 : ({ z2 with heap := z2.heap.push { cls := .type "dict", data := .dict #[] } } : Shared) = z3
  have push3 : z3.heap = z2.heap.push { cls := .type "dict", data := .dict #[] } := by rw [← hz3]
  have J3 : Inv X pins σ (upd H2 d (.dT [])) z3 := by
    rw [← hz3]
    exact J2.laid (t' := z2.toks) (fun b o e => Heap.get?_push_of_some _ e) (Nat.le_of_eq hd) (by rw [← hd]; exact dt_empty z2.heap J2.big)
  have less : ∀ b ∈ fp, b < z2.heap.objs.size := fun b mb => let ⟨_, e, _⟩ := T.obj _ _ st2 b mb; Heap.lt_size e
  have fo3 : ∀ b ∈ fp, FpOk X pins (upd H2 d (.dT [])) b ∧ b < z3.heap.objs.size := fun b mb =>
    ⟨⟨(upd_ne (by rw [← hd]; exact Nat.ne_of_lt (less b mb))).trans (fo2 b mb).1, (fo2 b mb).2⟩, by rw [push3, Heap.size_push]; exact Nat.lt_succ_of_lt (less b mb)⟩
  have st3 : tn 0 z3.heap := T.keep _ _ _ st2 fun b _ o e => by rw [push3]; exact Heap.get?_push_of_some _ e
  have J4 := block_start J3 bo nd fo3
  have g3 := pg z3 (upd H2 d (.dT [])) z3.heap.objs.size (cellsFrom (z3.heap.objs.size + 1) sc.names (cloFrom X.env.cells sc.names [])) fp
  have t3 := pt z3 (upd H2 d (.dT [])) z3.heap.objs.size (cellsFrom (z3.heap.objs.size + 1) sc.names (cloFrom X.env.cells sc.names [])) fp
  have k3 := pk z3 (upd H2 d (.dT [])) z3.heap.objs.size (cellsFrom (z3.heap.objs.size + 1) sc.names (cloFrom X.env.cells sc.names [])) fp
  have v3 := pw z3 (upd H2 d (.dT [])) z3.heap.objs.size (cellsFrom (z3.heap.objs.size + 1) sc.names (cloFrom X.env.cells sc.names [])) fp
  show codeAny _ _ (.compStart (.DictComp ke ve [⟨tg, it, ifs, 0⟩] sc p1) 0 (.ref ia) (.ref d) (compEnvC sc (cellsFrom (z3.heap.objs.size + 1) sc.names (cloFrom X.env.cells sc.names [])) z3.heap.objs.size X.env)) (compPost (model X.prog X.w) X.A X.xe use Qf (.ref d) z3.heap.objs.size) { z3 with heap := pushCells (z3.heap.push { cls := .type "dict", data := .dict #[] }) sc.names }
  have bare : ∀ b ∈ fp, (upd H2 d (.dT [])) b = none := fun b mb => (fo3 b mb).1.1
  generalize hce : compEnvC sc (cellsFrom (z3.heap.objs.size + 1) sc.names (cloFrom X.env.cells sc.names [])) z3.heap.objs.size X.env = ce at J4 g3 t3 k3 v3 ⊢
  have here : ce.locals = z3.heap.objs.size := by subst hce; rfl
  generalize upd H2 d (.dT []) = H3 at J3 J4 g3 t3 k3 v3 w0 bare fo3
  generalize hz4 : ({ z3 with heap := pushCells (z3.heap.push { cls := .type "dict", data := .dict #[] }) sc.names } : Shared) = z4 at J4 ⊢
  have st4 : tn 0 z4.heap := T.keep _ _ _ st3 fun b _ o e => by rw [← hz4]; exact pushCells_keeps _ _ _ _ (Heap.get?_push_of_some _ e)
  have fpok : ∀ {σ' : St} {H' : Hp} {z : Shared}, Inv (X.blk z3 H3 sc ce fp) [] σ' H' z → (∀ b ∈ fp, H' b = none) → ∀ b ∈ fp, FpOk (X.blk z3 H3 sc ce fp) [] H' b := fun {σ' H' z} J' hn b mb =>
    ⟨hn b mb, (J'.ok.exf b mb).1, J'.ok.exfs b mb, .inl mb, fun x c e => (J'.ok.exf b mb).2 x c e, fun p hp => absurd (show p ∈ ([] : List (Addr × Obj)) ++ [] from hp) (by simp)⟩
  have whole : codeAny (model X.prog X.w) X.A (.compLoop (.DictComp ke ve [⟨tg, it, ifs, 0⟩] sc p1) 0 (.ref ia) (.ref d) ce) (compPost (model X.prog X.w) X.A X.xe use Qf (.ref d) z3.heap.objs.size) z4 := by
    refine compLoop_anyD (fun n z => ∃ i H', Inv (X.blk z3 H3 sc ce fp) [] (wipe σ (own.map (·.2))) H' z ∧ tn i z.heap ∧ (∀ b ∈ fp, H' b = none) ∧ W i n H') (fun n z5 hz5 => ?_) m0 ⟨0, H3, J4, st4, bare, w0⟩
    obtain ⟨i, H5, J5, st5, n5, w5⟩ := hz5
    rcases turn i n H5 w5 with ⟨stop, qq⟩ | ⟨go, Nx, hNx, one⟩
    · refine thnF (T.done (X.blk z3 H3 sc ce fp) rfl rfl rfl calm i [] z5 _ H5 (fun _ _ => False) J5 (fpok J5 n5) st5 stop) fun r z6 ⟨er, J6⟩ => ?_
      cases er
      have J7 : Inv X pins σ H5 z6 := J3.call' (ch := fp) J6.os J6.base J6.hok J6.bare fun b mb => let f := (fo3 b mb).1.2; ⟨f.2.2.1, f.1, f.2.2.2.1, f.2.2.2.2⟩
      have nC : H5 z3.heap.objs.size = none := here ▸ (show H5 ce.locals = none from J6.free)
      obtain ⟨m, hm, _⟩ := J6.loc
      have hm : z6.heap.Ns ce.locals m := hm
      exact fin d z3.heap.objs.size z6 m H5 J7 qq (here ▸ hm) (J3.fpOk (Nat.le_refl _) nC)
    · refine thnF (T.item (X.blk z3 H3 sc ce fp) rfl rfl rfl calm i [] z5 _ H5 (fun _ _ => False) J5 (fpok J5 n5) st5 go) fun r z6 ⟨u, er, h6⟩ => ?_
      cases er
      refine thnF h6 fun _ z7 ⟨x, H7, J7, r7, y7, st7, n7⟩ => ?_
      refine thnF (g3.run _ z7 _ H7 x u _ (J7.pinned (fpok J7 n7) (T.obj _ _ st7)) r7 (one x H7 y7)) fun _ z8 ⟨σ8, H8, J8, e8, q8⟩ => thnF (t3.run _ z8 σ8 H8 _ J8 q8) fun yes z9 ⟨H9, J9, q9⟩ => ?_
      have back : ∀ {z : Shared} {H' : Hp}, Inv (X.blk z3 H3 sc ce fp) ([] ++ pinsAt fp z7.heap) σ8 H' z → Nx H' → ∃ m, m < n ∧ ∃ i H', Inv (X.blk z3 H3 sc ce fp) [] (wipe σ (own.map (·.2))) H' z ∧ tn i z.heap ∧ (∀ b ∈ fp, H' b = none) ∧ W i m H' := fun {z H'} J' nx => by
        obtain ⟨m', less', w'⟩ := hNx H' nx
        have kept : ∀ b ∈ fp, ∀ o, z7.heap.get? b = some o → z.heap.get? b = some o ∧ H' b = none := fun b mb o e => let p := J'.pin (b, o) (List.mem_append_right _ (List.mem_append_right _ (mem_pinsAt mb e))); ⟨p.1, p.2.1⟩
        refine ⟨m', less', i + 1, H', J'.unpinned (pins := []) |>.weak ((wipe_length _ _).symm.trans ((congrArg List.length e8).symm.trans (wipe_length _ _)) |> fun e => by rw [← e8, wipe_length]) (fun j v e => (wipe_some (by rw [e8]; exact e)).1), T.keep _ _ _ st7 fun b mb o e => (kept b mb o e).1, fun b mb => ?_, w'⟩
        obtain ⟨o, e, _⟩ := T.obj _ _ st7 b mb
        exact (kept b mb o e).2
      cases yes with
      | false => exact back J9 (by simpa using q9)
      | true =>
        have q9 : tk σ8 H9 fun y H4 => tv σ8 H4 fun z H5 => ∃ es k b, y = .ref b ∧ H5 b = some (.tup (k.map kV)) ∧ H5 d = some (.dT es) ∧ es.length < sizeLine ∧ Nx (upd H5 d (.dT (putK es k z))) := by simpa using q9
        refine thnF (k3.run _ z9 σ8 H9 _ J9 q9) fun kv z10 ⟨yk, H10, J10, r10, q10⟩ => thnF (v3.run _ z10 σ8 H10 _ J10 q10) fun vv z11 ⟨yv, H11, J11, r11, es, k, b, ek, hb, he, few, nx⟩ => ?_
        subst ek
        cases (show kv = Value.ref b from r10)
        exact tupKeySet (X := X.blk z3 H3 sc ce fp) J11 he hb room few r11 fun z12 J12 => back J12 nx
  exact codeAny_compStart_dict whole (T.self X.A 0 _ _ _ st4 whole)
/-- as a value -/
theorem pe_dcT {ke ve tg it : Expr} {ifs : List Expr} {sc : Scope} {own : List (Str × Nat)} {p1 : Pos} {wi : TI} {g : TG} {tt : TT} {tk tv : TE} (room : X.A.units < cLine) (calm : X.calm = true) (nd : X.N.Nodup) (pi : PI X tg it wi) (bo : BlkOk X.N X.env.scope sc own)
    (pg : ∀ (s : Shared) (H : Hp) (C : Addr) (cl : List (Str × Addr)) (fp : List Addr), PG (X.blk s H sc (compEnvC sc cl C X.env) fp) tg g) (pt : ∀ (s : Shared) (H : Hp) (C : Addr) (cl : List (Str × Addr)) (fp : List Addr), PTs (X.blk s H sc (compEnvC sc cl C X.env) fp) ifs tt)
    (pk : ∀ (s : Shared) (H : Hp) (C : Addr) (cl : List (Str × Addr)) (fp : List Addr), PE (X.blk s H sc (compEnvC sc cl C X.env) fp) ke tk) (pw : ∀ (s : Shared) (H : Hp) (C : Addr) (cl : List (Str × Addr)) (fp : List Addr), PE (X.blk s H sc (compEnvC sc cl C X.env) fp) ve tv)
    (fold : ∀ x, foldedSetIterable it X.env x = pure x := by intro _; rfl) : PE X (.DictComp ke ve [⟨tg, it, ifs, 0⟩] sc p1) (tDcT wi g tt tk tv (own.map (·.2))) := by
  refine ⟨fun pins s σ H Q J h => ?_⟩
  rw [arm_eval_DictComp]
  exact dcT_run room calm nd J pi bo pg pt pk pw fold h fun d C z m H' J' q hn fr => ⟨m, hn, fun hp sb => ⟨.ref d, H', J'.turned (t' := z.toks) (fun b o hb e => (sb.2 b hb).trans e) fr.1 fr.2.1 fr.2.2.2.1 fr.2.2.2.2.1 fr.2.2.2.2.2, rfl, q⟩⟩
/-- y = {k: v for ..}, y a plain local name, each k a tuple -/
theorem ps_setDcT {i : Nat} {y : Str} {py : Pos} {ke ve tg it : Expr} {ifs : List Expr} {sc : Scope} {own : List (Str × Nat)} {p1 p2 : Pos} {wi : TI} {g : TG} {tt : TT} {tk tv : TE} (room : X.A.units < cLine) (calm : X.calm = true) (nd : X.N.Nodup) (hy : X.N[i]? = some y) (hyl : X.env.scope.names.lookup y = some .local)
    (sw : swapsWith (.DictComp ke ve [⟨tg, it, ifs, 0⟩] sc p1) (some (.Name y py)) p2.line X.env = pure true) (pi : PI X tg it wi) (bo : BlkOk X.N X.env.scope sc own)
    (pg : ∀ (s : Shared) (H : Hp) (C : Addr) (cl : List (Str × Addr)) (fp : List Addr), PG (X.blk s H sc (compEnvC sc cl C X.env) fp) tg g) (pt : ∀ (s : Shared) (H : Hp) (C : Addr) (cl : List (Str × Addr)) (fp : List Addr), PTs (X.blk s H sc (compEnvC sc cl C X.env) fp) ifs tt)
    (pk : ∀ (s : Shared) (H : Hp) (C : Addr) (cl : List (Str × Addr)) (fp : List Addr), PE (X.blk s H sc (compEnvC sc cl C X.env) fp) ke tk) (pw : ∀ (s : Shared) (H : Hp) (C : Addr) (cl : List (Str × Addr)) (fp : List Addr), PE (X.blk s H sc (compEnvC sc cl C X.env) fp) ve tv)
    (fold : ∀ x, foldedSetIterable it X.env x = pure x := by intro _; rfl) : PS X (.Assign [.Name y py] (.DictComp ke ve [⟨tg, it, ifs, 0⟩] sc p1) p2) (tAsg (tDcT wi g tt tk tv (own.map (·.2))) (gName i)) := by
  refine ⟨fun pins s σ H D J h => ?_⟩
  rw [exec_Assign_Name_used _ _ _ _ sw]
  refine wpAny_bind (wpAny_standAt (wpAny_bind ?_))
  have h : tDcT wi g tt tk tv (own.map (·.2)) σ H (fun x H1 => gName i x σ H1 D.nx) := h
  show wpAny _ X.A (do let _ ← comprehension (.DictComp ke ve [⟨tg, it, ifs, 0⟩] sc p1) sc X.env (firstIterPos [⟨tg, it, ifs, 0⟩] p1) newDict false (eval it X.env) (some (assign (.Name y py) X.env))) _ _ s
  refine wpAny_bind (thn (dcT_run (Qf := fun _ s' => SP X pins D .next s') room calm nd J pi bo pg pt pk pw fold h fun L C z m H1 J1 q hn fr => ?_) fun _ s' z => wpAny_pure (wpAny_pure z))
  refine wpAny_assign_Name (store_ok2 (v := V.ref L) J1 nd hy (.inl hyl) rfl (fun s2 J2 ⟨b, sb, hb⟩ => ?_) (.inr hyl))
  obtain ⟨k0, k1, k2, k3, k4, k5⟩ := fr
  have nC : C ≠ b := hb.elim (fun z => z ▸ k1) (fun z e => k4 y b z e.symm)
  exact ⟨m, hn.sameBut sb nC, fun h3 s3 => ⟨_, H1, J2.turned (t' := s2.toks) (fun x o hx e => (s3.2 x hx).trans e) k0 k1 k3 k4 k5, q⟩⟩
end
end L2
namespace Dk
open PySem PySem.Spec PyProof.Rows L2
/-- such a comprehension over what is walked -/
theorem dcT_it {J : It} {n : Nat} {G : Hp → Prop} {Y : Nat → Hp → V → Hp → Prop} (w : Walk J n G Y) {g : TG} {tt : TT} {tk tv : TE} {vs : List Nat} {σ : L2.St} {H1 : Hp} {D : Addr} {Qd : Hp → Prop} (Pv : Nat → Hp → Prop) (h0 : Pv 0 (upd H1 D (.dT []))) (hG : ∀ i H, i ≤ n → Pv i H → G H)
    (hs : ∀ i x H H', i < n → Pv i H → Y i H x H' → g x (wipe σ vs) H' fun σ2 H2 => wipe σ2 vs = wipe σ vs ∧ tt σ2 H2 fun b H3 =>
      if b = true then tk σ2 H3 fun y H4 => tv σ2 H4 fun z H5 => ∃ es k b, y = .ref b ∧ H5 b = some (.tup (k.map kV)) ∧ H5 D = some (.dT es) ∧ es.length < sizeLine ∧ Pv (i + 1) (upd H5 D (.dT (putK es k z))) else Pv (i + 1) H3) (hd : ∀ H, Pv n H → Qd H) :
    ∃ W : Nat → Nat → Hp → Prop, (∃ m, W 0 m (upd H1 D (.dT []))) ∧ ∀ i m H, W i m H →
      (J.stop i H ∧ Qd H) ∨ (J.go i H ∧ ∃ Nx : Hp → Prop, (∀ H', Nx H' → ∃ m', m' < m ∧ W (i + 1) m' H') ∧ ∀ x H', J.yld i H x H' → g x (wipe σ vs) H' fun σ2 H2 => wipe σ2 vs = wipe σ vs ∧ tt σ2 H2 fun b H3 =>
        if b = true then tk σ2 H3 fun y H4 => tv σ2 H4 fun z H5 => ∃ es k b, y = .ref b ∧ H5 b = some (.tup (k.map kV)) ∧ H5 D = some (.dT es) ∧ es.length < sizeLine ∧ Nx (upd H5 D (.dT (putK es k z))) else Nx H3) :=
  out_it w (B := fun Nx x H' => g x (wipe σ vs) H' fun σ2 H2 => wipe σ2 vs = wipe σ vs ∧ tt σ2 H2 fun b H3 =>
        if b = true then tk σ2 H3 fun y H4 => tv σ2 H4 fun z H5 => ∃ es k b, y = .ref b ∧ H5 b = some (.tup (k.map kV)) ∧ H5 D = some (.dT es) ∧ es.length < sizeLine ∧ Nx (upd H5 D (.dT (putK es k z))) else Nx H3) Pv h0 hG hs hd
/-! dicts whose keys are pairs of texts, told by a list of pairs and a function -/
def kp (q : Str × Str) : List Key := [Sum.inr q.1, Sum.inr q.2]
theorem kp_inj {a b : Str × Str} : kp a = kp b ↔ a = b := by
  obtain ⟨x, y⟩ := a
  obtain ⟨z, w⟩ := b
  simp [kp]
def tabP (ps : List (Str × Str)) (g : Str × Str → V) : List (List Key × V) := ps.map fun q => (kp q, g q)
theorem tabP_length (ps : List (Str × Str)) (g : Str × Str → V) : (tabP ps g).length = ps.length := List.length_map _
theorem tabP_congr {ps : List (Str × Str)} {g g' : Str × Str → V} (h : ∀ x ∈ ps, g x = g' x) : tabP ps g = tabP ps g' := List.map_congr_left fun x hx => by rw [h x hx]
theorem valP_in {q : Str × Str} {g : Str × Str → V} : ∀ {ps : List (Str × Str)}, q ∈ ps → valV (tabP ps g) (kp q) = some (g q)
  | [], h => by simp at h
  | p :: r, h => by
    unfold valV tabP
    rw [List.map_cons, List.find?_cons]
    by_cases e : p = q
    · subst e
      simp
    · have ne : decide ((kp p, g p).1 = kp q) = false := decide_eq_false (fun z => e (kp_inj.mp z))
      rw [ne]
      exact valP_in (ps := r) ((List.mem_cons.mp h).resolve_left (fun z => e z.symm))
theorem anyP {q : Str × Str} {g : Str × Str → V} : ∀ (ps : List (Str × Str)), ((tabP ps g).any fun kv => decide (kv.1 = kp q)) = decide (q ∈ ps)
  | [] => rfl
  | p :: r => by
    show (decide (kp p = kp q) || (tabP r g).any _) = _
    rw [anyP r, Bool.eq_iff_iff, Bool.or_eq_true, decide_eq_true_iff, decide_eq_true_iff, decide_eq_true_iff, List.mem_cons, kp_inj]
    exact ⟨fun z => z.imp (fun e => e.symm) id, fun z => z.imp (fun e => e.symm) id⟩
theorem putP_new {ps : List (Str × Str)} {g : Str × Str → V} {q : Str × Str} {v : V} (h : q ∉ ps) (hv : v = g q) : putK (tabP ps g) (kp q) v = tabP (ps ++ [q]) g := by
  unfold putK
  rw [anyP, if_neg (by simpa using h)]
  unfold tabP
  rw [List.map_append, hv]
  rfl
end Dk

namespace Sq
open PySem PySem.Spec PyProof.Rows L2
section
variable {X : Cx}
/-! ### sum of a list or a tuple; comb; xs[i] op= -/
def rSumK (K : PySem.W.Frag) : List V → Hp → VK → Prop := fun vs H Q => ∃ (t : Bool) (a : Addr) (ns : List Int), vs = [V.ref a] ∧ SqK K H t a (ns.map V.int) ∧ Q (.int ns.sum) H
theorem cr_sumK (hc : X.calm = true) : CallR X (.builtin "sum") (rSumK X.K) := by
  intro pins s σ H vs us Q I r h
  obtain ⟨t, a, ns, rfl, hs, q⟩ := h
  rw [Vals.ref1 r]
  cases t with
  | false =>
    obtain ⟨its, rv, hl, _⟩ := I.list hs
    exact sum_raw (I.ok.hd hc) hl.isList rv.ints fun h' tk t' hk => ⟨.int _, H, I.kept hk, ⟨_, rfl⟩, q⟩
  | true =>
    obtain ⟨its, rv, hl, _⟩ := I.tuple hs
    have hi := rv.ints
    obtain ⟨xs, e⟩ := hi.allInts.items
    have hn : numsOf (intItems xs).toList = ns := by rw [← e]; exact hi.numsOf
    rw [nums_intItems] at hn
    rw [e] at hl
    refine PySem.W.ktm_sumG (I.ok.hd hc) hl fun h' tk t' hk => ?_
    refine ⟨.int _, H, I.kept hk, ⟨_, rfl⟩, ?_⟩
    rw [preSum_eq, List.take_of_length_le (by simp), hn]
    exact q
def rComb : List V → Hp → VK → Prop := fun vs H Q => ∃ a b : Int, vs = [.int a, .int b] ∧ 0 ≤ a ∧ a ≤ 18000 ∧ 0 ≤ b ∧ Q (.int (PySem.W.mcComb a b)) H
theorem cr_comb : CallR X (.builtin "math.comb") rComb := by
  intro pins s σ H vs us Q I r h
  obtain ⟨a, b, rfl, h0, h1, h2, q⟩ := h
  obtain ⟨t, u, rfl⟩ := Vals.int2 r
  have g := PySem.W.mc_gives_comb (a := a) (b := b) t u h0 h2 (by omega) (.inr h1)
  exact call_function_meets PySem.W.MGF.kind_comb PySem.W.MGF.plain_comb PySem.W.MGF.entry_comb (PySem.W.MGF.args_comb _ _) g.meets ⟨.int _, H, I.tok _, ⟨_, rfl⟩, q⟩
def rGetL (K : PySem.W.Frag) : V → V → Hp → VK → Prop := fun o i H Q => ∃ (p : Addr) (xs : List V) (j : Nat) (v : V), o = .ref p ∧ i = .int (j : Nat) ∧ SqL K H p xs ∧ xs[j]? = some v ∧ Q v H
theorem get_list : PGet X (rGetL X.K) := by
  intro pins s σ H o i ov iv Q I ro ri h
  obtain ⟨p, xs, j, v, rfl, rfl, hq, hv, q⟩ := h
  cases ro
  obtain ⟨t, rfl⟩ := ri
  obtain ⟨its, r, pl, hz⟩ := I.list hq
  obtain ⟨w, ew, rw'⟩ := r.get hv
  have hj : j < its.length := (List.getElem?_eq_some_iff.mp ew).1
  have hn := line63
  have hl := r.length
  refine wpAny_getItem_list pl.isList (by omega) ?_ (by simpa using ew) ⟨v, H, I, rw', q⟩
  omega
end
end Sq

namespace K11
open PySem PySem.Spec PyProof.Rows L2 Tr Sq Dk
/-! ### village.paths(), times_gone -/
abbrev sPathsM : Stmt := meth 2
abbrev sTimes : Stmt := top 40
def spPathsM (K : PySem.W.Frag) : Sp := fun vs H Q _ => ∃ (v C : Addr) (hs : List Str) (ps : Prs) (m : VilD), vs = [.ref v] ∧ Cls K C ∧ NoAttr K C "_paths" ∧ Vil H C v hs ps m ∧ ∀ p, H p = none → Q (.ref p) (upd H p (.lst (refsL m.zs)))
/-- the class has paths(), too -/
structure VP (P : Program) (w : World) (K : PySem.W.Frag) (mg : Str → Option Value) (base : Heap) (C : Addr) : Prop where
  pt : ∃ f fd, Meth K C "paths" f ∧ FnOk P w K mg base CX0 1 f fd ["self"] (spPathsM K) ∧ L2.Binds K fd ["self"] []
/-- how often one of two steps is gone: there, back -/
def goneV (st : Prs) (q : Str × Str) : List V := [.int (st.count q : Nat), .int (st.count (q.2, q.1) : Nat)]
def spTimes (C : Addr) : Sp := fun vs H Q _ => ∃ (v l : Addr) (ws hs : List Str) (ps : Prs) (m : VilD), vs = [.ref v, .ref l] ∧ Vil H C v hs ps m ∧ Tree hs ps ∧ (∀ q ∈ ps, ordP q = q) ∧ H l = some (.lst (ws.map V.str)) ∧ (∀ q ∈ stp ws, Adj ps q.1 q.2) ∧ ps.length ≤ 30 ∧
  ∀ (D : Addr) (ad : Str × Str → Addr) (H' : Hp), Evl.Ex H H' → H D = none → H' D = some (.dT (tabP ps fun q => .ref (ad q))) → (∀ q ∈ ps, H' (ad q) = some (.lst (goneV (stp ws) q))) → Q (.ref D) H'
theorem ordP_in {hs : List Str} {ps : Prs} (T : Tree hs ps) (ho : ∀ q ∈ ps, ordP q = q) {x y : Str} (h : Adj ps x y) : ordP (x, y) ∈ ps ∧ ∀ p ∈ ps, (p = (x, y) ∨ (p.2, p.1) = (x, y)) → p = ordP (x, y) := by
  have hne : x ≠ y := fun z => T.irr (z ▸ h : Adj ps y y)
  have e1 : ∀ a b : Str, a ≠ b → (a, b) ∈ ps → Srs.ltT a b = true := fun a b n m => by
    have := ho _ m
    unfold ordP at this
    split at this
    · assumption
    · injection this with w _
      exact absurd w n.symm
  have key : ∀ p ∈ ps, (p = (x, y) ∨ (p.2, p.1) = (x, y)) → p = ordP (x, y) := fun p hp e => by
    rcases e with rfl | e
    · exact (ho _ hp).symm
    · have e2 : p = (y, x) := by
        obtain ⟨a, b⟩ := p
        injection e with w1 w2
        rw [← w1, ← w2]
      subst e2
      have := Srs.ltT_asym (e1 y x hne.symm hp)
      unfold ordP
      rw [if_neg (by rw [this]; simp)]
  refine ⟨?_, key⟩
  rcases h with h | h
  · rw [← key _ h (.inl rfl)]; exact h
  · rw [← key _ h (.inr rfl)]; exact h
theorem beq_ne {p q : Str × Str} (h : ¬ q = p) : (p == q) = false := beq_eq_false_iff_ne.mpr (fun z => h z.symm)
theorem cutV_tl2 {xs : List V} : cutV xs (some 1) none = xs.tail := by
  cases xs with
  | nil => rfl
  | cons x r =>
    unfold cutV
    rw [show (1 : Int) = ((1 : Nat) : Int) from rfl, HT.sIx_nat, HT.sIx_none, show min 1 (x :: r).length = 1 by rw [List.length_cons]; omega]
    show (List.drop 1 (x :: r)).take _ = r
    rw [List.drop_one, List.tail_cons, List.take_of_length_le (by rw [List.length_cons]; omega)]
section
variable {P : Program} {w : World} {K : PySem.W.Frag} {mg : Str → Option Value} {base : Heap}
theorem scPathsM : FnScope ["self"] ["self"] (defScope sPathsM) := ⟨rfl, rfl, rfl, by decide +kernel, rfl, by decide +kernel, by decide +kernel⟩
theorem ok_pathsM {f : Addr} {fd : FuncData} (F : FnM K "paths" "Village.paths" sPathsM f fd) (gL : mg "list" = none) : FnOk P w K mg base CX0 1 f fd ["self"] (spPathsM K) := by
  refine F.ok scPathsM (fun vs H Q E h => ?_) (fun cdv A outer s H vs Q E hr h => ?_)
  · obtain ⟨v, C, hs, ps, m, rfl, _⟩ := h
    rfl
  · obtain ⟨v, C, hs, ps, m, rfl, cl, n1, V, k⟩ := h
    refine ⟨_, PSs.nox (pss_one (ps_ret (pe_callTy call_list_of rfl gL (by decide +kernel) (pa_cons (pe_fld (pv 0) rfl) pa_nil)))), ?_⟩
    exact ⟨_, rfl, v, C, _, _, _, rfl, V.at_, cl, n1, rfl, m.b, _, rfl, .inl (SqL.of V.lb), fun p hp => k p hp⟩
theorem scTimes : FnScope ["village", "steps", "gone", "start", "house", "path"] ["village", "steps"] (defScope sTimes) := ⟨rfl, rfl, rfl, by decide +kernel, rfl, by decide +kernel, by decide +kernel⟩
theorem ok_times {C f fB : Addr} {fd fdB : FuncData} (F : FnP K "times_gone" sTimes f fd) (c : VC P w K mg base C) (cp : VP P w K mg base C) (GB : FnOk P w K mg base CX0 1 fB fdB ["one", "other"] spBetween) (bB : L2.Binds K fdB ["one", "other"] []) (kB : PySem.W.keepIn K (.ref fB) = true) (gB : mg "path_between" = some (.ref fB)) (gZ : mg "zip" = none) :
    FnOk P w K mg base CX0 2 f fd ["village", "steps"] (spTimes C) := by
  obtain ⟨fP, fdP, mP, GP, bP⟩ := cp.pt
  refine F.ok scTimes (fun vs H Q E h => ?_) (fun cdv A outer s H vs Q E hr h => ?_)
  · obtain ⟨v, l, ws, hs, ps, m, rfl, _⟩ := h
    rfl
  · obtain ⟨v, l, ws, hs, ps, m, rfl, Vh, T, hord, hl, hadj, p30, k⟩ := h
    refine' ⟨_, PSs.nox (pss_cons ?dc
      (pss_cons (ps_for PassesOwn.never rfl (pi_zip2 rfl gZ (pa_cons (pv 1) (pa_cons (pe_slice sl_list (pv 1) (po_some pe_int) po_none) pa_nil))) (pg_tup rfl (pgs_cons (pg_name (i := 3) scTimes.nd rfl (.inl rfl)) (pgs_cons (pg_name (i := 4) scTimes.nd rfl (.inl rfl)) pgs_nil)))
        (pss_one (ps_augS (pe_dget (hu_of hr) (pv 2) (pe_call GB (hr.mono (by decide)) rfl gB kB bB .nil pass0 (pa_cons (pv 3) (pa_cons (pv 4) pa_nil))) (fun _ _ => rfl)) (pe_ifExp (pt_cmpR op_lt_str (pv 3) (pv 4) (nomark _)) pe_int pe_int) get_list pe_int ip_add set_list)))
      (pss_one (ps_ret (pv 2))))), ?rd⟩
    case dc =>
      exact ps_setDcT (i := 2) (own := [("path", 5)]) (g := gName 5) (tt := tYes) (tk := tVar 5) (tv := tLst (tCons (tC (.int 0)) (tCons (tC (.int 0)) tNil))) (Nat.lt_of_succ_lt (hu_of hr)) rfl scTimes.nd rfl rfl (sw_trueD rfl rfl rfl (by decide +kernel)) (pi_list (pe_meth0 (pv 0) c.cl mP GP (hr.mono (by decide)) bP .nil pass0))
        (blkOk_by (own := [("path", 5)]) (N := ["village", "steps", "gone", "start", "house", "path"]) (sc := defScope sTimes) (by decide +kernel)) (fun _ _ _ _ _ => pg_name (i := 5) scTimes.nd rfl (.inl rfl)) (fun _ _ _ _ _ => pts_nil) (fun _ _ _ _ _ => pv 5) (fun _ _ _ _ _ => pe_lst (pa_cons pe_int (pa_cons pe_int pa_nil)))
    refine ⟨_, rfl, v, m.dx, _, rfl, Vh.at_, rfl, v, C, hs, ps, m, rfl, c.cl, c.n2, Vh, fun p hp => ?_⟩
    refine ⟨p, rfl, ⟨_, SqL.of upd_same⟩, fun D hD => ?_⟩
    have x1 : Evl.Ex H (upd H p (.lst (refsL m.zs))) := Evl.Ex.new hp
    have p1 : upd H p (.lst (refsL m.zs)) p = some (.lst (refsL m.zs)) := upd_same
    have hDH : H D = none := none_of (fun o z => x1 _ _ z) hD
    have V1 := Vh.ex x1
    generalize upd H p (.lst (refsL m.zs)) = H1 at x1 p1 hD V1
    have zl : m.zs.length = ps.length := by rw [← Vh.eq, List.length_map]
    refine dcT_it (walk_list (xs := refsL m.zs)) (fun i H' => Evl.Ex H1 H' ∧ ∃ ad : Str × Str → Addr, H' D = some (.dT (tabP (ps.take i) fun q => .ref (ad q))) ∧ (∀ q ∈ ps.take i, H' (ad q) = some (.lst [.int 0, .int 0]) ∧ H1 (ad q) = none ∧ ad q ≠ D) ∧ ∀ q ∈ ps.take i, ∀ q' ∈ ps.take i, ad q = ad q' → q = q') ?_ ?_ ?_ ?_
    · exact ⟨Evl.Ex.new hD, fun _ => 0, upd_same, fun q hq => absurd hq (by simp), fun q hq => absurd hq (by simp)⟩
    · intro i H' _ hp'
      exact SqL.of (hp'.1 _ _ p1)
    · rintro i z H2 H3 hi ⟨x2, ad, e1, e2, e3⟩ ⟨rfl, hz⟩
      unfold refsL at hi hz
      rw [List.length_map] at hi
      obtain ⟨t, ht⟩ := getD_of hi
      rw [List.getElem?_map, ht] at hz
      cases hz
      obtain ⟨Ta, a, b⟩ := t
      have hq : ps[i]? = some (a, b) := by rw [← Vh.eq, List.getElem?_map, ht]; rfl
      have hTa := x2 _ _ (V1.pr _ (List.mem_of_getElem? ht))
      have tk : ps.take (i + 1) = ps.take i ++ [(a, b)] := by rw [List.take_add_one, hq]; rfl
      have hni : (a, b) ∉ ps.take i := fun z => by
        obtain ⟨j, hj⟩ := List.mem_iff_getElem?.mp z
        have lt : j < i := by
          have := (List.getElem?_eq_some_iff.mp hj).1
          rw [List.length_take] at this
          omega
        rw [List.getElem?_take_of_lt lt] at hj
        have := (List.getElem?_inj (List.getElem?_eq_some_iff.mp hj).1 T.np).mp (hj.trans hq.symm)
        omega
      refine ⟨rfl, _, rfl, by show 2 ≤ sizeLine; decide, fun e he => ?_⟩
      have x3 : Evl.Ex H3 (upd H3 e (.lst [.int 0, .int 0])) := Evl.Ex.new he
      have hDe : D ≠ e := ne_of_none e1 he
      have he1 : H1 e = none := none_of (fun o z => x2 _ _ z) he
      refine ⟨_, kp (a, b), Ta, rfl, x3 _ _ hTa, by rw [upd_ne hDe]; exact e1, ?_, ex_upd (x2.trans x3) hD, fun q => if q = (a, b) then e else ad q, ?_, fun q hq' => ?_, fun q hq1 q' hq2 => ?_⟩
      · rw [tabP_length, List.length_take]
        exact Nat.lt_of_le_of_lt (show min i ps.length ≤ 30 by omega) (by decide)
      · rw [upd_same, tk]
        congr 2
        rw [tabP_congr (g := fun q => V.ref (ad q)) (g' := fun q => V.ref (if q = (a, b) then e else ad q)) (fun q hq => by rw [if_neg (fun z : q = (a, b) => hni (z ▸ hq))])]
        exact putP_new hni (by simp)
      · rw [tk] at hq'
        rcases List.mem_append.mp hq' with hq' | hq'
        · have hne : q ≠ (a, b) := fun z => hni (z ▸ hq')
          obtain ⟨h1, h2, h3⟩ := e2 q hq'
          simp only [if_neg hne]
          exact ⟨by rw [upd_ne h3]; exact x3 _ _ h1, h2, h3⟩
        · rw [List.mem_singleton.mp hq']
          simp only [if_true]
          exact ⟨by rw [upd_ne hDe.symm]; exact upd_same, he1, hDe.symm⟩
      · rw [tk] at hq1 hq2
        have old : ∀ r ∈ ps.take i, ad r ≠ e := fun r hr z => by
          have := (e2 r hr).1
          rw [z, he] at this
          cases this
        rcases List.mem_append.mp hq1 with h1 | h1 <;> rcases List.mem_append.mp hq2 with h2 | h2
        · simp only [if_neg (fun z => hni (z ▸ h1) : q ≠ (a, b)), if_neg (fun z => hni (z ▸ h2) : q' ≠ (a, b))]
          exact e3 q h1 q' h2
        · rw [List.mem_singleton.mp h2]
          simp only [if_neg (fun z => hni (z ▸ h1) : q ≠ (a, b)), if_true]
          exact fun z => absurd z (old q h1)
        · rw [List.mem_singleton.mp h1]
          simp only [if_neg (fun z => hni (z ▸ h2) : q' ≠ (a, b)), if_true]
          exact fun z => absurd z.symm (old q' h2)
        · rw [List.mem_singleton.mp h1, List.mem_singleton.mp h2]
          exact fun _ => rfl
    · rintro H2 ⟨x2, ad, e1, e2, e3⟩
      have all : ps.take (refsL m.zs).length = ps := by
        unfold refsL
        rw [List.length_map, zl, List.take_length]
      rw [all] at e1 e2 e3
      have xH : Evl.Ex H H2 := x1.trans x2
      refine ⟨_, rfl, _, rfl, _, rfl, l, _, rfl, SqL.of (xH _ _ hl), fun c hc => ?_⟩
      rw [cutV_tl2, ← List.map_tail]
      have x3 : Evl.Ex H2 (upd H2 c (.lst (ws.tail.map V.str))) := Evl.Ex.new hc
      have c3 : upd H2 c (.lst (ws.tail.map V.str)) c = some (.lst (ws.tail.map V.str)) := upd_same
      have adc : ∀ q ∈ ps, ad q ≠ c := fun q hq => ne_of_none (e2 q hq).1 hc
      have Dc : D ≠ c := ne_of_none e1 hc
      have l3 := x3 _ _ (xH _ _ hl)
      have e1' := x3 _ _ e1
      have e2' : ∀ q ∈ ps, upd H2 c (.lst (ws.tail.map V.str)) (ad q) = some (.lst [.int 0, .int 0]) := fun q hq => x3 _ _ (e2 q hq).1
      have xH3 := xH.trans x3
      generalize upd H2 c (.lst (ws.tail.map V.str)) = H3 at x3 c3 l3 e1' e2' xH3
      have adH : ∀ q ∈ ps, H (ad q) = none := fun q hq => none_of (fun o z => x1 _ _ z) (e2 q hq).2.1
      refine ⟨false, false, l, c, _, _, rfl, SqL.of l3, SqL.of c3, ?_⟩
      have hn : (stp ws).length = min (ws.map V.str).length (ws.tail.map V.str).length := by
        unfold stp
        rw [List.length_zip, List.length_map, List.length_map]
      refine for_it (walk_zip2 hn) (fun i σ H' => ∃ v3 v4, σ = [some (.ref v), some (.ref l), some (.ref D), v3, v4, none] ∧ Evl.Ex H H' ∧ H' c = some (.lst (ws.tail.map V.str)) ∧ H' D = some (.dT (tabP ps fun q => .ref (ad q))) ∧ ∀ q ∈ ps, H' (ad q) = some (.lst (goneV ((stp ws).take i) q))) ?_ ?_ ?_ ?_
      · exact ⟨_, _, rfl, xH3, c3, e1', e2'⟩
      · rintro i σ H' _ ⟨v3, v4, rfl, x4, c4, _⟩
        exact ⟨SqL.of (x4 _ _ hl), SqL.of c4⟩
      · rintro i z σ H4 H5 hi ⟨v3, v4, rfl, x4, c4, d4, a4⟩ ⟨Tq, u, z, rfl, hT, rfl, hu, hz⟩
        have hu : (ws.map V.str)[i]? = some u := hu
        have hz : (ws.tail.map V.str)[i]? = some z := hz
        rw [List.getElem?_map] at hu hz
        obtain ⟨x, hx, rfl⟩ := Option.map_eq_some_iff.mp hu
        obtain ⟨y, hy, rfl⟩ := Option.map_eq_some_iff.mp hz
        have hst : (stp ws)[i]? = some (x, y) := by
          unfold stp
          rw [List.getElem?_zip_eq_some]
          exact ⟨hx, hy⟩
        have hxy := hadj _ (List.mem_of_getElem? hst)
        have hxy : Adj ps x y := hxy
        obtain ⟨oin, ouq⟩ := ordP_in T hord hxy
        have hne : x ≠ y := fun z => T.irr (z ▸ hxy : Adj ps y y)
        have x5 : Evl.Ex H4 (upd H4 Tq (.tup [.str x, .str y])) := Evl.Ex.new hT
        have t5 : upd H4 Tq (.tup [.str x, .str y]) Tq = some (.tup [.str x, .str y]) := upd_same
        have c5 := x5 _ _ c4
        have d5 := x5 _ _ d4
        have a5 : ∀ q ∈ ps, upd H4 Tq (.tup [.str x, .str y]) (ad q) = some (.lst (goneV ((stp ws).take i) q)) := fun q hq => x5 _ _ (a4 q hq)
        have xH5 := x4.trans x5
        generalize upd H4 Tq (.tup [.str x, .str y]) = H5 at x5 t5 c5 d5 a5 xH5
        refine ⟨Tq, _, rfl, SqT.of t5, rfl, _, _, rfl, _, _, rfl, rfl, ?_⟩
        refine ⟨_, rfl, _, rfl, _, rfl, x, y, rfl, fun tk htk => ?_⟩
        have x6 : Evl.Ex H5 (upd H5 tk (.tup [.str (ordP (x, y)).1, .str (ordP (x, y)).2])) := Evl.Ex.new htk
        have t6 : upd H5 tk (.tup [.str (ordP (x, y)).1, .str (ordP (x, y)).2]) tk = some (.tup ((kp (ordP (x, y))).map kV)) := upd_same
        have d6 := x6 _ _ d5
        have c6 := x6 _ _ c5
        have a6 : ∀ q ∈ ps, upd H5 tk (.tup [.str (ordP (x, y)).1, .str (ordP (x, y)).2]) (ad q) = some (.lst (goneV ((stp ws).take i) q)) := fun q hq => x6 _ _ (a5 q hq)
        have xH6 := xH5.trans x6
        generalize upd H5 tk (.tup [.str (ordP (x, y)).1, .str (ordP (x, y)).2]) = H6 at x6 t6 d6 c6 a6 xH6
        have g6 := DGet.t d6 t6
        rw [valP_in oin] at g6
        refine ⟨D, _, rfl, g6, _, rfl, _, rfl, x, y, rfl, rfl, _, rfl, ?_⟩
        have tki : (stp ws).take (i + 1) = (stp ws).take i ++ [(x, y)] := by rw [List.take_add_one, hst]; rfl
        have end_ : ∀ zs : List V, zs = goneV ((stp ws).take (i + 1)) (ordP (x, y)) → ∃ v3 v4, [some (V.ref v), some (V.ref l), some (V.ref D), some (V.str x), some (V.str y), none] = [some (V.ref v), some (V.ref l), some (V.ref D), v3, v4, none] ∧ Evl.Ex H (upd H6 (ad (ordP (x, y))) (.lst zs)) ∧ upd H6 (ad (ordP (x, y))) (.lst zs) c = some (.lst (ws.tail.map V.str)) ∧
            upd H6 (ad (ordP (x, y))) (.lst zs) D = some (.dT (tabP ps fun q => .ref (ad q))) ∧ ∀ q ∈ ps, upd H6 (ad (ordP (x, y))) (.lst zs) (ad q) = some (.lst (goneV ((stp ws).take (i + 1)) q)) := by
          rintro zs rfl
          refine ⟨_, _, rfl, ex_upd xH6 (adH _ oin), by rw [upd_ne (adc _ oin).symm]; exact c6, by rw [upd_ne (e2 _ oin).2.2.symm]; exact d6, fun q hq => ?_⟩
          by_cases e : q = ordP (x, y)
          · rw [e, upd_same]
          · rw [upd_ne (fun z => e (e3 _ hq _ oin z)), a6 q hq]
            have n1 : ¬ q = (x, y) := fun z => e (ouq q hq (.inl z))
            have n2 : ¬ (q.2, q.1) = (x, y) := fun z => e (ouq q hq (.inr z))
            unfold goneV
            rw [tki, List.count_append, List.count_append, List.count_singleton, List.count_singleton, beq_ne n1, beq_ne n2]
            simp
        have el : decide (x.cps.toList < y.cps.toList) = Srs.ltT x y := rfl
        rw [el]
        have hc0 := a6 _ oin
        cases hlt : Srs.ltT x y with
        | true =>
          have eo : ordP (x, y) = (x, y) := by unfold ordP; rw [if_pos hlt]
          rw [eo] at hc0 end_ ⊢
          refine iteT ⟨ad (x, y), _, 0, _, rfl, rfl, SqL.of hc0, rfl, _, _, rfl, rfl, ad (x, y), _, 0, 0, rfl, rfl, hc0, rfl, end_ _ ?_⟩
          unfold goneV
          rw [tki, List.count_append, List.count_append, List.count_singleton, List.count_singleton, beq_ne (p := (x, y)) (q := (y, x)) (fun z => hne (by injection z with z1 z2))]
          simp
        | false =>
          have eo : ordP (x, y) = (y, x) := by unfold ordP; rw [if_neg (by rw [hlt]; simp)]
          rw [eo] at hc0 end_ ⊢
          refine iteF ⟨ad (y, x), _, 1, _, rfl, rfl, SqL.of hc0, rfl, _, _, rfl, rfl, ad (y, x), _, 1, 1, rfl, rfl, hc0, rfl, end_ _ ?_⟩
          unfold goneV
          rw [tki, List.count_append, List.count_append, List.count_singleton, List.count_singleton, beq_ne (p := (x, y)) (q := (y, x)) (fun z => hne (by injection z with z1 z2))]
          simp
      · rintro σ H4 ⟨v3, v4, rfl, x4, c4, d4, a4⟩
        rw [List.take_length] at a4
        exact ⟨_, rfl, k D ad H4 x4 hDH d4 a4⟩
end
end K11

namespace K11
open PySem PySem.Spec PyProof.Rows L2
abbrev sIsInt : Stmt := top 14
abbrev sIsNum : Stmt := top 15
section
variable {P : Program} {w : World} {K : PySem.W.Frag} {mg : Str → Option Value} {base : Heap}
theorem scIsInt : FnScope ["thing"] ["thing"] (defScope sIsInt) := ⟨rfl, rfl, rfl, by decide +kernel, rfl, by decide +kernel, by decide +kernel⟩
theorem ok_isInt {f : Addr} {fd : FuncData} (F : FnP K "is_integer" sIsInt f fd) (gI : mg "int" = none) (gB : mg "bool" = none) (gS : mg "isinstance" = none) : FnOk P w K mg base CX0 1 f fd ["thing"] spIsInt := by
  refine F.ok scIsInt (fun vs H Q E h => ?_) (fun cdv A outer s H vs Q E hr h => ?_)
  · obtain ⟨x, n, rfl, _⟩ := h
    rfl
  · obtain ⟨x, n, rfl, hx, k⟩ := h
    refine ⟨_, PSs.nox (pss_one (ps_ret (pe_and (pe_callB call_isi rfl gS (by decide +kernel) (pa_cons (pv 0) (pa_cons (pe_bltn (v := .ty "int") rfl gI (by decide +kernel) rfl) pa_nil))) (pe_one (pe_not (pe_callB call_isi rfl gS (by decide +kernel) (pa_cons (pv 0) (pa_cons (pe_bltn (v := .ty "bool") rfl gB (by decide +kernel) rfl) pa_nil)))))))), ?_⟩
    refine ⟨_, rfl, _, _, _, _, _, rfl, .ty _, hx.ty, hx.one "int", _, rfl, ?_⟩
    have e := int_kind hx
    cases hi : isB n "int" with
    | false =>
      rw [hi] at e
      refine iteF ?_
      rw [Bool.false_and] at e
      rw [e]
      exact k
    | true =>
      rw [hi, Bool.true_and] at e
      refine iteT ⟨_, rfl, _, _, _, _, _, rfl, .ty _, hx.ty, hx.one "bool", _, rfl, ?_⟩
      rw [e]
      exact k
theorem scIsNum : FnScope ["thing"] ["thing"] (defScope sIsNum) := ⟨rfl, rfl, rfl, by decide +kernel, rfl, by decide +kernel, by decide +kernel⟩
theorem ok_isNum {f fI : Addr} {fd fdI : FuncData} (F : FnP K "is_number" sIsNum f fd) (FI : FnP K "is_integer" sIsInt fI fdI) (gI : mg "int" = none) (gB : mg "bool" = none) (gS : mg "isinstance" = none) (gF : mg "is_integer" = some (.ref fI)) : FnOk P w K mg base CX0 2 f fd ["thing"] spIsNum := by
  have G1 : FnOk P w K mg base CX0 1 fI fdI ["thing"] spIsInt := ok_isInt FI gI gB gS
  have b1 : Binds K fdI ["thing"] [] := FI.bindsN fun _ _ _ _ _ _ us hl => match us, hl with | [_], _ => rfl
  refine F.ok scIsNum (fun vs H Q E h => ?_) (fun cdv A outer s H vs Q E hr h => ?_)
  · obtain ⟨x, n, rfl, _⟩ := h
    rfl
  · obtain ⟨x, n, rfl, hx, k⟩ := h
    refine ⟨_, PSs.nox (pss_one (ps_ret (pe_and (pe_call G1 hr rfl gF FI.kp b1 .nil pass0 (pa_cons (pv 0) pa_nil)) (pe_one (pe_cmpR op_ge (pv 0) pe_int (nomark _)))))), ?_⟩
    refine ⟨_, rfl, x, n, rfl, hx, _, rfl, ?_⟩
    cases hx with
    | int i => exact iteT ⟨_, rfl, _, _, rfl, rfl, k⟩
    | _ => exact iteF k
end
end K11

namespace K11
open PySem PySem.Spec PyProof.Rows L2 Tr Sq Dk
/-! ### has_just, is_table, is_letters -/
abbrev sHasJ : Stmt := top 18
abbrev sIsTab : Stmt := top 19
abbrev sIsLet : Stmt := top 32
/-- a thing: a dict of plain things, or no dict at all -/
inductive DX (H : Hp) : V → Option (List (Key × V)) → Prop
  | dic {a : Addr} {kvs : List (Key × V)} (h : H a = some (.dK kvs)) (hi : ∀ p ∈ kvs, ∃ n, Pl H p.2 n) (hn : ∀ p ∈ kvs, p.2 ≠ .ref a) (hl : kvs.length ≤ 1000) : DX H (.ref a) (some kvs)
  | not {x : V} {n : String} (h : Pl H x n) (hn : isB n "dict" = false) : DX H x none
theorem DX.ex {H H' : Hp} {x : V} {o : Option (List (Key × V))} (h : DX H x o) (e : Evl.Ex H H') : DX H' x o := by
  cases h with
  | dic h hi hn hl => exact .dic (e _ _ h) (fun p hp => (hi p hp).imp fun n z => z.ext e) hn hl
  | not h hn => exact .not (h.ext e) hn
theorem Pl.updA {H : Hp} {x : V} {n : String} {a : Addr} {o : HO} (h : Pl H x n) (hn : x ≠ .ref a) : Pl (upd H a o) x n := by
  have key : ∀ {b : Addr} {u : HO}, x = .ref b → H b = some u → upd H a o b = some u := fun hx e => by rw [upd_ne (fun z => hn (by rw [hx, z]))]; exact e
  cases h with
  | non => exact .non
  | bl b => exact .bl b
  | int i => exact .int i
  | str z => exact .str z
  | lst h => exact .lst (key rfl h)
  | tup h => exact .tup (key rfl h)
  | frt h => exact .frt (key rfl h)
  | dic h => exact .dic (key rfl h)
  | dct h => exact .dct (key rfl h)
def hasJ (hs : List Str) : Option (List (Key × V)) → Bool
  | none => false
  | some kvs => decide (kvs.length = hs.length) && hs.all fun h => (valV kvs (Sum.inr h)).isSome
def isTab (hs : List Str) (o : Option (List (Key × V))) : Bool := hasJ hs o && (match o with
  | none => false
  | some kvs => kvs.all fun p => numV p.2)
def posV : V → Bool
  | .int i => decide (0 < i)
  | _ => false
def isLet (hs : List Str) (o : Option (List (Key × V))) : Bool := isTab hs o && (match o with
  | none => false
  | some kvs => kvs.any fun p => posV p.2)
def spHasJ : Sp := fun vs H Q _ => ∃ (x : V) (o : Option (List (Key × V))) (l : Addr) (hs : List Str), vs = [x, .ref l] ∧ DX H x o ∧ H l = some (.lst (hs.map V.str)) ∧ hs.length ≤ 1000 ∧ ∀ H', Evl.Ex H H' → Q (.bl (hasJ hs o)) H'
def spIsTab : Sp := fun vs H Q _ => ∃ (x : V) (o : Option (List (Key × V))) (l : Addr) (hs : List Str), vs = [x, .ref l] ∧ DX H x o ∧ H l = some (.lst (hs.map V.str)) ∧ hs.length ≤ 1000 ∧ ∀ H', Evl.Ex H H' → Q (.bl (isTab hs o)) H'
def spIsLet (C : Addr) : Sp := fun vs H Q _ => ∃ (v : Addr) (x : V) (o : Option (List (Key × V))) (hs : List Str) (ps : Prs) (m : VilD), vs = [.ref v, x] ∧ Vil H C v hs ps m ∧ DX H x o ∧ hs.length ≤ 1000 ∧ ∀ H', Evl.Ex H H' → Q (.bl (isLet hs o)) H'
/-- walking the values within a lock: the same behind -/
theorem unlock {H H' : Hp} {d : Addr} {u : HO} {od : Obj} (hd : H d = some u) (x : Evl.Ex (upd H d (.frz od u)) H') : Evl.Ex H (upd H' d u) := fun b o e => by
  by_cases h : b = d
  · rw [h, hd] at e
    rw [h, upd_same]
    exact e
  · rw [upd_ne h]
    exact x _ _ (by rw [upd_ne h]; exact e)
section
variable {P : Program} {w : World} {K : PySem.W.Frag} {mg : Str → Option Value} {base : Heap}
theorem scHasJ : FnScope ["thing", "keys", "key"] ["thing", "keys"] (defScope sHasJ) := ⟨rfl, rfl, rfl, by decide +kernel, rfl, by decide +kernel, by decide +kernel⟩
theorem ok_hasJ {f : Addr} {fd : FuncData} (F : FnP K "has_just" sHasJ f fd) (gI : mg "isinstance" = none) (gD : mg "dict" = none) (gL : mg "len" = none) (gA : mg "all" = none) : FnOk P w K mg base CX0 1 f fd ["thing", "keys"] spHasJ := by
  refine F.ok scHasJ (fun vs H Q E h => ?_) (fun cdv A outer s H vs Q E hr h => ?_)
  · obtain ⟨x, o, l, hs, rfl, _⟩ := h
    rfl
  · obtain ⟨x, o, l, hs, rfl, hx, hl, h1k, k⟩ := h
    refine' ⟨_, PSs.nox (pss_cons (ps_if (PW.pt (pw_or (pt_not (pt_val (pe_callB call_isi rfl gI (by decide +kernel) (pa_cons (pv 0) (pa_cons (pe_bltn (v := .ty "dict") rfl gD (by decide +kernel) rfl) pa_nil)))))
        (pw_or1 (pt_cmpR op_ne (pe_callB call_lenD (by rfl) gL PySem.boot_len (pa_cons (pv 0) pa_nil)) (pe_callB call_len_seq (by rfl) gL PySem.boot_len (pa_cons (pv 1) pa_nil)) (nomark _))))) (pss_one (ps_ret pe_bl)) pss_nil)
      (pss_one (ps_ret (pe_callB (cr_all rfl) (by rfl) gA (by decide +kernel) (pa_cons ?lc pa_nil))))), ?rd⟩
    case lc =>
      refine pe_lc (own := [("key", 2)]) (g := gName 2) (tt := tYes) (te := tDIn (tVar 2) (tVar 0)) rfl scHasJ.nd (pi_list (pv 1))
        (blkOk_by (own := [("key", 2)]) (N := ["thing", "keys", "key"]) (sc := defScope sHasJ) (by decide +kernel)) (fun _ _ _ _ _ => pg_name (i := 2) scHasJ.nd rfl (.inl rfl)) (fun _ _ _ _ _ => pts_nil) ?_
      intro _ _ _ _ _
      exact pe_cmp (pc_din (hu_of hr) (pv 2) (pv 0)) rfl
    cases hx with
    | @not x n hp hn =>
      refine ⟨_, rfl, _, _, _, _, _, rfl, .ty _, hp.ty, hp.one "dict", _, rfl, ?_⟩
      rw [hn]
      exact iteT (iteT (k _ (fun _ _ e => e)))
    | @dic a kvs ha hi hna hkl =>
      refine ⟨_, rfl, _, _, _, _, _, rfl, .ty _, (Pl.dic ha : Pl H (.ref a) "dict").ty, (Pl.dic ha : Pl H (.ref a) "dict").one "dict", _, rfl, ?_⟩
      refine iteF ⟨_, rfl, a, kvs, rfl, ha, _, rfl, l, _, rfl, .inl (SqL.of hl), rfl, _, rfl, ?_⟩
      have e1 : (!decide (L2.V.int (kvs.length : Nat) = L2.V.int (((hs.map V.str).length : Nat) : Int))) = !decide (kvs.length = hs.length) := by
        rw [List.length_map]
        congr 1
        rw [Bool.eq_iff_iff]
        simp
        omega
      rw [e1]
      cases hlen : decide (kvs.length = hs.length) with
      | false =>
        have this : Q (.bl (decide (kvs.length = hs.length) && hs.all fun h => (valV kvs (Sum.inr h)).isSome)) H := k H (fun _ _ e => e)
        rw [hlen] at this
        exact iteT this
      | true =>
        refine iteF ⟨_, rfl, l, rfl, ⟨_, SqL.of hl⟩, fun D hD => ?_⟩
        refine lc_it (walk_list (xs := hs.map V.str)) (fun i H' => Evl.Ex H H' ∧ H' D = some (.lst (((hs.take i).map fun h => (valV kvs (Sum.inr h)).isSome).map V.bl))) ⟨Evl.Ex.new hD, upd_same⟩ (fun i H' _ hp => SqL.of (hp.1 _ _ hl)) (fun i x H1 H2 hi2 hp hy => ?_) (fun H1 hp => ?_)
        · obtain ⟨x1, e2⟩ := hp
          obtain ⟨rfl, hx⟩ := hy
          rw [List.length_map] at hi2
          obtain ⟨h, hh⟩ := getD_of hi2
          rw [List.getElem?_map, hh] at hx
          cases hx
          refine ⟨rfl, _, rfl, _, rfl, a, _, rfl, DGet.k (k := Sum.inr h) (x1 _ _ ha), _, e2, ?_, ex_upd x1 hD, ?_⟩
          · rw [List.length_map, List.length_map, List.length_take]
            exact Nat.lt_of_le_of_lt (show min i hs.length ≤ 1000 by omega) (by decide)
          · rw [upd_same, List.take_add_one, hh, List.map_append, List.map_append]
            rfl
        · obtain ⟨x1, e2⟩ := hp
          rw [List.length_map, List.take_length] at e2
          refine ⟨D, _, rfl, SqL.of e2, ?_⟩
          have this : Q (.bl (decide (kvs.length = hs.length) && hs.all fun h => (valV kvs (Sum.inr h)).isSome)) H1 := k _ x1
          rw [hlen, Bool.true_and] at this
          rw [List.all_map]
          exact this
end
end K11

namespace K11
open PySem PySem.Spec PyProof.Rows L2 Tr Sq Dk Exs
section
variable {P : Program} {w : World} {K : PySem.W.Frag} {mg : Str → Option Value} {base : Heap}
theorem scIsTab : FnScope ["thing", "keys", "number"] ["thing", "keys"] (defScope sIsTab) := ⟨rfl, rfl, rfl, by decide +kernel, rfl, by decide +kernel, by decide +kernel⟩
theorem ok_isTab {f fJ fN : Addr} {fd fdJ fdN : FuncData} (F : FnP K "is_table" sIsTab f fd) (GJ : FnOk P w K mg base CX0 1 fJ fdJ ["thing", "keys"] spHasJ) (bJ : L2.Binds K fdJ ["thing", "keys"] []) (kJ : PySem.W.keepIn K (.ref fJ) = true) (gJ : mg "has_just" = some (.ref fJ))
    (GN : FnOk P w K mg base CX0 2 fN fdN ["thing"] spIsNum) (bN : L2.Binds K fdN ["thing"] []) (kN : PySem.W.keepIn K (.ref fN) = true) (gN : mg "is_number" = some (.ref fN)) (gA : mg "all" = none) : FnOk P w K mg base CX0 3 f fd ["thing", "keys"] spIsTab := by
  refine F.ok scIsTab (fun vs H Q E h => ?_) (fun cdv A outer s H vs Q E hr h => ?_)
  · obtain ⟨x, o, l, hs, rfl, _⟩ := h
    rfl
  · obtain ⟨x, o, l, hs, rfl, hx, hl, h1k, k⟩ := h
    refine' ⟨_, PSs.nox (pss_one (ps_ret (pe_and (pe_call GJ (hr.mono (by decide)) rfl gJ kJ bJ .nil pass0 (pa_cons (pv 0) (pa_cons (pv 1) pa_nil))) (pe_one (pe_lock (pe_callB (cr_all rfl) (by rfl) gA (by decide +kernel) (pa_cons ?lc pa_nil))))))), ?rd⟩
    case lc =>
      refine pe_lc (own := [("number", 2)]) (g := gName 2) (tt := tYes) (te := tCall spIsNum [] E0 (tCons (tVar 2) tNil)) rfl scIsTab.nd (pi_values (pv 0))
        (blkOk_by (own := [("number", 2)]) (N := ["thing", "keys", "number"]) (sc := defScope sIsTab) (by decide +kernel)) (fun _ _ _ _ _ => pg_name (i := 2) scIsTab.nd rfl (.inl rfl)) (fun _ _ _ _ _ => pts_nil) ?_
      intro _ _ _ _ _
      exact pe_call GN hr rfl gN kN bN .nil pass0 (pa_cons (pv 2) pa_nil)
    refine ⟨_, rfl, _, rfl, x, o, l, hs, rfl, hx, hl, h1k, fun H1 x1 => ⟨_, rfl, ?_⟩⟩
    cases hj : hasJ hs o with
    | false =>
      have := k H1 x1
      unfold isTab at this
      rw [hj] at this
      exact iteF this
    | true =>
      refine iteT ?_
      cases hx with
      | not hp hn => cases hj
      | @dic a kvs ha hi hna hkl =>
        have k : ∀ H', Evl.Ex H H' → Q (.bl (hasJ hs (some kvs) && kvs.all fun p => numV p.2)) H' := k
        rw [hj, Bool.true_and] at k
        have ha1 := x1 _ _ ha
        refine ⟨a, _, ha1, trivial, fun od => ?_⟩
        refine ⟨_, rfl, a, od, kvs, rfl, upd_same, fun D hD => ?_⟩
        have haD : a ≠ D := ne_of_none upd_same hD
        refine lc_it (walk_values (kvs := kvs)) (fun i H' => Evl.Ex (upd H1 a (.frz od (.dK kvs))) H' ∧ H' D = some (.lst (((kvs.take i).map fun p => numV p.2).map V.bl))) ⟨Evl.Ex.new hD, upd_same⟩ (fun i H' _ hp => hp.1 _ _ upd_same) (fun i x H2 H3 hi2 hp hy => ?_) (fun H2 hp => ?_)
        · obtain ⟨x2, e2⟩ := hp
          obtain ⟨rfl, kk, hx⟩ := hy
          have hm := List.mem_of_getElem? hx
          obtain ⟨n, hn⟩ := hi _ hm
          have hn3 : Pl H3 x n := ((hn.ext x1).updA (hna _ hm)).ext x2
          refine ⟨rfl, _, rfl, x, n, rfl, hn3, _, e2, ?_, ex_upd x2 hD, ?_⟩
          · rw [List.length_map, List.length_map, List.length_take]
            exact Nat.lt_of_le_of_lt (show min i kvs.length ≤ 1000 by omega) (by decide)
          · rw [upd_same, List.take_add_one, hx, List.map_append, List.map_append]
            rfl
        · obtain ⟨x2, e2⟩ := hp
          rw [List.take_length] at e2
          refine ⟨D, _, rfl, SqL.of e2, x2 _ _ upd_same, ?_⟩
          have := k _ (x1.trans (unlock ha1 x2))
          rw [List.all_map]
          exact this
theorem scIsLet : FnScope ["village", "thing", "number"] ["village", "thing"] (defScope sIsLet) := ⟨rfl, rfl, rfl, by decide +kernel, rfl, by decide +kernel, by decide +kernel⟩
theorem ok_isLet {C f fT : Addr} {fd fdT : FuncData} (F : FnP K "is_letters" sIsLet f fd) (c : VC P w K mg base C) (GT : FnOk P w K mg base CX0 3 fT fdT ["thing", "keys"] spIsTab) (bT : L2.Binds K fdT ["thing", "keys"] []) (kT : PySem.W.keepIn K (.ref fT) = true) (gT : mg "is_table" = some (.ref fT)) (gY : mg "any" = none) :
    FnOk P w K mg base CX0 4 f fd ["village", "thing"] (spIsLet C) := by
  obtain ⟨fH, fdH, mH, GH, bH⟩ := c.hs
  refine F.ok scIsLet (fun vs H Q E h => ?_) (fun cdv A outer s H vs Q E hr h => ?_)
  · obtain ⟨v, x, o, hs, ps, m, rfl, _⟩ := h
    rfl
  · obtain ⟨v, x, o, hs, ps, m, rfl, Vh, hx, h1k, k⟩ := h
    refine' ⟨_, PSs.nox (pss_one (ps_ret (pe_and (pe_call GT hr rfl gT kT bT .nil pass0 (pa_cons (pv 1) (pa_cons (pe_meth0 (pv 0) c.cl mH GH (hr.mono (by decide)) bH .nil pass0) pa_nil))) (pe_one (pe_lock (pe_callB (cr_any rfl) (by rfl) gY (by decide +kernel) (pa_cons ?lc pa_nil))))))), ?rd⟩
    case lc =>
      refine pe_lc (own := [("number", 2)]) (g := gName 2) (tt := tYes) (te := tOp (rI0 fun i j => .bl (decide (j < i))) (tVar 2) (tC (.int 0))) rfl scIsLet.nd (pi_values (pv 1))
        (blkOk_by (own := [("number", 2)]) (N := ["village", "thing", "number"]) (sc := defScope sIsLet) (by decide +kernel)) (fun _ _ _ _ _ => pg_name (i := 2) scIsLet.nd rfl (.inl rfl)) (fun _ _ _ _ _ => pts_nil) ?_
      intro _ _ _ _ _
      exact pe_cmpR op_gt (pv 2) pe_int (nomark _)
    refine ⟨_, rfl, _, rfl, v, m.dx, _, rfl, Vh.at_, rfl, v, C, hs, ps, m, rfl, c.cl, c.n1, Vh, fun l hl => ?_⟩
    refine ⟨x, o, l, hs, rfl, hx.ex (Evl.Ex.new hl), upd_same, h1k, fun H1 x1' => ⟨_, rfl, ?_⟩⟩
    have x1 : Evl.Ex H H1 := (Evl.Ex.new hl).trans x1'
    cases hj : isTab hs o with
    | false =>
      have := k H1 x1
      unfold isLet at this
      rw [hj] at this
      exact iteF this
    | true =>
      refine iteT ?_
      cases hx with
      | not hp hn => cases hj
      | @dic a kvs ha hi hna hkl =>
        have k : ∀ H', Evl.Ex H H' → Q (.bl (isTab hs (some kvs) && kvs.any fun p => posV p.2)) H' := k
        rw [hj, Bool.true_and] at k
        have ha1 := x1 _ _ ha
        refine ⟨a, _, ha1, trivial, fun od => ?_⟩
        refine ⟨_, rfl, a, od, kvs, rfl, upd_same, fun D hD => ?_⟩
        refine lc_it (walk_values (kvs := kvs)) (fun i H' => Evl.Ex (upd H1 a (.frz od (.dK kvs))) H' ∧ H' D = some (.lst (((kvs.take i).map fun p => posV p.2).map V.bl))) ⟨Evl.Ex.new hD, upd_same⟩ (fun i H' _ hp => hp.1 _ _ upd_same) (fun i x H2 H3 hi2 hp hy => ?_) (fun H2 hp => ?_)
        · obtain ⟨x2, e2⟩ := hp
          obtain ⟨rfl, kk, hx⟩ := hy
          have hnum : numV x = true := by
            have h9 : (hasJ hs (some kvs) && kvs.all fun p => numV p.2) = true := hj
            rw [Bool.and_eq_true] at h9
            exact List.all_eq_true.mp h9.2 _ (List.mem_of_getElem? hx)
          obtain ⟨j, rfl⟩ : ∃ j, x = .int j := by
            cases x with
            | int j => exact ⟨j, rfl⟩
            | _ => cases hnum
          refine ⟨rfl, _, rfl, _, _, rfl, rfl, _, e2, ?_, ex_upd x2 hD, ?_⟩
          · rw [List.length_map, List.length_map, List.length_take]
            exact Nat.lt_of_le_of_lt (show min i kvs.length ≤ 1000 by omega) (by decide)
          · rw [upd_same, List.take_add_one, hx, List.map_append, List.map_append]
            rfl
        · obtain ⟨x2, e2⟩ := hp
          rw [List.take_length] at e2
          refine ⟨D, _, rfl, SqL.of e2, x2 _ _ upd_same, ?_⟩
          have := k _ (x1.trans (unlock ha1 x2))
          rw [List.any_map]
          exact this
end
end K11

/-! max(a, b), min(a, b) of two texts. Law-independent. -/
namespace Mm
open PySem PySem.Spec PyProof.Rows L2
section
variable {P : Program} {w : World} {A : Around} {E : Value → Shared → Prop} {s : Shared} {x y : Str} {t u : Tok}
/-- the text at a place of a pair -/
def txt (x y : Str) : Nat → Str
  | 0 => x
  | _ => y
theorem at_txt {v : Value} {i : Nat} (h : (#[Value.str x t, Value.str y u] : Array Value)[i]? = some v) : ∃ k, v = .str (txt x y i) k := by
  match i, h with
  | 0, h => exact ⟨t, (Option.some.inj h).symm⟩
  | 1, h => exact ⟨u, (Option.some.inj h).symm⟩
  | i + 2, h => simp at h
theorem cmp_gtT : CmpOf P w A .Gt (fun i v => (#[Value.str x t, Value.str y u] : Array Value)[i]? = some v) (fun i j => Srs.ltT (txt x y j) (txt x y i)) := fun i j a b z Q R ha hb h => by
  obtain ⟨k1, rfl⟩ := at_txt ha
  obtain ⟨k2, rfl⟩ := at_txt hb
  exact PySem.P.gt_str h
theorem cmp_ltT : CmpOf P w A .Lt (fun i v => (#[Value.str x t, Value.str y u] : Array Value)[i]? = some v) (fun i j => Srs.ltT (txt x y i) (txt x y j)) := fun i j a b z Q R ha hb h => by
  obtain ⟨k1, rfl⟩ := at_txt ha
  obtain ⟨k2, rfl⟩ := at_txt hb
  exact PyProof.Rows.lt_str h
theorem max_two {Q : Value → Shared → Prop} (hh : A.handled = none) (h : ∀ h' tk, (∀ c o, s.heap.get? c = some o → h'.get? c = some o) → Q (if Srs.ltT x y then .str y u else .str x t) { s with heap := h', toks := tk }) :
    wpAny (model P w) A (call (.builtin "max") [.str x t, .str y u]) Q E s := by
  have tup : (s.heap.push { cls := .type "tuple", data := .seq #[.str x t, .str y u] }).IsTuple s.heap.objs.size #[.str x t, .str y u] := ⟨_, Heap.get?_push_size _ rfl, rfl, 0, rfl⟩
  have big : (s.heap.push { cls := .type "tuple", data := .seq #[.str x t, .str y u] }).objs.size = s.heap.objs.size + 1 := Heap.size_push ..
  refine call_max_two (wpAny_pyIter_tuple tup ⟨_, [_, s.heap.objs.size], [_], _, _, _, _, rfl, Walks.tuple (A := A.in1) hh _ s.heap.objs.size (by rw [big]; exact Nat.ne_of_lt (Nat.lt_succ_self _)) #[.str x t, .str y u], ⟨⟨_, Heap.get?_push_size _ rfl, rfl, rfl⟩, tup.push _⟩, fun c mc => ?_, by simp, cmp_gtT, fun v h' tk best hk => ?_⟩)
  · show c < ((s.heap.push _).push _).objs.size
    rw [Heap.size_push, big]
    simp only [List.mem_cons, List.not_mem_nil, or_false] at mc
    rcases mc with m | m <;> rw [m]
    · rw [big]; exact Nat.lt_succ_self _
    · exact Nat.lt_succ_of_lt (Nat.lt_succ_self _)
  · have old := h h' tk fun c o e => by
      refine hk c o (fun m => ?_) (Heap.get?_push_of_some _ (Heap.get?_push_of_some _ e))
      have lt := Heap.lt_size e
      rw [List.mem_singleton.mp m, big] at lt
      exact absurd lt (Nat.not_lt.mpr (Nat.le_succ _))
    have which : v = if Srs.ltT x y then Value.str y u else Value.str x t := by
      cases c : Srs.ltT x y <;> simp [argBest, txt, c] at best <;> simp [best]
    rw [which]
    exact old
theorem min_two {Q : Value → Shared → Prop} (hh : A.handled = none) (h : ∀ h' tk, (∀ c o, s.heap.get? c = some o → h'.get? c = some o) → Q (if Srs.ltT y x then .str y u else .str x t) { s with heap := h', toks := tk }) :
    wpAny (model P w) A (call (.builtin "min") [.str x t, .str y u]) Q E s := by
  have tup : (s.heap.push { cls := .type "tuple", data := .seq #[.str x t, .str y u] }).IsTuple s.heap.objs.size #[.str x t, .str y u] := ⟨_, Heap.get?_push_size _ rfl, rfl, 0, rfl⟩
  have big : (s.heap.push { cls := .type "tuple", data := .seq #[.str x t, .str y u] }).objs.size = s.heap.objs.size + 1 := Heap.size_push ..
  refine call_min_two (wpAny_pyIter_tuple tup ⟨_, [_, s.heap.objs.size], [_], _, _, _, _, rfl, Walks.tuple (A := A.in1) hh _ s.heap.objs.size (by rw [big]; exact Nat.ne_of_lt (Nat.lt_succ_self _)) #[.str x t, .str y u], ⟨⟨_, Heap.get?_push_size _ rfl, rfl, rfl⟩, tup.push _⟩, fun c mc => ?_, by simp, cmp_ltT, fun v h' tk best hk => ?_⟩)
  · show c < ((s.heap.push _).push _).objs.size
    rw [Heap.size_push, big]
    simp only [List.mem_cons, List.not_mem_nil, or_false] at mc
    rcases mc with m | m <;> rw [m]
    · rw [big]; exact Nat.lt_succ_self _
    · exact Nat.lt_succ_of_lt (Nat.lt_succ_self _)
  · have old := h h' tk fun c o e => by
      refine hk c o (fun m => ?_) (Heap.get?_push_of_some _ (Heap.get?_push_of_some _ e))
      have lt := Heap.lt_size e
      rw [List.mem_singleton.mp m, big] at lt
      exact absurd lt (Nat.not_lt.mpr (Nat.le_succ _))
    have which : v = if Srs.ltT y x then Value.str y u else Value.str x t := by
      cases c : Srs.ltT y x <;> simp [argBest, txt, c] at best <;> simp [best]
    rw [which]
    exact old
end
section
variable {X : Cx}
theorem call_maxS (calm : X.calm = true) : CallR X (.builtin "max") (fun xs H Q => ∃ x y : Str, xs = [.str x, .str y] ∧ Q (.str (if Srs.ltT x y then y else x)) H) := by
  intro pins s σ H xs us Q I r h
  obtain ⟨x, y, rfl, q⟩ := h
  obtain ⟨u, w', rfl, ⟨t, rfl⟩, ⟨t', rfl⟩⟩ := vals2 r
  refine max_two (I.ok.hd calm) fun h' tk k => ⟨_, H, I.kept k, ?_, q⟩
  cases Srs.ltT x y <;> exact ⟨_, rfl⟩
theorem call_minS (calm : X.calm = true) : CallR X (.builtin "min") (fun xs H Q => ∃ x y : Str, xs = [.str x, .str y] ∧ Q (.str (if Srs.ltT y x then y else x)) H) := by
  intro pins s σ H xs us Q I r h
  obtain ⟨x, y, rfl, q⟩ := h
  obtain ⟨u, w', rfl, ⟨t, rfl⟩, ⟨t', rfl⟩⟩ := vals2 r
  refine min_two (I.ok.hd calm) fun h' tk k => ⟨_, H, I.kept k, ?_, q⟩
  cases Srs.ltT y x <;> exact ⟨_, rfl⟩
end
end Mm

/-! Dicts whose keys are tuples: values, list of items, made of pairs, emptied; either of two readings. Law-independent. -/
namespace Dt
open PySem PySem.Spec PyProof.Rows L2 Dk
section
variable {X : Cx}
/-! ### either of two readings -/
theorem pi_or {tg e : Expr} {u v : TI} (a : PI X tg e u) (b : PI X tg e v) : PI X tg e (fun σ H R => u σ H R ∨ v σ H R) :=
  ⟨fun pins s σ H R I h => h.elim (fun z => a.run pins s σ H R I z) (fun z => b.run pins s σ H R I z)⟩
theorem pe_or {e : Expr} {u v : TE} (a : PE X e u) (b : PE X e v) : PE X e (fun σ H Q => u σ H Q ∨ v σ H Q) :=
  ⟨fun pins s σ H Q I h => h.elim (fun z => a.run pins s σ H Q I z) (fun z => b.run pins s σ H Q I z)⟩
theorem cr_or {f : Value} {u v : List V → Hp → VK → Prop} (a : CallR X f u) (b : CallR X f v) : CallR X f (fun xs H Q => u xs H Q ∨ v xs H Q) :=
  fun pins s σ H xs us Q I r h => h.elim (fun z => a pins s σ H xs us Q I r z) (fun z => b pins s σ H xs us Q I r z)
theorem mt_or {f : String} {u v : V → List V → Hp → VK → Prop} (a : MtR X f u) (b : MtR X f v) : MtR X f (fun x xs H Q => u x xs H Q ∨ v x xs H Q) :=
  fun pins s σ H x xs w us Q I rx r h => h.elim (fun z => a pins s σ H x xs w us Q I rx r z) (fun z => b pins s σ H x xs w us Q I rx r z)
/-! ### the entries -/
theorem entsT {P : Program} {w : World} {H : Hp} {h : Heap} {d : Addr} {kvs : List (List Key × V)} (ok : ObjOk P w H h d (.dT kvs)) : (d == sysModules) = false ∧ kvs.length ≤ sizeLine ∧ ∃ (es : Array DictEntry) (ep : Nat), h.DictRaw d es ep ∧ es.size = kvs.length ∧
    ∀ i k v, kvs[i]? = some (k, v) → ∃ (hi : i < es.size) (q : Addr), es[i].key = .ref q ∧ H q = some (.tup (k.map kV)) ∧ RelV v es[i].val := by
  obtain ⟨z, hs, xs, pr, o, es, ep, ho, hx, hdt, he, _⟩ := ok
  have l1 : es.size = xs.length := size_of_entries he
  have l2 : kvs.length = xs.length := Paired.length pr
  refine ⟨hs, z, es, ep, ⟨o, ho, hx, hdt⟩, by omega, fun i k v e => ?_⟩
  obtain ⟨b, hb, e1, e2, e3⟩ := paired_get pr e
  have q := entry_at he i
  rw [hb] at q
  obtain ⟨hi, q⟩ := Array.getElem?_eq_some_iff.mp q
  exact ⟨hi, b.2.1, by rw [q]; rfl, e2, by rw [q]; exact e3⟩
theorem frzT {pins : List (Addr × Obj)} {σ : L2.St} {H : Hp} {s : Shared} {d : Addr} {o : Obj} {kvs : List (List Key × V)} (I : Inv X pins σ H s) (h : H d = some (.frz o (.dT kvs))) : (d == sysModules) = false ∧ kvs.length ≤ sizeLine ∧ ∃ (es : Array DictEntry) (ep : Nat), o.data = .dict es ep ∧ s.heap.DictRaw d es ep ∧ es.size = kvs.length ∧
    ∀ i k v, kvs[i]? = some (k, v) → ∃ (hi : i < es.size) (q : Addr), es[i].key = .ref q ∧ H q = some (.tup (k.map kV)) ∧ RelV v es[i].val := by
  obtain ⟨hd, ok⟩ := (show ObjOk X.prog X.w H s.heap d (.frz o (.dT kvs)) from I.hok d _ h)
  obtain ⟨h1, h2, es, ep, ⟨o', ho, hx, hdt⟩, h4, h5⟩ := entsT ok
  rw [hd] at ho
  cases ho
  exact ⟨h1, h2, es, ep, hdt, ⟨_, hd, hx, hdt⟩, h4, h5⟩
/-! ### for v in d.values() -/
def ItvT (d : Addr) (o : Obj) (kvs : List (List Key × V)) : It :=
  ⟨fun i H => H d = some (.frz o (.dT kvs)) ∧ i < kvs.length, fun i H x H' => H' = H ∧ ∃ k, kvs[i]? = some (k, x), fun i H => H d = some (.frz o (.dT kvs)) ∧ kvs.length ≤ i⟩
theorem turnVT {P : Program} {w : World} {K : PySem.W.Frag} {tg : Expr} {d : Addr} {o : Obj} {kvs : List (List Key × V)} {es : Array DictEntry} {ep : Nat} (it : Addr) (hod : o.data = .dict es ep) : Turn P w K tg (ItvT d o kvs) [it] it (fun i h => h.IsValIter it d i kvs.length ep) where
  mem := List.mem_singleton.mpr rfl
  obj := fun i h st b hb => by
    obtain rfl := List.mem_singleton.mp hb
    obtain ⟨oi, e, _, dd⟩ := st
    exact ⟨oi, e, fun v z => by rw [dd] at z; cases z⟩
  keep := fun i h h' st k => st.at fun oi e => k it (List.mem_singleton.mpr rfl) oi e
  item := by
    rintro X rfl rfl rfl hc i pins s σ H E I hf st ⟨hd, hi⟩
    obtain ⟨f0, f1, f2, f3, f4, f5⟩ := hf it (List.mem_singleton.mpr rfl)
    obtain ⟨hs, _, es', ep', hdt, hm, hsz, ent⟩ := frzT I hd
    obtain ⟨rfl, rfl⟩ := dict_ep hod hdt
    obtain ⟨⟨k, v⟩, hkv⟩ : ∃ p, kvs[i]? = some p := ⟨kvs[i], List.getElem?_eq_getElem hi⟩
    obtain ⟨hi2, q, _, _, rv⟩ := ent i k v hkv
    rw [← hsz] at st
    refine wpAny_pyNext_values_item_raw st hm hi2 fun h' st' sb => ?_
    obtain ⟨oi, e, c, dd⟩ := id st'
    refine ⟨_, rfl, go_of (s := { s with heap := h' }) e c dd (by decide) ⟨v, H, I.turned (t' := s.toks) (fun b ob hb e => (sb.2 b hb).trans e) f0 f1 f3 f4 f5, rv, ⟨rfl, k, hkv⟩, ?_, fun b hb => (hf b hb).1⟩⟩
    show h'.IsValIter it d (i + 1) kvs.length _
    rw [← hsz]
    exact st'
  done := by
    rintro X rfl rfl rfl hc i pins s σ H E I hf st ⟨hd, hi⟩
    obtain ⟨f0, f1, f2, f3, f4, f5⟩ := hf it (List.mem_singleton.mpr rfl)
    obtain ⟨hs, _, es', ep', hdt, hm, hsz, ent⟩ := frzT I hd
    obtain ⟨rfl, rfl⟩ := dict_ep hod hdt
    rw [← hsz] at st
    exact wpAny_pyNext_values_end_raw (I.ok.hd hc) st hm (by omega) fun h' eb => ⟨rfl, I.turned (t' := s.toks) (fun b ob hb e => eb b ob hb e) f0 f1 f3 f4 f5⟩
  self := fun A i s Q E st h => wpAny_pyIter_valiter st h
def iValsT (td : TE) : TI := fun σ H R => td σ H fun x H1 => ∃ d o kvs, x = .ref d ∧ H1 d = some (.frz o (.dT kvs)) ∧ R (ItvT d o kvs) H1
theorem pi_valuesT {tg e : Expr} {td : TE} {apos cpos : Pos} (he : PE X e td) (hb : attributeBase e "values" X.env (eval e X.env) = eval e X.env := by rfl) (line : (apos.endLine == cpos.line) = true := by rfl) : PI X tg (.Call (.Attribute e "values" apos) [] [] cpos) (iValsT td) := by
  refine ⟨fun pins s σ H R I h => ?_⟩
  refine wpAny_Call_method (T := "dict") (id := "dict.values") hb rfl line F.plainAttrs_dict F.slot_dict_values F.type_dict_values (thn (he.run pins s σ H _ I h) fun u s1 ⟨x, H1, I1, rx, d, o, kvs, ex, hd, q⟩ => ?_)
  subst ex
  obtain rfl : u = Value.ref d := rx
  obtain ⟨hs, _, es, ep, hdt, hm, hsz, ent⟩ := frzT I1 hd
  refine ⟨hm.typeIs, fun b hb => (let ⟨ob, e1, e2, _⟩ := hm; ⟨ob, by cases hb; exact e1, e2.2.1⟩), ?_⟩
  have I2 : Inv X pins σ H1 { s1 with heap := s1.heap.push { cls := .type "dict_values", data := .fields #[.ref d] } } := I1.kept (t' := s1.toks) fun b ob q => Heap.get?_push_of_some _ q
  have fin : wpAny (model X.prog X.w) X.A (pyIter (.ref s1.heap.objs.size)) (PIE X pins σ tg R) X.xe { s1 with heap := s1.heap.push { cls := .type "dict_values", data := .fields #[.ref d] } } := by
    refine wpAny_pyIter_values_raw (d := d) ⟨_, Heap.get?_push_size _ rfl, rfl, rfl⟩ (hm.push _) (pi_one (tk := s1.toks) I2 _ (turnVT _ hdt) ⟨_, Heap.get?_push_size _ rfl, rfl, ?_⟩ q)
    rw [hsz]
    rfl
  show wpAny _ _ (callWith cpos (.builtin "dict.values") [.ref d] [] []) _ X.xe s1
  exact method_meetsIn F.slot_dict_values F.entry_dict_values rfl (PySem.evalArgs_none ⟨rfl, hm.typeIs, F.args_dict_values_1 _, _, meets_dict_values_raw d hs, ⟨es, ep, hm⟩, fin⟩)
theorem walk_valuesT {d : Addr} {o : Obj} {kvs : List (List Key × V)} : Walk (ItvT d o kvs) kvs.length (fun H => H d = some (.frz o (.dT kvs))) (fun i H x H' => H' = H ∧ ∃ k, kvs[i]? = some (k, x)) where
  goes := fun i H hi q => ⟨q, hi⟩
  stops := fun H q => ⟨q, Nat.le_refl _⟩
  yields := fun i H v H' _ q y => y
/-! ### list(d.items()) -/
/-- new tuples of two, at their addresses -/
def putP : Hp → List Addr → List (V × V) → Hp
  | H, a :: as, p :: ps => putP (upd H a (.tup [p.1, p.2])) as ps
  | H, _, _ => H
theorem putP_off {b : Addr} : ∀ (as : List Addr) (ps : List (V × V)) (H : Hp), b ∉ as → putP H as ps b = H b
  | [], _, _, _ => rfl
  | _ :: _, [], _, _ => rfl
  | a :: as, p :: ps, H, h => (putP_off as ps _ (fun z => h (List.mem_cons_of_mem _ z))).trans (upd_ne (fun z => h (z ▸ List.mem_cons_self)))
theorem putP_at : ∀ (as : List Addr) (ps : List (V × V)) (H : Hp), as.length = ps.length → as.Nodup → Paired (fun (t : Addr) (p : V × V) => putP H as ps t = some (.tup [p.1, p.2])) as ps
  | [], [], _, _, _ => .nil
  | [], _ :: _, _, h, _ => by cases h
  | _ :: _, [], _, h, _ => by cases h
  | a :: as, p :: ps, H, h, hn =>
    let hn' := List.nodup_cons.mp hn
    .cons ((putP_off as ps (upd H a (.tup [p.1, p.2])) hn'.1).trans upd_same) (putP_at as ps (upd H a (.tup [p.1, p.2])) (Nat.succ.inj h) hn'.2)
theorem refs_vals : ∀ as : List Addr, Vals (as.map V.ref) (as.map Value.ref)
  | [] => .nil
  | _ :: as => .cons rfl (refs_vals as)
theorem paired_ix {α β : Type} {F : α → β → Prop} : ∀ {xs : List α} {ys : List β}, Paired F xs ys → ∀ {x : α}, x ∈ xs → ∃ (j : Nat) (y : β), xs[j]? = some x ∧ ys[j]? = some y ∧ F x y
  | _, _, .cons h t, x, hx => (List.mem_cons.mp hx).elim (fun e => ⟨0, _, by rw [e]; rfl, rfl, e ▸ h⟩) (fun hx => let ⟨j, y, e1, e2, e3⟩ := paired_ix t hx; ⟨j + 1, y, e1, e2, e3⟩)
/-- the list and its new tuples are tracked -/
theorem dil_laid {pins : List (Addr × Obj)} {σ : L2.St} {H : Hp} {s : Shared} {h' : Heap} {tk : Nat} {es : Array DictEntry} {ps : List (V × V)} {acc : Array Value} {c : Nat} {as : List Addr} {L : Addr} (low : s.heap.objs.size ≤ L) (I : Inv X pins σ H s) (few : as.length ≤ sizeLine) (same : ps.length = as.length) (ent : ∀ (j : Nat) (p : V × V), ps[j]? = some p → ∃ hj : j < es.size, RelV p.1 es[j].key ∧ RelV p.2 es[j].val)
    (kept : ∀ b o, s.heap.get? b = some o → h'.get? b = some o) (hS : h'.get? L = some { cls := .type "list", dict := none, data := .seq acc c, slots := #[] }) (G : PySem.W.DilG es L h' as) (hacc : acc.toList = as.map Value.ref) :
    ∃ H' : Hp, Evl.Ex H H' ∧ H L = none ∧ (∀ t ∈ as, H t = none) ∧ L ∉ as ∧ H' L = some (.lst (as.map V.ref)) ∧ Paired (fun (t : Addr) (p : V × V) => H' t = some (.tup [p.1, p.2])) as ps ∧ Inv X pins σ H' { s with heap := h', toks := tk } := by
  have out : L ∉ as := fun z => Nat.lt_irrefl _ (G.above _ z)
  have nd : as.Nodup := List.Pairwise.imp (fun {a b} (h : a < b) => Nat.ne_of_lt h) G.rise
  have fresh : ∀ t ∈ as, H t = none := fun t ht => I.hok.fresh (Nat.le_trans low (Nat.le_of_lt (G.above t ht)))
  have freshS : H L = none := I.hok.fresh low
  have there := putP_at as ps (upd H L (.lst (as.map V.ref))) same.symm nd
  have off : ∀ b, b ∉ as → b ≠ L → putP (upd H L (.lst (as.map V.ref))) as ps b = H b := fun b h1 h2 => (putP_off as ps _ h1).trans (upd_ne h2)
  have old : ∀ b o, s.heap.get? b = some o → b ∉ as ∧ b ≠ L := fun b o e => ⟨fun z => absurd (Heap.lt_size e) (Nat.not_lt.mpr (Nat.le_trans low (Nat.le_of_lt (G.above b z)))), Nat.ne_of_lt (Nat.lt_of_lt_of_le (Heap.lt_size e) low)⟩
  have stay : Evl.Ex H (putP (upd H L (.lst (as.map V.ref))) as ps) := fun b u e => (off b (fun z => by rw [fresh b z] at e; cases e) (fun z => by rw [z, freshS] at e; cases e)).trans e
  have atS : putP (upd H L (.lst (as.map V.ref))) as ps L = some (.lst (as.map V.ref)) := (putP_off as ps _ out).trans upd_same
  refine ⟨_, stay, freshS, fresh, out, atS, there, I.call' (ch := []) rfl ⟨fun b o q _ _ _ => kept b o q, fun b o q _ _ _ => ⟨o.slots, kept b o q⟩, fun b o q n _ => (off b (old b o q).1 (old b o q).2).trans n, fun b o q _ => ⟨o, kept b o q⟩, fun b xs q => stay b _ q, fun b o u q => stay b _ q, fun b ps q => ⟨#[], by rw [stay b _ q]; simp⟩⟩ (fun b u q => ?_) I.bare fun b z => absurd z (by simp)⟩
  by_cases hb : b ∈ as
  · obtain ⟨j, p, e1, e2, e3⟩ := paired_ix there hb
    obtain rfl := Option.some.inj (q.symm.trans e3)
    obtain ⟨hj, r1, r2⟩ := ent j p e2
    obtain ⟨_, g⟩ := G.pairs j b e1
    exact ⟨by show 2 ≤ sizeLine; decide, [es[j].key, es[j].val], .cons r1 (.cons r2 .nil), ⟨_, g, rfl, _, rfl⟩⟩
  · by_cases hb2 : b = L
    · subst hb2
      obtain rfl := Option.some.inj (q.symm.trans atS)
      exact ⟨by rw [List.length_map]; exact few, acc.toList, c, by rw [hacc]; exact refs_vals as, by rw [Array.toArray_toList]; exact hS⟩
    · rw [off b hb hb2] at q
      exact (I.hok b u q).stay (fun d v _ y => kept d v y) (fun d y => stay d _ y) fun d xs y => stay d _ y
/-- an entry as a tuple of its key and its value -/
def EntT (H : Hp) (t : Addr) (kv : List Key × V) : Prop := ∃ b, H t = some (.tup [.ref b, kv.2]) ∧ H b = some (.tup (kv.1.map kV))
def tListItemsT (te : TE) : TE := fun σ H Q => te σ H fun x H1 => ∃ (d : Addr) (kvs : List (List Key × V)), x = .ref d ∧ H1 d = some (.dT kvs) ∧
  ∀ (H' : Hp) (p : Addr) (ts : List Addr), Evl.Ex H1 H' → H1 p = none → (∀ t ∈ ts, H1 t = none) → p ∉ ts → H' p = some (.lst (ts.map V.ref)) → Paired (EntT H') ts kvs → Q (.ref p) H'
theorem pe_listItemsT {e : Expr} {te : TE} {p apos cpos pos : Pos} (hc : X.calm = true) (he : PE X e te) (hg : Gl X "list") (hm : X.mg "list" = none) (hv : bootBuiltins "list" = some (.type "list")) (hb : attributeBase e "items" X.env (eval e X.env) = eval e X.env := by rfl) (line : (apos.endLine == cpos.line) = true := by rfl)
    (hs : starEach [.Call (.Attribute e "items" apos) [] [] cpos] X.env = (false, eval (.Call (.Attribute e "items" apos) [] [] cpos) X.env) :: starEach [] X.env := by rfl) : PE X (.Call (.Name "list" p) [.Call (.Attribute e "items" apos) [] [] cpos] [] pos) (tListItemsT te) := by
  refine ⟨fun pins s σ H Q I hq => wpAny_Call_Name_kw (ld_blt I hg hm hv (PyProof.Rows.callWith_type1 ?_ hs rfl))⟩
  rw [hs]
  show wpAny _ _ (spliced ((false, eval (.Call (.Attribute e "items" apos) [] [] cpos) X.env) :: backTo pos (starEach [] X.env))) _ _ s
  refine Calls.spliced_cons (wpAny_Call_method (T := "dict") (id := "dict.items") hb rfl line F.plainAttrs_dict F.slot_dict_items F.type_dict_items (thn (he.run pins s σ H _ I hq) fun u s1 ⟨x, H1, I1, rx, d, kvs, ex, hd, q⟩ => ?_))
  subst ex
  obtain rfl : u = Value.ref d := rx
  obtain ⟨hs0, hz, es, ep, raw, size, ent⟩ := entsT (I1.hok d _ hd)
  have I2 : Inv X pins σ H1 { s1 with heap := s1.heap.push { cls := .type "dict_items", data := .fields #[.ref d] } } := I1.kept (t' := s1.toks) fun b ob q => Heap.get?_push_of_some _ q
  refine ⟨raw.typeIs, fun b hb' => (let ⟨ob, e1, e2, _⟩ := raw; ⟨ob, by cases hb'; exact e1, e2.2.1⟩), ?_⟩
  show wpAny _ _ (callWith cpos (.builtin "dict.items") [.ref d] [] []) _ X.xe s1
  refine method_meetsIn F.slot_dict_items F.entry_dict_items rfl (PySem.evalArgs_none ⟨rfl, raw.typeIs, F.args_dict_items_1 _, _, meets_dict_items_raw d hs0, ⟨es, ep, raw⟩, Calls.spliced_nil ?_⟩)
  refine PySem.W.dil_call (I1.ok.hd hc) ⟨_, Heap.get?_push_size _ rfl, rfl, rfl⟩ (raw.push _) (by omega) fun h' tk acc c as kept hS few G hacc => ?_
  -- the keys' addresses
  have keys : ∃ ps : List (V × V), ps.length = as.length ∧ (∀ (j : Nat) (p : V × V), ps[j]? = some p → ∃ hj : j < es.size, RelV p.1 es[j].key ∧ RelV p.2 es[j].val) ∧ ∀ (j : Nat) (p : V × V), ps[j]? = some p → ∃ b kv, kvs[j]? = some kv ∧ p = (.ref b, kv.2) ∧ H1 b = some (.tup (kv.1.map kV)) := by
    have one : ∀ j : Nat, ∃ p : V × V, j < kvs.length → (∃ hj : j < es.size, RelV p.1 es[j].key ∧ RelV p.2 es[j].val) ∧ ∃ b kv, kvs[j]? = some kv ∧ p = (.ref b, kv.2) ∧ H1 b = some (.tup (kv.1.map kV)) := fun j => by
      by_cases lt : j < kvs.length
      · obtain ⟨hj, b, e1, e2, e3⟩ := ent j _ _ (List.getElem?_eq_getElem lt)
        exact ⟨(.ref b, kvs[j].2), fun _ => ⟨⟨hj, e1, e3⟩, b, kvs[j], List.getElem?_eq_getElem lt, rfl, e2⟩⟩
      · exact ⟨(.non, .non), fun z => absurd z lt⟩
    obtain ⟨f, hf⟩ := Classical.axiomOfChoice one
    have get : ∀ (j : Nat) (p : V × V), ((List.range kvs.length).map f)[j]? = some p → j < kvs.length ∧ p = f j := fun j p e => by
      rw [List.getElem?_map] at e
      obtain ⟨i, hi, rfl⟩ := Option.map_eq_some_iff.mp e
      obtain ⟨lt, hi⟩ := List.getElem?_eq_some_iff.mp hi
      rw [List.getElem_range] at hi
      rw [List.length_range] at lt
      exact ⟨lt, by rw [hi]⟩
    refine ⟨(List.range kvs.length).map f, by rw [List.length_map, List.length_range, few, size], fun j p e => ?_, fun j p e => ?_⟩
    · obtain ⟨lt, rfl⟩ := get j p e
      exact (hf j lt).1
    · obtain ⟨lt, rfl⟩ := get j p e
      exact (hf j lt).2
  obtain ⟨ps, l1, l2, l3⟩ := keys
  obtain ⟨H', k1, k2, k3, k4, k5, k6, J⟩ := dil_laid (tk := tk) (Nat.le_refl _) I2 (by omega) l1 l2 kept hS G hacc
  refine ⟨.ref _, H', J, rfl, q H' _ as k1 (I1.hok.fresh (by rw [Heap.size_push]; exact Nat.le_succ _)) k3 k4 k5 ?_⟩
  have mix : ∀ {as : List Addr} {ps : List (V × V)}, Paired (fun (t : Addr) (p : V × V) => H' t = some (.tup [p.1, p.2])) as ps → ∀ {kvs : List (List Key × V)}, kvs.length = as.length → (∀ (j : Nat) (p : V × V), ps[j]? = some p → ∃ b kv, kvs[j]? = some kv ∧ p = (.ref b, kv.2) ∧ H1 b = some (.tup (kv.1.map kV))) → Paired (EntT H') as kvs := by
    intro as ps h
    induction h with
    | nil =>
      intro kvs hl _
      obtain rfl := List.length_eq_zero_iff.mp hl
      exact .nil
    | cons a r ih =>
      intro kvs hl hj
      cases kvs with
      | nil => cases hl
      | cons kv kvs =>
        obtain ⟨b, kv', e1, e2, e3⟩ := hj 0 _ rfl
        obtain rfl : kv = kv' := Option.some.inj e1
        subst e2
        exact .cons ⟨b, a, k1 _ _ e3⟩ (ih (Nat.succ.inj hl) fun j p e => hj (j + 1) p e)
  exact mix k6 (by omega) l3
/-! ### dict(pairs) -/
def mergeT (kvs more : List (List Key × V)) : List (List Key × V) := more.foldl (fun acc kv => putK acc kv.1 kv.2) kvs
theorem ktMerge {H : Hp} : ∀ {more : List (List Key × V)} {rs xs : List (List Key × Addr × Value)} {kvs : List (List Key × V)}, KT H more rs → KT H kvs xs → KT H (mergeT kvs more) (storedAllH xs rs) := by
  intro more rs xs kvs r
  unfold KT at r
  induction r generalizing kvs xs with
  | nil => exact fun q => q
  | @cons p q ps qs h t ih =>
    intro r0
    have e : KT H (putK kvs p.1 p.2) (storedH xs q.1 q.2.1 q.2.2) := by
      have := KT.put r0 p.1 h.2.1 h.2.2
      rw [← h.1]
      exact this
    exact ih e
theorem refs_of : ∀ {ts : List Addr} {us : List Value}, Vals (ts.map V.ref) us → us = ts.map Value.ref
  | [], _, .nil => rfl
  | t :: r, _, .cons h k => by rw [refs_of k]; exact congrArg (· :: _) h
theorem ktOf {H : Hp} : ∀ {kvs : List (List Key × V)} {ps : List (List Key × Addr × Value)}, KT H kvs ps → ∀ x ∈ ps, ∃ kv ∈ kvs, kv.1 = x.1 ∧ H x.2.1 = some (.tup (x.1.map kV))
  | _, _, .nil, x, hx => absurd hx (by simp)
  | _, _, .cons h t, x, hx => (List.mem_cons.mp hx).elim (fun e => ⟨_, List.mem_cons_self, by rw [e]; exact h.1, by rw [e, ← h.1]; exact h.2.1⟩) (fun hx => let ⟨kv, h1, h2⟩ := ktOf t x hx; ⟨kv, List.mem_cons_of_mem _ h1, h2⟩)
theorem entsOf {pins : List (Addr × Obj)} {σ : L2.St} {H : Hp} {s : Shared} (I : Inv X pins σ H s) : ∀ {ts : List Addr} {kvs : List (List Key × V)}, Paired (EntT H) ts kvs → ∃ ps : List (List Key × Addr × Value), KT H kvs ps ∧ ∀ (j : Nat) (t : Addr) (p : List Key × Addr × Value), ts[j]? = some t → ps[j]? = some p → s.heap.IsTuple t #[.ref p.2.1, p.2.2]
  | _, _, .nil => ⟨[], .nil, fun j t p h => by simp at h⟩
  | _, _, @Paired.cons _ _ _ t kv _ _ h k => by
    obtain ⟨b, h1, h2⟩ := h
    obtain ⟨ps, k1, k2⟩ := entsOf I k
    obtain ⟨_, its, rv, o, g1, g2, n, g3⟩ := (show ObjOk X.prog X.w H s.heap t (.tup [.ref b, kv.2]) from I.hok t _ h1)
    obtain ⟨u1, u2, rfl, r1, r2⟩ := Vals.two rv
    obtain rfl : u1 = Value.ref b := r1
    refine ⟨(kv.1, b, u2) :: ps, .cons ⟨rfl, h2, r2⟩ k1, fun j t' p e1 e2 => ?_⟩
    cases j with
    | zero =>
      obtain rfl := Option.some.inj e1
      obtain rfl := Option.some.inj e2
      exact ⟨o, g1, g2, n, g3⟩
    | succ j => exact k2 j t' p e1 e2
theorem mergeT_len : ∀ (more kvs : List (List Key × V)), (mergeT kvs more).length ≤ kvs.length + more.length
  | [], kvs => Nat.le_refl _
  | p :: r, kvs => by
    have h1 := mergeT_len r (putK kvs p.1 p.2)
    have h2 := length_putK kvs p.1 p.2
    show (mergeT (putK kvs p.1 p.2) r).length ≤ _
    rw [List.length_cons]
    omega
theorem call_dictT (calm : X.calm = true) (room : X.A.units + 2 < cLine) : CallR X (.type "dict") (fun xs H Q => ∃ (a : Addr) (ts : List Addr) (kvs : List (List Key × V)), xs = [.ref a] ∧ SqL X.K H a (ts.map V.ref) ∧ Paired (EntT H) ts kvs ∧ ∀ p, H p = none → Q (.ref p) (upd H p (.dT (mergeT [] kvs)))) := by
  intro pins s σ H xs us Q I r q
  obtain ⟨a, ts, kvs, rfl, hq, hp, q⟩ := q
  obtain ⟨u, rfl, rx⟩ := vals1 r
  cases rx
  obtain ⟨its, rv, pl, hz⟩ := I.list hq
  obtain rfl := refs_of rv
  rw [List.length_map] at hz
  have tl : ts.length = kvs.length := Paired.length hp
  obtain ⟨ps, kt, tups⟩ := entsOf I hp
  have pl1 : ps.length = kvs.length := (Paired.length kt).symm
  have items : PairItems s.heap (ts.map Value.ref).toArray (fun j => ts.getD j 0) (ps.map fun p => (Value.ref p.2.1, p.2.2)) := by
    refine ⟨by simp; omega, fun j k v e => ?_⟩
    rw [List.getElem?_map] at e
    obtain ⟨p, hp', ep⟩ := Option.map_eq_some_iff.mp e
    obtain ⟨e1, e2⟩ := Prod.mk.inj ep
    obtain ⟨t, ht⟩ : ∃ t, ts[j]? = some t := ⟨_, List.getElem?_eq_getElem (show j < ts.length by have := (List.getElem?_eq_some_iff.mp hp').1; omega)⟩
    have gd : ts.getD j 0 = t := by simp [List.getD, ht]
    refine ⟨by show _ = some (Value.ref (ts.getD j 0)); rw [gd]; simp [ht], ?_⟩
    show PairAt s.heap (ts.getD j 0) k v
    rw [gd, ← e1, ← e2]
    exact .inl (tups j t p ht hp')
  have P := PairArg.list (prog := X.prog) (w := X.w) a (ts.map Value.ref).toArray (fun j => ts.getD j 0) (ps.map fun p => (Value.ref p.2.1, p.2.2))
  refine call_dict_pairsH (knd := tupleKind (mixKind X.prog X.w)) (ps := ps) P (I.ok.hd calm) (show X.A.units + 2 < cLine from room) ⟨?_, items⟩ ⟨by rw [List.length_map], fun i key v e => ?_⟩ (fun h' hk x hx => ?_) (by rw [List.length_map]; omega) fun h' tk dd kept => ?_
  · obtain ⟨o, n, e1, e2, e3, e4⟩ := pl
    exact ⟨o, n, e1, e2, e3, e4⟩
  · have e : (ps.map fun p => (Value.ref p.2.1, p.2.2))[i]? = some (key, v) := e
    rw [List.getElem?_map] at e
    obtain ⟨p, hp', ep⟩ := Option.map_eq_some_iff.mp e
    obtain ⟨e1, e2⟩ := Prod.mk.inj ep
    exact ⟨p.1, p.2.1, by rw [hp', ← e2], e1.symm⟩
  · obtain ⟨kv, _, _, hb⟩ := ktOf kt x hx
    obtain ⟨o, its, n, h1, h2, h3, h4⟩ := key_of I.hok hb
    exact ⟨o, its, n, hk _ _ (Nat.ne_of_lt (Heap.lt_size h1)) (by simp) h1, h2, h3, h4⟩
  · have low : (s.heap.objs.size == sysModules) = false := beq_eq_false_iff_ne.mpr (Nat.ne_of_gt I.big)
    have few : (mergeT [] kvs).length ≤ sizeLine := Nat.le_trans (mergeT_len kvs []) (by rw [List.length_nil, Nat.zero_add, ← tl]; exact hz)
    obtain ⟨o, es, ep, g1, g2, g3, g4, _, g5⟩ := dd
    refine ⟨.ref s.heap.objs.size, upd H s.heap.objs.size (.dT (mergeT [] kvs)), I.laid (t' := tk) (fun b ob e => kept b ob (by simp) e) (Nat.le_refl _) (show ObjOk X.prog X.w _ _ _ (.dT (mergeT [] kvs)) from ⟨few, low, _, KT.keeps (ktMerge kt .nil) fun c ys ec => ?_, o, es, ep, g1, g2, g3, g4, g5⟩), rfl, q _ (I.hok.fresh (Nat.le_refl _))⟩
    rw [upd_ne (fun z => by rw [z, I.hok.fresh (Nat.le_refl _)] at ec; cases ec)]
    exact ec
/-! ### d.clear() -/
def rClearT : V → List V → Hp → VK → Prop := fun x vs H Q => ∃ (a : Addr) (kvs : List (List Key × V)), x = .ref a ∧ vs = [] ∧ H a = some (.dT kvs) ∧ Q .non (upd H a (.dT []))
theorem mt_clearT : MtR X "dict.clear" rClearT := by
  intro pins s σ H x vs v us Q I rx rv h
  obtain ⟨a, kvs, rfl, rfl, e, q⟩ := h
  obtain rfl : v = Value.ref a := rx
  obtain rfl := rv.zero
  obtain ⟨h0, few, es, ep, raw, size, _⟩ := entsT (I.hok a _ e)
  refine call_meetsIn PySem.F.slot_dict_clear raw.typeIs PySem.F.entry_dict_clear (PySem.F.args_dict_clear_1 _) (meets_dict_clear_raw a) ⟨es, ep, raw, by omega, fun h' raw' same => ?_⟩
  obtain ⟨o, g1, g2, g3⟩ := raw'
  exact ⟨.non, _, d_write (ob := .dT []) (t' := s.toks) I (by rw [e]; exact True.intro) same ⟨o, g1⟩ ⟨Nat.zero_le _, h0, [], .nil, o, _, _, g1, g2, g3, rfl, List.nodup_nil⟩, rfl, q⟩
/-! ### xs.count(pair) -/
def pdPair (q : Str × Str) : PyData := .tuple [.str q.1, .str q.2]
theorem eqv_pair (p q : Str × Str) : PyData.eqv (pdPair p) (pdPair q) = decide (p = q) := by
  obtain ⟨a, b⟩ := p
  obtain ⟨c, d⟩ := q
  rw [Bool.eq_iff_iff]
  simp [pdPair, PyData.eqv, PyData.eqvAll]
theorem count_pair (q : Str × Str) : ∀ qs : List (Str × Str), (qs.map pdPair).countP (fun y => PyData.eqv y (pdPair q)) = qs.count q
  | [] => rfl
  | p :: r => by
    rw [List.map_cons, List.countP_cons, count_pair q r, List.count_cons, eqv_pair]
    by_cases e : p = q <;> simp [e]
theorem plain_pairs : ∀ qs : List (Str × Str), PyData.plainAll (qs.map pdPair) = true
  | [] => rfl
  | p :: r => by
    rw [List.map_cons]
    unfold PyData.plainAll
    rw [plain_pairs r]
    rfl
theorem depth_pairs : ∀ qs : List (Str × Str), PyData.depthAll (qs.map pdPair) ≤ 1
  | [] => by simp [PyData.depthAll]
  | p :: r => by
    have := depth_pairs r
    rw [List.map_cons]
    unfold PyData.depthAll
    have : PyData.depth (pdPair p) ≤ 1 := by simp [pdPair, PyData.depth, PyData.depthAll]
    omega
/-- tuples of two texts -/
def TwoAt (H : Hp) (t : Addr) (q : Str × Str) : Prop := H t = some (.tup [.str q.1, .str q.2])
theorem dp_pairs {K : PySem.W.Frag} {H : Hp} : ∀ {ts : List Addr} {qs : List (Str × Str)}, Paired (TwoAt H) ts qs → DpAll K H (ts.map V.ref) (qs.map pdPair)
  | _, _, .nil => .nil
  | _, _, .cons h k => .cons (.tup (SqT.of h) (.cons (.str _) (.cons (.str _) .nil))) (dp_pairs k)
def rCntP (K : PySem.W.Frag) : V → List V → Hp → VK → Prop := fun x xs H Q => ∃ (p b : Addr) (ts : List Addr) (qs : List (Str × Str)) (z : Str × Str), x = .ref p ∧ xs = [.ref b] ∧ SqL K H p (ts.map V.ref) ∧ Paired (TwoAt H) ts qs ∧ TwoAt H b z ∧ Q (.int (qs.count z : Nat)) H
theorem mt_countP (room : X.A.units + 3 < cLine) : MtR X "list.count" (rCntP X.K) := by
  intro pins s σ H x xs v us Q I rx rxs h
  obtain ⟨p, b, ts, qs, z, rfl, rfl, hq, hp, hb, q⟩ := h
  obtain rfl : v = Value.ref p := rx
  obtain ⟨u, rfl, ru⟩ := rxs.one
  obtain ⟨its, rv, pl, few⟩ := I.list hq
  obtain ⟨as, rs⟩ := Dp.readsAll I _ _ _ (dp_pairs hp) rv
  obtain ⟨bs, rb⟩ := Dp.reads I _ _ _ (.tup (SqT.of hb) (.cons (.str _) (.cons (.str _) .nil)) : Dp X.K H (.ref b) (pdPair z)) ru
  refine PySem.SeqAt.count_list_data pl.isList (by simpa using rs) rb (plain_pairs qs) rfl (by have := depth_pairs qs; omega) ?_
  show EP X pins σ Q (.int (((qs.map pdPair).countP fun y => PyData.eqv y (pdPair z) : Nat) : Int) s.toks) _
  rw [count_pair]
  exact ⟨.int (qs.count z : Nat), H, I.tok _, ⟨s.toks, rfl⟩, q⟩
/-! ### min(pair), max(pair) -/
theorem call_minP (calm : X.calm = true) : CallR X (.builtin "min") (fun xs H Q => ∃ (t : Addr) (x y : Str), xs = [.ref t] ∧ SqT X.K H t [.str x, .str y] ∧ Q (.str (if Srs.ltT y x then y else x)) H) := by
  intro pins s σ H xs us Q I r h
  obtain ⟨t, x, y, rfl, hq, q⟩ := h
  obtain ⟨u, rfl, rx⟩ := vals1 r
  cases rx
  obtain ⟨its, rv, tup, _⟩ := I.tuple hq
  obtain ⟨u1, u2, rfl, ⟨k1, rfl⟩, ⟨k2, rfl⟩⟩ := Vals.two rv
  have tup : s.heap.IsTuple t #[.str x k1, .str y k2] := let ⟨o, h1, h2, n, h3⟩ := tup; ⟨o, h1, h2, n, h3⟩
  have low : t < s.heap.objs.size := let ⟨o, h1, _⟩ := tup; Heap.lt_size h1
  refine call_min_walk (wpAny_pyIter_tuple tup ⟨_, [_, t], [_], _, _, _, _, rfl, Walks.tuple (A := X.A.in1) (I.ok.hd calm) _ t (Nat.ne_of_lt low) #[.str x k1, .str y k2], ⟨⟨_, Heap.get?_push_size _ rfl, rfl, rfl⟩, tup.push _⟩, fun c mc => ?_, by simp, Mm.cmp_ltT, fun v h' tk best hk => ?_⟩)
  · show c < (s.heap.push _).objs.size
    rw [Heap.size_push]
    simp only [List.mem_cons, List.not_mem_nil, or_false] at mc
    rcases mc with m | m <;> rw [m]
    · exact Nat.lt_succ_self _
    · exact Nat.lt_succ_of_lt low
  · have J : Inv X pins σ H { s with heap := h', toks := tk } := I.kept (t' := tk) fun c o e => by
      refine hk c o (fun m => ?_) (Heap.get?_push_of_some _ e)
      have lt := Heap.lt_size e
      rw [List.mem_singleton.mp m] at lt
      exact absurd lt (Nat.lt_irrefl _)
    refine ⟨.str (if Srs.ltT y x then y else x), H, J, ?_, q⟩
    cases c : Srs.ltT y x <;> simp [argBest, Mm.txt, c] at best <;> subst best <;> exact ⟨_, rfl⟩
theorem call_maxP (calm : X.calm = true) : CallR X (.builtin "max") (fun xs H Q => ∃ (t : Addr) (x y : Str), xs = [.ref t] ∧ SqT X.K H t [.str x, .str y] ∧ Q (.str (if Srs.ltT x y then y else x)) H) := by
  intro pins s σ H xs us Q I r h
  obtain ⟨t, x, y, rfl, hq, q⟩ := h
  obtain ⟨u, rfl, rx⟩ := vals1 r
  cases rx
  obtain ⟨its, rv, tup, _⟩ := I.tuple hq
  obtain ⟨u1, u2, rfl, ⟨k1, rfl⟩, ⟨k2, rfl⟩⟩ := Vals.two rv
  have tup : s.heap.IsTuple t #[.str x k1, .str y k2] := let ⟨o, h1, h2, n, h3⟩ := tup; ⟨o, h1, h2, n, h3⟩
  have low : t < s.heap.objs.size := let ⟨o, h1, _⟩ := tup; Heap.lt_size h1
  refine call_max_walk (wpAny_pyIter_tuple tup ⟨_, [_, t], [_], _, _, _, _, rfl, Walks.tuple (A := X.A.in1) (I.ok.hd calm) _ t (Nat.ne_of_lt low) #[.str x k1, .str y k2], ⟨⟨_, Heap.get?_push_size _ rfl, rfl, rfl⟩, tup.push _⟩, fun c mc => ?_, by simp, Mm.cmp_gtT, fun v h' tk best hk => ?_⟩)
  · show c < (s.heap.push _).objs.size
    rw [Heap.size_push]
    simp only [List.mem_cons, List.not_mem_nil, or_false] at mc
    rcases mc with m | m <;> rw [m]
    · exact Nat.lt_succ_self _
    · exact Nat.lt_succ_of_lt low
  · have J : Inv X pins σ H { s with heap := h', toks := tk } := I.kept (t' := tk) fun c o e => by
      refine hk c o (fun m => ?_) (Heap.get?_push_of_some _ e)
      have lt := Heap.lt_size e
      rw [List.mem_singleton.mp m] at lt
      exact absurd lt (Nat.lt_irrefl _)
    refine ⟨.str (if Srs.ltT x y then y else x), H, J, ?_, q⟩
    cases c : Srs.ltT x y <;> simp [argBest, Mm.txt, c] at best <;> subst best <;> exact ⟨_, rfl⟩
end
end Dt

namespace K11
open PySem PySem.Spec PyProof.Rows L2 Tr Sq Dk Dt
/-! ### has_just, is_table of keys that are paths, beside those of houses (11g, 12g); is_ledger -/
abbrev sHasJT : Stmt := top 18
abbrev sIsTabT : Stmt := top 19
abbrev sIsLed : Stmt := top 43
/-- a thing: a dict whose keys are pairs, or no dict at all -/
inductive DXT (H : Hp) : V → Option (List (List Key × V)) → Prop
  | dct {a : Addr} {kvs : List (List Key × V)} (h : H a = some (.dT kvs)) (hi : ∀ p ∈ kvs, ∃ n, Pl H p.2 n) (hn : ∀ p ∈ kvs, p.2 ≠ .ref a) (hl : kvs.length ≤ 1000) : DXT H (.ref a) (some kvs)
  | not {x : V} {n : String} (h : Pl H x n) (hn : isB n "dict" = false) : DXT H x none
theorem DXT.ex {H H' : Hp} {x : V} {o : Option (List (List Key × V))} (h : DXT H x o) (e : Evl.Ex H H') : DXT H' x o := by
  cases h with
  | dct h hi hn hl => exact .dct (e _ _ h) (fun p hp => (hi p hp).imp fun _ z => z.ext e) hn hl
  | not h hn => exact .not (h.ext e) hn
def hasJT (ps : Prs) : Option (List (List Key × V)) → Bool
  | none => false
  | some kvs => decide (kvs.length = ps.length) && ps.all fun q => (valV kvs (kp q)).isSome
def isTabT (ps : Prs) (o : Option (List (List Key × V))) : Bool := hasJT ps o && (match o with
  | none => false
  | some kvs => kvs.all fun p => numV p.2)
def spHasJT : Sp := fun vs H Q _ => ∃ (x : V) (o : Option (List (List Key × V))) (l : Addr) (qs : PrL), vs = [x, .ref l] ∧ DXT H x o ∧ H l = some (.lst (refsL qs)) ∧ PrsAt H qs ∧ qs.length ≤ 1000 ∧ ∀ H', Evl.Ex H H' → Q (.bl (hasJT (qs.map (·.2)) o)) H'
def spIsTabT : Sp := fun vs H Q _ => ∃ (x : V) (o : Option (List (List Key × V))) (l : Addr) (qs : PrL), vs = [x, .ref l] ∧ DXT H x o ∧ H l = some (.lst (refsL qs)) ∧ PrsAt H qs ∧ qs.length ≤ 1000 ∧ ∀ H', Evl.Ex H H' → Q (.bl (isTabT (qs.map (·.2)) o)) H'
def spIsLed (C : Addr) : Sp := fun vs H Q _ => ∃ (v : Addr) (x : V) (o : Option (List (List Key × V))) (hs : List Str) (ps : Prs) (m : VilD), vs = [.ref v, x] ∧ Vil H C v hs ps m ∧ DXT H x o ∧ ps.length ≤ 1000 ∧ ∀ H', Evl.Ex H H' → Q (.bl (isTabT ps o)) H'
theorem unlockT {H H' : Hp} {d : Addr} {u : HO} {od : Obj} (hd : H d = some u) (x : Evl.Ex (upd H d (.frz od u)) H') : Evl.Ex H (upd H' d u) := fun b o e => by
  by_cases hb : b = d
  · rw [hb] at e ⊢
    rw [upd_same, ← e, hd]
  · rw [upd_ne hb]
    exact x b o (by rw [upd_ne hb]; exact e)
section
variable {P : Program} {w : World} {K : PySem.W.Frag} {mg : Str → Option Value} {base : Heap}
theorem scHasJT : FnScope ["thing", "keys", "key"] ["thing", "keys"] (defScope sHasJT) := ⟨rfl, rfl, rfl, by decide +kernel, rfl, by decide +kernel, by decide +kernel⟩
theorem ok_hasJT {f : Addr} {fd : FuncData} (F : FnP K "has_just" sHasJT f fd) (gI : mg "isinstance" = none) (gD : mg "dict" = none) (gL : mg "len" = none) (gA : mg "all" = none) : FnOk P w K mg base CX0 1 f fd ["thing", "keys"] spHasJT := by
  refine F.ok scHasJT (fun vs H Q E h => ?_) (fun cdv A outer s H vs Q E hr h => ?_)
  · obtain ⟨x, o, l, qs, rfl, _⟩ := h
    rfl
  · obtain ⟨x, o, l, qs, rfl, hx, hl, hP, h1k, k⟩ := h
    refine' ⟨_, PSs.nox (pss_cons (ps_if (PW.pt (pw_or (pt_not (pt_val (pe_callB call_isi rfl gI (by decide +kernel) (pa_cons (pv 0) (pa_cons (pe_bltn (v := .ty "dict") rfl gD (by decide +kernel) rfl) pa_nil)))))
        (pw_or1 (pt_cmpR op_ne (pe_callB call_len_dT (by rfl) gL PySem.boot_len (pa_cons (pv 0) pa_nil)) (pe_callB call_len_seq (by rfl) gL PySem.boot_len (pa_cons (pv 1) pa_nil)) (nomark _))))) (pss_one (ps_ret pe_bl)) pss_nil)
      (pss_one (ps_ret (pe_callB (cr_all rfl) (by rfl) gA (by decide +kernel) (pa_cons ?lc pa_nil))))), ?rd⟩
    case lc =>
      refine pe_lc (own := [("key", 2)]) (g := gName 2) (tt := tYes) (te := tDIn (tVar 2) (tVar 0)) rfl scHasJT.nd (pi_list (pv 1))
        (blkOk_by (own := [("key", 2)]) (N := ["thing", "keys", "key"]) (sc := defScope sHasJT) (by decide +kernel)) (fun _ _ _ _ _ => pg_name (i := 2) scHasJT.nd rfl (.inl rfl)) (fun _ _ _ _ _ => pts_nil) ?_
      intro _ _ _ _ _
      exact pe_cmp (pc_din (hu_of hr) (pv 2) (pv 0)) rfl
    cases hx with
    | @not x n hp hn =>
      refine ⟨_, rfl, _, _, _, _, _, rfl, .ty _, hp.ty, hp.one "dict", _, rfl, ?_⟩
      rw [hn]
      exact iteT (iteT (k _ (fun _ _ e => e)))
    | @dct a kvs ha hi hna hkl =>
      have pa : Pl H (.ref a) "dict" := .dct ha
      refine ⟨_, rfl, _, _, _, _, _, rfl, .ty _, pa.ty, pa.one "dict", _, rfl, ?_⟩
      refine iteF ⟨_, rfl, a, kvs, rfl, ha, _, rfl, l, _, rfl, .inl (SqL.of hl), rfl, _, rfl, ?_⟩
      have rl : (refsL qs).length = (qs.map (·.2)).length := by unfold refsL; rw [List.length_map, List.length_map]
      have e1 : (!decide (L2.V.int (kvs.length : Nat) = L2.V.int (((refsL qs).length : Nat) : Int))) = !decide (kvs.length = (qs.map (·.2)).length) := by
        rw [rl]
        congr 1
        rw [Bool.eq_iff_iff]
        simp
        omega
      rw [e1]
      have k : ∀ H', Evl.Ex H H' → Q (.bl (decide (kvs.length = (qs.map (·.2)).length) && (qs.map (·.2)).all fun q => (valV kvs (kp q)).isSome)) H' := k
      cases hlen : decide (kvs.length = (qs.map (·.2)).length) with
      | false =>
        rw [hlen] at k
        exact iteT (k H fun _ _ e => e)
      | true =>
        rw [hlen] at k
        refine iteF ⟨_, rfl, l, rfl, ⟨_, SqL.of hl⟩, fun D hD => ?_⟩
        refine lc_it (walk_list (xs := refsL qs)) (fun i H' => Evl.Ex H H' ∧ H' D = some (.lst ((((qs.map (·.2)).take i).map fun q => (valV kvs (kp q)).isSome).map V.bl))) ⟨Evl.Ex.new hD, upd_same⟩ (fun i H' _ hp => SqL.of (hp.1 _ _ hl)) (fun i x H1 H2 hi2 hp hy => ?_) (fun H1 hp => ?_)
        · obtain ⟨x1, e2⟩ := hp
          obtain ⟨rfl, hx⟩ := hy
          unfold refsL at hi2 hx
          rw [List.length_map] at hi2
          obtain ⟨t, ht⟩ := getD_of hi2
          rw [List.getElem?_map, ht] at hx
          cases hx
          obtain ⟨Ta, q1, q2⟩ := t
          have hT := x1 _ _ (hP _ (List.mem_of_getElem? ht))
          have tk : (qs.map (·.2)).take (i + 1) = (qs.map (·.2)).take i ++ [(q1, q2)] := by rw [List.take_add_one, List.getElem?_map, ht]; rfl
          have g : DGet H2 a (.ref Ta) (valV kvs (kp (q1, q2))) := DGet.t (k := kp (q1, q2)) (x1 _ _ ha) hT
          refine ⟨rfl, _, rfl, _, rfl, a, _, rfl, g, _, e2, ?_, ex_upd x1 hD, ?_⟩
          · rw [List.length_map, List.length_map, List.length_take]
            exact Nat.lt_of_le_of_lt (show min i (qs.map (·.2)).length ≤ 1000 by rw [List.length_map]; omega) (by decide)
          · rw [upd_same, tk, List.map_append, List.map_append]
            rfl
        · obtain ⟨x1, e2⟩ := hp
          rw [rl, List.take_length] at e2
          refine ⟨D, _, rfl, SqL.of e2, ?_⟩
          have := k _ x1
          rw [Bool.true_and] at this
          rw [List.all_map]
          exact this
theorem scIsTabT : FnScope ["thing", "keys", "number"] ["thing", "keys"] (defScope sIsTabT) := ⟨rfl, rfl, rfl, by decide +kernel, rfl, by decide +kernel, by decide +kernel⟩
theorem ok_isTabT {f fJ fN : Addr} {fd fdJ fdN : FuncData} (F : FnP K "is_table" sIsTabT f fd) (GJ : FnOk P w K mg base CX0 1 fJ fdJ ["thing", "keys"] spHasJT) (bJ : L2.Binds K fdJ ["thing", "keys"] []) (kJ : PySem.W.keepIn K (.ref fJ) = true) (gJ : mg "has_just" = some (.ref fJ))
    (GN : FnOk P w K mg base CX0 2 fN fdN ["thing"] spIsNum) (bN : L2.Binds K fdN ["thing"] []) (kN : PySem.W.keepIn K (.ref fN) = true) (gN : mg "is_number" = some (.ref fN)) (gA : mg "all" = none) : FnOk P w K mg base CX0 3 f fd ["thing", "keys"] spIsTabT := by
  refine F.ok scIsTabT (fun vs H Q E h => ?_) (fun cdv A outer s H vs Q E hr h => ?_)
  · obtain ⟨x, o, l, qs, rfl, _⟩ := h
    rfl
  · obtain ⟨x, o, l, qs, rfl, hx, hl, hP, h1k, k⟩ := h
    refine' ⟨_, PSs.nox (pss_one (ps_ret (pe_and (pe_call GJ (hr.mono (by decide)) rfl gJ kJ bJ .nil pass0 (pa_cons (pv 0) (pa_cons (pv 1) pa_nil))) (pe_one (pe_lock (pe_callB (cr_all rfl) (by rfl) gA (by decide +kernel) (pa_cons ?lc pa_nil))))))), ?rd⟩
    case lc =>
      refine pe_lc (own := [("number", 2)]) (g := gName 2) (tt := tYes) (te := tCall spIsNum [] E0 (tCons (tVar 2) tNil)) rfl scIsTabT.nd (pi_valuesT (pv 0))
        (blkOk_by (own := [("number", 2)]) (N := ["thing", "keys", "number"]) (sc := defScope sIsTabT) (by decide +kernel)) (fun _ _ _ _ _ => pg_name (i := 2) scIsTabT.nd rfl (.inl rfl)) (fun _ _ _ _ _ => pts_nil) ?_
      intro _ _ _ _ _
      exact pe_call GN hr rfl gN kN bN .nil pass0 (pa_cons (pv 2) pa_nil)
    refine ⟨_, rfl, _, rfl, x, o, l, qs, rfl, hx, hl, hP, h1k, fun H1 x1 => ⟨_, rfl, ?_⟩⟩
    cases hj : hasJT (qs.map (·.2)) o with
    | false =>
      have := k H1 x1
      unfold isTabT at this
      rw [hj] at this
      exact iteF this
    | true =>
      refine iteT ?_
      cases hx with
      | not hp hn => cases hj
      | @dct a kvs ha hi hna hkl =>
        have k : ∀ H', Evl.Ex H H' → Q (.bl (hasJT (qs.map (·.2)) (some kvs) && kvs.all fun p => numV p.2)) H' := k
        rw [hj, Bool.true_and] at k
        have ha1 := x1 _ _ ha
        refine ⟨a, _, ha1, trivial, fun od => ?_⟩
        refine ⟨_, rfl, a, od, kvs, rfl, upd_same, fun D hD => ?_⟩
        have haD : a ≠ D := ne_of_none upd_same hD
        refine lc_it (walk_valuesT (kvs := kvs)) (fun i H' => Evl.Ex (upd H1 a (.frz od (.dT kvs))) H' ∧ H' D = some (.lst (((kvs.take i).map fun p => numV p.2).map V.bl))) ⟨Evl.Ex.new hD, upd_same⟩ (fun i H' _ hp => hp.1 _ _ upd_same) (fun i x H2 H3 hi2 hp hy => ?_) (fun H2 hp => ?_)
        · obtain ⟨x2, e2⟩ := hp
          obtain ⟨rfl, kk, hx⟩ := hy
          have hm := List.mem_of_getElem? hx
          obtain ⟨n, hn⟩ := hi _ hm
          have hn3 : Pl H3 x n := ((hn.ext x1).updA (hna _ hm)).ext x2
          refine ⟨rfl, _, rfl, x, n, rfl, hn3, _, e2, ?_, ex_upd x2 hD, ?_⟩
          · rw [List.length_map, List.length_map, List.length_take]
            exact Nat.lt_of_le_of_lt (show min i kvs.length ≤ 1000 by omega) (by decide)
          · rw [upd_same, List.take_add_one, hx, List.map_append, List.map_append]
            rfl
        · obtain ⟨x2, e2⟩ := hp
          rw [List.take_length] at e2
          refine ⟨D, _, rfl, SqL.of e2, x2 _ _ upd_same, ?_⟩
          have := k _ (x1.trans (unlockT ha1 x2))
          rw [List.all_map]
          exact this
theorem scIsLed : FnScope ["village", "thing"] ["village", "thing"] (defScope sIsLed) := ⟨rfl, rfl, rfl, by decide +kernel, rfl, by decide +kernel, by decide +kernel⟩
theorem ok_isLed {C f fT : Addr} {fd fdT : FuncData} (F : FnP K "is_ledger" sIsLed f fd) (c : VC P w K mg base C) (cp : VP P w K mg base C) (GT : FnOk P w K mg base CX0 3 fT fdT ["thing", "keys"] spIsTabT) (bT : L2.Binds K fdT ["thing", "keys"] []) (kT : PySem.W.keepIn K (.ref fT) = true) (gT : mg "is_table" = some (.ref fT)) :
    FnOk P w K mg base CX0 4 f fd ["village", "thing"] (spIsLed C) := by
  obtain ⟨fP, fdP, mP, GP, bP⟩ := cp.pt
  refine F.ok scIsLed (fun vs H Q E h => ?_) (fun cdv A outer s H vs Q E hr h => ?_)
  · obtain ⟨v, x, o, hs, ps, m, rfl, _⟩ := h
    rfl
  · obtain ⟨v, x, o, hs, ps, m, rfl, Vh, hx, h1k, k⟩ := h
    refine ⟨_, PSs.nox (pss_one (ps_ret (pe_call GT hr rfl gT kT bT .nil pass0 (pa_cons (pv 1) (pa_cons (pe_meth0 (pv 0) c.cl mP GP (hr.mono (by decide)) bP .nil pass0) pa_nil))))), ?_⟩
    refine ⟨_, rfl, _, rfl, v, m.dx, _, rfl, Vh.at_, rfl, v, C, hs, ps, m, rfl, c.cl, c.n2, Vh, fun l hl => ?_⟩
    have x1 := Evl.Ex.new (o := .lst (refsL m.zs)) hl
    refine ⟨x, o, l, m.zs, rfl, hx.ex x1, upd_same, Vh.pr.ex x1, ?_, fun H1 x2 => ?_⟩
    · rw [← Vh.eq, List.length_map] at h1k
      exact h1k
    · rw [Vh.eq]
      exact k _ (x1.trans x2)
end
end K11

namespace K11
open PySem PySem.Spec PyProof.Rows L2 Tr Sq
/-! ### _law_v_beside -/
abbrev sBes : Stmt := top 66
def besL (ps : Prs) (h : Str) : List Str := ((ps.filter fun q => decide (q.1 = h)).map (·.2)) ++ ((ps.filter fun q => decide (q.2 = h)).map (·.1))
theorem besL_mem {ps : Prs} {h y : Str} : y ∈ besL ps h ↔ Adj ps h y := by
  unfold besL Adj
  simp only [List.mem_append, List.mem_map, List.mem_filter, decide_eq_true_eq]
  constructor
  · rintro (⟨⟨a, b⟩, ⟨h1, h2⟩, h3⟩ | ⟨⟨a, b⟩, ⟨h1, h2⟩, h3⟩)
    · exact .inl (by simp only at h2 h3; rw [← h2, ← h3]; exact h1)
    · exact .inr (by simp only at h2 h3; rw [← h2, ← h3]; exact h1)
  · rintro (e | e)
    · exact .inl ⟨(h, y), ⟨e, rfl⟩, rfl⟩
    · exact .inr ⟨(y, h), ⟨e, rfl⟩, rfl⟩
def spBes (K : PySem.W.Frag) : Sp := fun vs H Q _ => ∃ (q : Addr) (h : Str) (qs : PrL), vs = [.ref q, .str h] ∧ H q = some (.lst (refsL qs)) ∧ PrsAt H qs ∧ qs.length ≤ 30 ∧
  ∀ (r : Addr) (ys : List Str) (H' : Hp), Evl.Ex H H' → H r = none → H' r = some (.lst (ys.map V.str)) → ys.Perm (besL (qs.map (·.2)) h) → sortedS ys = true → Q (.ref r) H'
section
variable {P : Program} {w : World} {K : PySem.W.Frag} {mg : Str → Option Value} {base : Heap}
theorem scBes : FnScope ["paths", "house", "found", "one", "other"] ["paths", "house"] (defScope sBes) := ⟨rfl, rfl, rfl, by decide +kernel, rfl, by decide +kernel, by decide +kernel⟩
theorem ok_bes {f : Addr} {fd : FuncData} (F : FnP K "_law_v_beside" sBes f fd) (gS : mg "sorted" = none) : FnOk P w K mg base CX0 1 f fd ["paths", "house"] (spBes K) := by
  refine F.ok scBes (fun vs H Q E h => ?_) (fun cdv A outer s H vs Q E hr h => ?_)
  · obtain ⟨q, h, qs, rfl, _⟩ := h
    rfl
  · obtain ⟨q, h, qs, rfl, hq, hP, hl, k⟩ := h
    refine' ⟨_, PSs.nox (pss_cons (ps_set (i := 2) scBes.nd rfl (.inl rfl) (pe_op op_cat ?l1 ?l2)) (pss_one (ps_ret (pe_callB cr_sortedS (by rfl) gS (by decide +kernel) (pa_cons (pv 2) pa_nil))))), ?rd⟩
    case l1 =>
      refine pe_lc (own := [("one", 3), ("other", 4)]) (g := gTup K 2 (gCons (gName 3) (gCons (gName 4) gNil))) (tt := tTest (tOp rEq (tVar 3) (tVar 1))) (te := tVar 4) rfl scBes.nd (pi_list (pv 0))
        (blkOk_by (own := [("one", 3), ("other", 4)]) (N := ["paths", "house", "found", "one", "other"]) (sc := defScope sBes) (by decide +kernel)) (fun _ _ _ _ _ => pg_tup rfl (pgs_cons (pg_name (i := 3) scBes.nd rfl (.inl rfl)) (pgs_cons (pg_name (i := 4) scBes.nd rfl (.inl rfl)) pgs_nil))) (fun _ _ _ _ _ => pts_one (pt_cmpR op_eq (pv 3) (pv 1) (nomark _))) ?_
      intro _ _ _ _ _
      exact pv 4
    case l2 =>
      refine pe_lc (own := [("one", 3), ("other", 4)]) (g := gTup K 2 (gCons (gName 3) (gCons (gName 4) gNil))) (tt := tTest (tOp rEq (tVar 4) (tVar 1))) (te := tVar 3) rfl scBes.nd (pi_list (pv 0))
        (blkOk_by (own := [("one", 3), ("other", 4)]) (N := ["paths", "house", "found", "one", "other"]) (sc := defScope sBes) (by decide +kernel)) (fun _ _ _ _ _ => pg_tup rfl (pgs_cons (pg_name (i := 3) scBes.nd rfl (.inl rfl)) (pgs_cons (pg_name (i := 4) scBes.nd rfl (.inl rfl)) pgs_nil))) (fun _ _ _ _ _ => pts_one (pt_cmpR op_eq (pv 4) (pv 1) (nomark _))) ?_
      intro _ _ _ _ _
      exact pv 3
    have len1 : ∀ i, (((qs.map (·.2)).take i).filter fun q => decide (q.1 = h)).length ≤ 30 := fun i => Nat.le_trans (List.length_filter_le _ _) (by rw [List.length_take, List.length_map]; omega)
    have len2 : ∀ i, (((qs.map (·.2)).take i).filter fun q => decide (q.2 = h)).length ≤ 30 := fun i => Nat.le_trans (List.length_filter_le _ _) (by rw [List.length_take, List.length_map]; omega)
    have all : ∀ {α : Type} (g : List (Str × Str) → α), g ((qs.map (·.2)).take (refsL qs).length) = g (qs.map (·.2)) := fun g => by
      congr 1
      unfold refsL
      rw [List.length_map, List.take_of_length_le (by rw [List.length_map]; exact Nat.le_refl _)]
    refine ⟨_, rfl, q, rfl, ⟨_, SqL.of hq⟩, fun D hD => ?_⟩
    refine lc_it (walk_list (xs := refsL qs)) (fun i H' => Evl.Ex H H' ∧ H' D = some (.lst (((((qs.map (·.2)).take i).filter fun q => decide (q.1 = h)).map (·.2)).map V.str))) ⟨Evl.Ex.new hD, upd_same⟩ (fun i H' _ hp => SqL.of (hp.1 _ _ hq)) (fun i x H1 H2 hi hp hy => ?_) (fun H1 hp => ?_)
    · obtain ⟨x1, e1⟩ := hp
      obtain ⟨rfl, hx⟩ := hy
      unfold refsL at hi hx
      rw [List.length_map] at hi
      obtain ⟨t, ht⟩ := getD_of hi
      rw [List.getElem?_map, ht] at hx
      cases hx
      obtain ⟨T, a, b⟩ := t
      have hT := x1 _ _ (hP _ (List.mem_of_getElem? ht))
      have tk : (qs.map (·.2)).take (i + 1) = (qs.map (·.2)).take i ++ [(a, b)] := by rw [List.take_add_one, List.getElem?_map, ht]; rfl
      refine ⟨T, _, rfl, SqT.of hT, rfl, _, _, rfl, _, _, rfl, rfl, rfl, _, rfl, _, rfl, rfl, _, rfl, ?_⟩
      refine ite2 (fun z => ?_) (fun z => ?_)
      · have z : a = h := by simpa using z
        refine ⟨_, rfl, _, e1, ?_, ex_upd x1 hD, ?_⟩
        · rw [List.length_map, List.length_map]
          exact Nat.lt_of_le_of_lt (len1 i) (by decide)
        · rw [upd_same, tk, List.filter_append]
          simp [z]
      · have z : ¬ a = h := by simpa using z
        refine ⟨x1, ?_⟩
        rw [e1, tk, List.filter_append]
        simp [z]
    · obtain ⟨x1, e1⟩ := hp
      rw [all (fun l => ((l.filter fun q => decide (q.1 = h)).map (·.2)).map V.str)] at e1
      refine ⟨_, rfl, q, rfl, ⟨_, SqL.of (x1 _ _ hq)⟩, fun D2 hD2 => ?_⟩
      have nD : D ≠ D2 := ne_of_none e1 hD2
      refine lc_it (walk_list (xs := refsL qs)) (fun i H' => Evl.Ex H1 H' ∧ H' D2 = some (.lst (((((qs.map (·.2)).take i).filter fun q => decide (q.2 = h)).map (·.1)).map V.str))) ⟨Evl.Ex.new hD2, upd_same⟩ (fun i H' _ hp => SqL.of (hp.1 _ _ (x1 _ _ hq))) (fun i x H3 H4 hi hp hy => ?_) (fun H3 hp => ?_)
      · obtain ⟨x3, e3⟩ := hp
        obtain ⟨rfl, hx⟩ := hy
        unfold refsL at hi hx
        rw [List.length_map] at hi
        obtain ⟨t, ht⟩ := getD_of hi
        rw [List.getElem?_map, ht] at hx
        cases hx
        obtain ⟨T, a, b⟩ := t
        have hT := x3 _ _ (x1 _ _ (hP _ (List.mem_of_getElem? ht)))
        have tk : (qs.map (·.2)).take (i + 1) = (qs.map (·.2)).take i ++ [(a, b)] := by rw [List.take_add_one, List.getElem?_map, ht]; rfl
        refine ⟨T, _, rfl, SqT.of hT, rfl, _, _, rfl, _, _, rfl, rfl, rfl, _, rfl, _, rfl, rfl, _, rfl, ?_⟩
        refine ite2 (fun z => ?_) (fun z => ?_)
        · have z : b = h := by simpa using z
          refine ⟨_, rfl, _, e3, ?_, ex_upd x3 hD2, ?_⟩
          · rw [List.length_map, List.length_map]
            exact Nat.lt_of_le_of_lt (len2 i) (by decide)
          · rw [upd_same, tk, List.filter_append]
            simp [z]
        · have z : ¬ b = h := by simpa using z
          refine ⟨x3, ?_⟩
          rw [e3, tk, List.filter_append]
          simp [z]
      · obtain ⟨x3, e3⟩ := hp
        rw [all (fun l => ((l.filter fun q => decide (q.2 = h)).map (·.1)).map V.str)] at e3
        have l1 := len1 (qs.map (·.2)).length
        have l2 := len2 (qs.map (·.2)).length
        rw [List.take_length] at l1 l2
        refine ⟨D, D2, _, _, rfl, rfl, x3 _ _ e1, e3, ?_, fun p hp2 => ?_⟩
        · rw [List.length_map, List.length_map, List.length_map, List.length_map]
          exact Nat.le_trans (show _ ≤ 60 by omega) (by decide)
        · have x4 := (x1.trans x3).trans (Evl.Ex.new (o := .lst (((((qs.map (·.2)).filter fun q => decide (q.1 = h)).map (·.2)).map V.str) ++ ((((qs.map (·.2)).filter fun q => decide (q.2 = h)).map (·.1)).map V.str))) hp2)
          refine ⟨_, rfl, p, besL (qs.map (·.2)) h, rfl, SqL.of (by rw [upd_same]; unfold besL; rw [List.map_append]), ?_, fun ys r hys hsr hr2 => ?_⟩
          · unfold besL
            rw [List.length_append, List.length_map, List.length_map]
            omega
          · refine k r ys _ (x4.trans (Evl.Ex.new hr2)) ?_ upd_same hys hsr
            cases q1 : H r with
            | none => rfl
            | some o => rw [x4 _ _ q1] at hr2; cases hr2
end
end K11

/-! Rows of houses gone on from a stack, until one ends at a house. Law-independent, no machine. -/
namespace Tr
open PySem
structure Good (hs : List Str) (ps : Prs) (a : Str) (t : List Str) : Prop where
  hd : ∃ l, t = a :: l
  nd : t.Nodup
  row : Row ps t
  mem : ∀ x ∈ t, x ∈ hs
structure DInv (hs : List Str) (ps : Prs) (a : Str) (w : List Str) (R : List (List Str)) : Prop where
  good : ∀ t ∈ R, Good hs ps a t
  pre : ∃ t ∈ R, ∃ rest, t ++ rest = w
  idx : ∀ i t, R[i]? = some t → i ≤ 60 * (t.length - 1)
def wgt (n : Nat) (R : List (List Str)) : Nat := (R.map fun t => 100 ^ (n + 1 - t.length)).sum
theorem DInv.start {hs : List Str} {ps : Prs} {a : Str} {w l : List Str} (ha : a ∈ hs) (h : w = a :: l) : DInv hs ps a w [[a]] := by
  refine ⟨fun t ht => ?_, ⟨[a], by simp, l, by rw [h]; rfl⟩, fun i t h => ?_⟩
  · simp only [List.mem_singleton] at ht
    subst ht
    exact ⟨⟨[], rfl⟩, by simp, fun i x y h1 h2 => by simp at h2, fun x hx => by simp at hx; rw [hx]; exact ha⟩
  · have := (List.getElem?_eq_some_iff.mp h).1
    simp at this
    omega
theorem Good.done {hs : List Str} {ps : Prs} {a b : Str} {t w : List Str} {f : Str → Option Str} (g : Good hs ps a t) (R : Rt hs ps b f) (hw : Pth f b a w) (hl : t.getLast? = some b) : t = w := by
  obtain ⟨l, rfl⟩ := g.hd
  exact (R.row l a g.nd g.row hl).uniq R.none hw
theorem Good.len {hs : List Str} {ps : Prs} {a : Str} {t : List Str} (g : Good hs ps a t) : 1 ≤ t.length ∧ t.length ≤ hs.length := by
  refine ⟨?_, nodup_le g.nd g.mem⟩
  obtain ⟨l, rfl⟩ := g.hd
  simp
theorem Good.more {hs : List Str} {ps : Prs} (T : Tree hs ps) {a c y : Str} {t : List Str} (g : Good hs ps a t) (hl : t.getLast? = some c) (ha : Adj ps c y) (hy : y ∉ t) : Good hs ps a (t ++ [y]) := by
  obtain ⟨l, e⟩ := g.hd
  refine ⟨⟨l ++ [y], by rw [e]; rfl⟩, ?_, fun i u v h1 h2 => ?_, fun x hx => ?_⟩
  · rw [List.nodup_append]
    refine ⟨g.nd, by simp, fun x hx z hz => ?_⟩
    simp only [List.mem_singleton] at hz
    intro q
    exact hy (by rw [← hz, ← q]; exact hx)
  · have hlt := (List.getElem?_eq_some_iff.mp h2).1
    rw [List.length_append, List.length_singleton] at hlt
    by_cases hi : i + 1 < t.length
    · rw [List.getElem?_append_left (by omega)] at h1
      rw [List.getElem?_append_left hi] at h2
      exact g.row i u v h1 h2
    · have e1 : i + 1 = t.length := by omega
      rw [List.getElem?_append_left (by omega)] at h1
      rw [e1, List.getElem?_append_right (Nat.le_refl _), Nat.sub_self] at h2
      simp at h2
      rw [List.getLast?_eq_getElem?, ← e1, Nat.add_sub_cancel, h1] at hl
      rw [Option.some.inj hl, ← h2]
      exact ha
  · rcases List.mem_append.mp hx with hx | hx
    · exact g.mem x hx
    · simp only [List.mem_singleton] at hx
      rw [hx]
      exact (T.mem ha).2
theorem wgt_app (n : Nat) (A B : List (List Str)) : wgt n (A ++ B) = wgt n A + wgt n B := by
  unfold wgt
  rw [List.map_append, List.sum_append]
theorem wgt_more (n k : Nat) (t : List Str) (h : t.length + 1 = k) : ∀ F : List Str, wgt n (F.map fun y => t ++ [y]) = F.length * 100 ^ (n + 1 - k)
  | [] => by simp [wgt]
  | y :: r => by
    have ih := wgt_more n k t h r
    unfold wgt at ih ⊢
    rw [List.map_cons, List.map_cons, List.sum_cons, ih, List.length_append, List.length_singleton, h, List.length_cons, Nat.succ_mul]
    omega
theorem DInv.step {hs : List Str} {ps : Prs} (T : Tree hs ps) {a b c : Str} {w t : List Str} {R0 : List (List Str)} {f : Str → Option Str} (R : Rt hs ps b f) (hw : Pth f b a w) (D : DInv hs ps a w (R0 ++ [t])) (hl : t.getLast? = some c) (hcb : c ≠ b) {F : List Str}
    (h1 : ∀ y ∈ F, Adj ps c y ∧ y ∉ t) (h2 : ∀ y, Adj ps c y → y ∉ t → y ∈ F) (h3 : F.length ≤ 60) : DInv hs ps a w (R0 ++ F.map fun y => t ++ [y]) ∧ wgt hs.length (R0 ++ F.map fun y => t ++ [y]) < wgt hs.length (R0 ++ [t]) := by
  have gt := D.good t (by simp)
  obtain ⟨l1, l2⟩ := gt.len
  have it := D.idx R0.length t (by rw [List.getElem?_append_right (Nat.le_refl _), Nat.sub_self]; rfl)
  refine ⟨⟨fun u hu => ?_, ?_, fun i u hu => ?_⟩, ?_⟩
  · rcases List.mem_append.mp hu with hu | hu
    · exact D.good u (List.mem_append_left _ hu)
    · obtain ⟨y, hy, rfl⟩ := List.mem_map.mp hu
      exact gt.more T hl (h1 y hy).1 (h1 y hy).2
  · obtain ⟨u, hu, rest, e⟩ := D.pre
    rcases List.mem_append.mp hu with hu | hu
    · exact ⟨u, List.mem_append_left _ hu, rest, e⟩
    · simp only [List.mem_singleton] at hu
      subst hu
      cases rest with
      | nil =>
        rw [List.append_nil] at e
        rw [e, hw.last] at hl
        exact absurd (Option.some.inj hl).symm hcb
      | cons y r =>
        refine ⟨u ++ [y], List.mem_append_right _ (List.mem_map.mpr ⟨y, ?_, rfl⟩), r, by rw [List.append_assoc]; exact e⟩
        have n1 := hw.nodup R.none
        rw [← e] at n1
        have hy : y ∉ u := fun z => (List.nodup_append.mp n1).2.2 y z y (by simp) rfl
        refine h2 y ?_ hy
        have q1 : w[u.length - 1]? = some c := by
          rw [← e, List.getElem?_append_left (by omega), ← List.getLast?_eq_getElem?]
          exact hl
        have q2 : w[u.length - 1 + 1]? = some y := by
          rw [← e, show u.length - 1 + 1 = u.length by omega, List.getElem?_append_right (Nat.le_refl _), Nat.sub_self]
          rfl
        exact hw.row R _ _ _ q1 q2
  · by_cases hi : i < R0.length
    · rw [List.getElem?_append_left hi] at hu
      exact D.idx i u (by rw [List.getElem?_append_left hi]; exact hu)
    · have hlt := (List.getElem?_eq_some_iff.mp hu).1
      rw [List.getElem?_append_right (by omega), List.getElem?_map] at hu
      obtain ⟨y, _, rfl⟩ := Option.map_eq_some_iff.mp hu
      rw [List.length_append, List.length_map] at hlt
      rw [List.length_append, List.length_singleton]
      omega
  · rw [wgt_app, wgt_app, wgt_more hs.length (t.length + 1) t rfl F]
    have e1 : wgt hs.length [t] = 100 ^ (hs.length + 1 - t.length) := by simp [wgt]
    rw [e1, show hs.length + 1 - t.length = (hs.length + 1 - (t.length + 1)) + 1 by omega, Nat.pow_succ]
    have : 0 < 100 ^ (hs.length + 1 - (t.length + 1)) := Nat.pow_pos (by decide)
    have : F.length * 100 ^ (hs.length + 1 - (t.length + 1)) ≤ 60 * 100 ^ (hs.length + 1 - (t.length + 1)) := Nat.mul_le_mul_right _ h3
    omega
theorem DInv.len {hs : List Str} {ps : Prs} {a : Str} {w : List Str} {R : List (List Str)} (D : DInv hs ps a w R) (h : hs.length ≤ 30) : R.length ≤ 2000 := by
  cases hR : R.getLast? with
  | none =>
    rw [List.getLast?_eq_none_iff] at hR
    rw [hR]
    exact Nat.zero_le _
  | some t =>
    rw [List.getLast?_eq_getElem?] at hR
    have := D.idx _ t hR
    have := (D.good t (List.mem_of_getElem? hR)).len
    omega
end Tr

namespace K11
open PySem PySem.Spec PyProof.Rows L2 Tr Sq
/-! ### _law_v_way -/
abbrev sWay : Stmt := top 67
/-- rows of names, each a list at its place -/
abbrev RwL : Type := List (Addr × List Str)
def RwAt (H0 H : Hp) (R : RwL) : Prop := ∀ t ∈ R, H t.1 = some (.lst (t.2.map V.str)) ∧ H0 t.1 = none
def rwRefs (R : RwL) : List V := R.map fun t => .ref t.1
def pdRow (l : List Str) : PyData := .list (l.map PyData.str)
theorem dpa_strs {K : PySem.W.Frag} {H : Hp} : ∀ l : List Str, DpAll K H (l.map V.str) (l.map PyData.str)
  | [] => .nil
  | n :: r => .cons (.str n) (dpa_strs r)
theorem dpa_rows {K : PySem.W.Frag} {H0 H : Hp} : ∀ {R : RwL}, RwAt H0 H R → DpAll K H (rwRefs R) (R.map fun t => pdRow t.2)
  | [], _ => .nil
  | t :: r, h => .cons (.lst (SqL.of (h t List.mem_cons_self).1) (dpa_strs _)) (dpa_rows fun u hu => h u (List.mem_cons_of_mem _ hu))
theorem lay_strs : ∀ l : List Str, (∀ z ∈ l, PyData.strOk z = true) → PyData.canLayAll0 (l.map PyData.str) = true
  | [], _ => by simp [PyData.canLayAll0]
  | n :: r, h => by simp [PyData.canLayAll0, PyData.canLay0, h n List.mem_cons_self, lay_strs r fun z hz => h z (List.mem_cons_of_mem _ hz)]
theorem depth_strs : ∀ l : List Str, PyData.depthAll (l.map PyData.str) = 0
  | [] => by simp [PyData.depthAll]
  | n :: r => by simp [PyData.depthAll, PyData.depth, depth_strs r]
theorem lay_rows : ∀ R : List (List Str), (∀ t ∈ R, ∀ z ∈ t, PyData.strOk z = true) → PyData.canLayAll0 (R.map pdRow) = true
  | [], _ => by simp [PyData.canLayAll0]
  | n :: r, h => by
    rw [List.map_cons]
    unfold pdRow
    simp only [PyData.canLayAll0, PyData.canLay0, lay_strs n (h n List.mem_cons_self), Bool.true_and]
    exact lay_rows r fun t ht => h t (List.mem_cons_of_mem _ ht)
theorem depth_rows : ∀ R : List (List Str), PyData.depthAll (R.map pdRow) ≤ 1
  | [] => by simp [PyData.depthAll]
  | n :: r => by
    have := depth_rows r
    rw [List.map_cons]
    unfold pdRow at this ⊢
    simp only [PyData.depthAll, PyData.depth, depth_strs n]
    omega
theorem shaped_rows (R : List (List Str)) (h : ∀ t ∈ R, ∀ z ∈ t, PyData.strOk z = true) : SeqAt.shaped (.list (R.map pdRow)) = true := by
  unfold SeqAt.shaped
  have := depth_rows R
  simp only [PyData.canLay0, PyData.depth, lay_rows R h, Bool.true_and]
  exact decide_eq_true (by omega)
theorem eqv_rows_nil (R : List (List Str)) : PyData.eqv (.list (R.map pdRow)) (.list []) = R.isEmpty := by
  cases R <;> simp [PyData.eqv, PyData.eqvAll]
theorem good_ok : ∀ z ∈ names12, PyData.strOk z = true := by decide +kernel
theorem in_strs {h : Str} {l : List Str} : inV (.str h) (l.map V.str) = decide (h ∈ l) := by
  induction l with
  | nil => rfl
  | cons a r ih =>
    unfold inV at ih ⊢
    rw [List.map_cons, List.any_cons, ih]
    have : eqV (.str a) (.str h) = decide (h = a) := by
      simp [eqV]
      rw [Bool.eq_iff_iff]
      simp
      exact eq_comm
    rw [this, Bool.eq_iff_iff]
    simp
theorem flat_strs (l : List Str) : (l.map V.str).all flatV = true := by
  rw [List.all_map]
  exact List.all_eq_true.mpr fun _ _ => rfl
def spWay : Sp := fun vs H Q _ => ∃ (q : Addr) (a b : Str) (qs : PrL) (hs : List Str) (fr : Str → Str → Option Str) (way : Str → Str → List Str), vs = [.ref q, .str a, .str b] ∧ H q = some (.lst (refsL qs)) ∧ PrsAt H qs ∧ Tree hs (qs.map (·.2)) ∧ Ways hs (qs.map (·.2)) fr way ∧ a ∈ hs ∧ b ∈ hs ∧ hs.length ≤ 30 ∧ qs.length ≤ 30 ∧ (∀ h ∈ hs, h ∈ names12) ∧
  ∀ (r : Addr) (H' : Hp), Evl.Ex H H' → H r = none → H' r = some (.lst ((way a b).map V.str)) → Q (.ref r) H'
def wDfs (H : Hp) (q ro : Addr) (a b : Str) (hs : List Str) (ps : Prs) (w : List Str) (mm : Nat) (σ : L2.St) (H' : Hp) : Prop := ∃ (R : RwL) (v4 v5 v6 : Option V), wgt hs.length (R.map (·.2)) = mm ∧ σ = [some (.ref q), some (.str a), some (.str b), some (.ref ro), v4, v5, v6] ∧ Evl.Ex H H' ∧ H' ro = some (.lst (rwRefs R)) ∧ RwAt H H' R ∧ DInv hs ps a w (R.map (·.2))
section
variable {P : Program} {w : World} {K : PySem.W.Frag} {mg : Str → Option Value} {base : Heap}
theorem scWay : FnScope ["paths", "one", "other", "rows", "row", "further", "house"] ["paths", "one", "other"] (defScope sWay) := ⟨rfl, rfl, rfl, by decide +kernel, rfl, by decide +kernel, by decide +kernel⟩
theorem ok_way {f fB : Addr} {fd fdB : FuncData} (F : FnP K "_law_v_way" sWay f fd) (GB : FnOk P w K mg base CX0 1 fB fdB ["paths", "house"] (spBes K)) (bB : L2.Binds K fdB ["paths", "house"] []) (kB : PySem.W.keepIn K (.ref fB) = true) (gB : mg "_law_v_beside" = some (.ref fB)) :
    FnOk P w K mg base CX0 2 f fd ["paths", "one", "other"] spWay := by
  refine F.ok scWay (fun vs H Q E h => ?_) (fun cdv A outer s H vs Q E hr h => ?_)
  · obtain ⟨q, a, b, qs, hs, fr, way, rfl, _⟩ := h
    rfl
  · obtain ⟨q, a, b, qs, hs, fr, way, rfl, hq, hP, T, W, ha, hb, h30, q30, hgood, k⟩ := h
    refine' ⟨_, PSs.nox (pss_cons (ps_set (i := 3) scWay.nd rfl (.inl rfl) (pe_lst (pa_cons (pe_lst (pa_cons (pv 1) pa_nil)) pa_nil)))
      (pss_cons (ps_while PassesOwn.never (pt_cmpR (op_neD hr.units) (pv 3) (pe_lst pa_nil) (nomark _))
        (pss_cons (ps_set (i := 4) scWay.nd rfl (.inr rfl) (pe_bm0 PySem.F.plainAttrs_list PySem.F.slot_list_pop PySem.F.type_list_pop mt_pop (pv 3)))
        (pss_cons (ps_if (pt_cmpR op_eq (pe_ix ix_list (pv 4) (pe_un un_neg pe_int) (fun _ _ => rfl)) (pv 2) (nomark _)) (pss_one (ps_ret (pv 4))) pss_nil)
        (pss_cons ?l1 (pss_one (ps_expr (pe_bm PySem.F.plainAttrs_list PySem.F.slot_list_extend PySem.F.type_list_extend mt_extend (pv 3) (pa_cons ?l2 pa_nil))))))))
      (pss_one (ps_ret (pe_lst pa_nil))))), ?rd⟩
    case l1 =>
      refine ps_setLc (i := 5) (own := [("house", 6)]) (g := gName 6) (tt := tTest (tOp (rIn K true) (tVar 6) (tVar 4))) (te := tVar 6) (by rfl) scWay.nd rfl rfl (sw_true rfl rfl rfl (by decide +kernel)) (pi_list (pe_call GB hr rfl gB kB bB .nil pass0 (pa_cons (pv 0) (pa_cons (pe_ix ix_list (pv 4) (pe_un un_neg pe_int) (fun _ _ => rfl)) pa_nil))))
        (blkOk_by (own := [("house", 6)]) (N := ["paths", "one", "other", "rows", "row", "further", "house"]) (sc := defScope sWay) (by decide +kernel)) (fun _ _ _ _ _ => pg_name (i := 6) scWay.nd rfl (.inl rfl)) (fun _ _ _ _ _ => pts_one (pt_cmpR op_notIn_seq (pv 6) (pv 4) rfl)) ?_
      intro _ _ _ _ _
      exact pv 6
    case l2 =>
      refine pe_lc (own := [("house", 6)]) (g := gName 6) (tt := tYes) (te := tOp rCat (tVar 4) (tLst (tCons (tVar 6) tNil))) rfl scWay.nd (pi_list (pv 5))
        (blkOk_by (own := [("house", 6)]) (N := ["paths", "one", "other", "rows", "row", "further", "house"]) (sc := defScope sWay) (by decide +kernel)) (fun _ _ _ _ _ => pg_name (i := 6) scWay.nd rfl (.inl rfl)) (fun _ _ _ _ _ => pts_nil) ?_
      intro _ _ _ _ _
      exact pe_op op_cat (pv 4) (pe_lst (pa_cons (pv 6) pa_nil))
    refine ⟨_, rfl, by show 1 ≤ sizeLine; decide, fun t1 ht1 => ⟨by show 1 ≤ sizeLine; decide, fun ro hro => ?_⟩⟩
    have n1 : t1 ≠ ro := ne_of_none upd_same hro
    have hroH : H ro = none := by rw [upd_ne n1.symm] at hro; exact hro
    obtain ⟨lw, ew, _⟩ := W.tail_last ha hb
    have pw := W.pth a ha b hb
    refine ⟨wDfs H q ro a b hs (qs.map (·.2)) (way a b), ⟨_, [(t1, [a])], none, none, none, rfl, rfl, (Evl.Ex.new ht1).trans (Evl.Ex.new hro), upd_same, fun t ht => ?_, DInv.start ha ew⟩, ?_⟩
    · simp only [List.mem_singleton] at ht
      subst ht
      exact ⟨by rw [upd_ne n1]; exact upd_same, ht1⟩
    · rintro mm σ H1 ⟨R, v4, v5, v6, hmm, rfl, x1, e1, e2, D⟩
      have hok : ∀ t ∈ R.map (·.2), ∀ z ∈ t, PyData.strOk z = true := fun t ht z hz => good_ok z (hgood z ((D.good t ht).mem z hz))
      have em : R.map (fun t => pdRow t.2) = (R.map (·.2)).map pdRow := by rw [List.map_map]; rfl
      refine ⟨_, rfl, Nat.zero_le _, fun e he => ?_⟩
      have x2 : Evl.Ex H1 (upd H1 e (.lst [])) := Evl.Ex.new he
      have y2 : upd H1 e (.lst []) e = some (.lst []) := upd_same
      generalize upd H1 e (.lst []) = H2 at x2 y2
      have e2' : RwAt H H2 R := fun t ht => ⟨x2 _ _ (e2 t ht).1, (e2 t ht).2⟩
      refine ⟨_, _, .lst (SqL.of (x2 _ _ e1)) (dpa_rows e2'), .lst (SqL.of y2) .nil, by rw [em]; exact shaped_rows _ hok, shaped_rows [] (fun t ht => by simp at ht), _, rfl, ?_⟩
      rw [em, eqv_rows_nil]
      have hRne : R ≠ [] := fun z => by
        obtain ⟨t, ht, _⟩ := D.pre
        rw [z] at ht
        simp at ht
      have hie : (!(R.map (·.2)).isEmpty) = true := by
        cases R with
        | nil => exact absurd rfl hRne
        | cons x y => rfl
      rw [hie]
      obtain ⟨R0, t, rfl⟩ : ∃ R0 t, R = R0 ++ [t] := ⟨R.dropLast, R.getLast hRne, (List.dropLast_concat_getLast hRne).symm⟩
      refine iteT ⟨fun σ' H' => ∃ m', m' < mm ∧ wDfs H q ro a b hs (qs.map (·.2)) (way a b) m' σ' H', fun σ' H' z => z, ?_⟩
      have er : rwRefs (R0 ++ [t]) = rwRefs R0 ++ [.ref t.1] := by unfold rwRefs; rw [List.map_append]; rfl
      rw [er] at e1
      have e3 := x2 _ _ e1
      refine ⟨_, rfl, .inl ⟨rfl, _, SqL.of e3⟩, ro, _, .ref t.1, rfl, rfl, e3, by simp, ?_⟩
      rw [List.dropLast_concat]
      have tm : t ∈ R0 ++ [t] := by simp
      obtain ⟨g1, g2⟩ := e2' t tm
      have gt := D.good t.2 (List.mem_map.mpr ⟨t, tm, rfl⟩)
      have htne : t.2 ≠ [] := fun z => by have := gt.len.1; rw [z] at this; simp at this
      have trn : ∀ u ∈ R0 ++ [t], u.1 ≠ ro := fun u hu z => by
        have h1 := (e2' u hu).1
        rw [z, e3] at h1
        have h2 := (D.good u.2 (List.mem_map.mpr ⟨u, hu, rfl⟩)).len.1
        injection h1 with h1
        injection h1 with h1
        have h3 : V.ref t.1 ∈ u.2.map V.str := by rw [← h1]; simp
        obtain ⟨z9, _, e9⟩ := List.mem_map.mp h3
        cases e9
      have x3 : Evl.Ex H (upd H2 ro (.lst (rwRefs R0))) := ex_upd (x1.trans x2) hroH
      have f1 : upd H2 ro (.lst (rwRefs R0)) ro = some (.lst (rwRefs R0)) := upd_same
      have f2 : RwAt H (upd H2 ro (.lst (rwRefs R0))) (R0 ++ [t]) := fun u hu => ⟨by rw [upd_ne (trn u hu)]; exact (e2' u hu).1, (e2' u hu).2⟩
      generalize upd H2 ro (.lst (rwRefs R0)) = H3 at x3 f1 f2
      obtain ⟨Y, c, eY⟩ : ∃ Y c, t.2 = Y ++ [c] := ⟨t.2.dropLast, t.2.getLast htne, (List.dropLast_concat_getLast htne).symm⟩
      have hlast : t.2.getLast? = some c := by rw [eY]; simp
      have ht3 := (f2 t tm).1
      have ht3' : H3 t.1 = some (.lst (Y.map V.str ++ [.str c])) := by rw [ht3, eY, List.map_append]; rfl
      refine ⟨_, rfl, _, rfl, t.1, _, -1, _, rfl, rfl, SqL.of ht3', atI_last _ _, _, rfl, rfl, _, rfl, ?_⟩
      by_cases hcb : c = b
      · refine ite2 (fun _ => ⟨_, rfl, k t.1 H3 x3 g2 ?_⟩) (fun z => absurd ?_ z)
        · rw [ht3, gt.done (W.rt b hb) pw (by rw [hlast, hcb])]
        · simp [hcb]
      · refine ite2 (fun z => absurd z (by simp [hcb])) (fun _ => ?_)
        refine ⟨_, rfl, _, rfl, _, rfl, t.1, _, -1, _, rfl, rfl, SqL.of ht3', atI_last _ _, q, c, qs, rfl, x3 _ _ hq, hP.ex x3, q30, fun r ys H4 x4 hr4 hr4' hys _ => ?_⟩
        refine ⟨r, rfl, ⟨_, SqL.of hr4'⟩, fun D1 hD1 => ?_⟩
        have ht4 := x4 _ _ ht3
        have ysl : ys.length ≤ 60 := by
          rw [hys.length_eq]
          unfold besL
          rw [List.length_append, List.length_map, List.length_map]
          have q1 := List.length_filter_le (fun q => decide (q.1 = c)) (qs.map (·.2))
          have q2 := List.length_filter_le (fun q => decide (q.2 = c)) (qs.map (·.2))
          rw [List.length_map] at q1 q2
          omega
        refine lc_it (walk_list (xs := ys.map V.str)) (fun i H' => Evl.Ex H4 H' ∧ H' D1 = some (.lst (((ys.take i).filter fun y => !decide (y ∈ t.2)).map V.str))) ⟨Evl.Ex.new hD1, upd_same⟩ (fun i H' _ hp => SqL.of (hp.1 _ _ hr4')) (fun i x H5 H6 hi hp hy => ?_) (fun H5 hp => ?_)
        · obtain ⟨x5, d1⟩ := hp
          obtain ⟨rfl, hx⟩ := hy
          rw [List.length_map] at hi
          obtain ⟨y, hyy⟩ := getD_of hi
          rw [List.getElem?_map, hyy] at hx
          cases hx
          refine ⟨rfl, _, rfl, _, rfl, t.1, _, rfl, .inl (SqL.of (x5 _ _ ht4)), rfl, flat_strs _, _, rfl, ?_⟩
          rw [in_strs]
          have tk : ys.take (i + 1) = ys.take i ++ [y] := by rw [List.take_add_one, hyy]; rfl
          refine ite2 (fun z => ?_) (fun z => ?_)
          · have z : (!decide (y ∈ t.2)) = true := by simpa using z
            refine ⟨_, rfl, _, d1, ?_, ex_upd x5 hD1, ?_⟩
            · rw [List.length_map]
              refine Nat.lt_of_le_of_lt (Nat.le_trans (List.length_filter_le _ _) (show _ ≤ 60 by rw [List.length_take]; omega)) (by decide)
            · rw [upd_same, tk, List.filter_append, List.map_append]
              have fz : [y].filter (fun y => !decide (y ∈ t.2)) = [y] := by simp at z; simp [z]
              rw [fz]
              rfl
          · have z : (!decide (y ∈ t.2)) = false := by simpa using z
            refine ⟨x5, ?_⟩
            rw [d1, tk, List.filter_append]
            have fz : [y].filter (fun y => !decide (y ∈ t.2)) = [] := by simp at z; simp [z]
            rw [fz, List.append_nil]
        · obtain ⟨x5, d1⟩ := hp
          rw [List.length_map, List.take_length] at d1
          generalize hF : (ys.filter fun y => !decide (y ∈ t.2)) = F at d1
          have Fl : F.length ≤ 60 := by rw [← hF]; exact Nat.le_trans (List.length_filter_le _ _) ysl
          have F1 : ∀ y ∈ F, Adj (qs.map (·.2)) c y ∧ y ∉ t.2 := fun y hy => by
            rw [← hF] at hy
            obtain ⟨h1, h2⟩ := List.mem_filter.mp hy
            exact ⟨besL_mem.mp (hys.mem_iff.mp h1), by simpa using h2⟩
          have F2 : ∀ y, Adj (qs.map (·.2)) c y → y ∉ t.2 → y ∈ F := fun y h1 h2 => by
            rw [← hF]
            exact List.mem_filter.mpr ⟨hys.mem_iff.mpr (besL_mem.mpr h1), by simpa using h2⟩
          have hDm : R0.map (·.2) ++ [t.2] = (R0 ++ [t]).map (·.2) := by rw [List.map_append]; rfl
          obtain ⟨D', wl⟩ := DInv.step T (W.rt b hb) pw (by rw [hDm]; exact D) hlast hcb F1 F2 Fl
          rw [hDm, hmm] at wl
          have x35 : Evl.Ex H3 H5 := x4.trans x5
          have f15 := x35 _ _ f1
          have f25 : RwAt H H5 (R0 ++ [t]) := fun u hu => ⟨x35 _ _ (f2 u hu).1, (f2 u hu).2⟩
          have xH5 : Evl.Ex H H5 := x3.trans x35
          refine ⟨_, rfl, .inl ⟨rfl, _, SqL.of f15⟩, _, rfl, D1, rfl, ⟨_, SqL.of d1⟩, fun D2 hD2 => ?_⟩
          have hD2H : H D2 = none := by
            cases q1 : H D2 with
            | none => rfl
            | some o => rw [xH5 _ _ q1] at hD2; cases hD2
          have t5 := (f25 t tm).1
          have tl30 := gt.len.2
          refine lc_it (walk_list (xs := F.map V.str)) (fun i H' => Evl.Ex H5 H' ∧ ∃ N : RwL, H' D2 = some (.lst (rwRefs N)) ∧ RwAt H H' N ∧ N.map (·.2) = (F.take i).map fun y => t.2 ++ [y]) ⟨Evl.Ex.new hD2, [], upd_same, fun u hu => absurd hu (by simp), rfl⟩ (fun i H' _ hp => SqL.of (hp.1 _ _ d1)) (fun i x H6 H7 hi hp hy => ?_) (fun H6 hp => ?_)
          · obtain ⟨x6, N, n1, n2, n3⟩ := hp
            obtain ⟨rfl, hx⟩ := hy
            rw [List.length_map] at hi
            obtain ⟨y, hyy⟩ := getD_of hi
            rw [List.getElem?_map, hyy] at hx
            cases hx
            have tk : F.take (i + 1) = F.take i ++ [y] := by rw [List.take_add_one, hyy]; rfl
            have t7 := x6 _ _ t5
            refine ⟨rfl, _, rfl, _, rfl, by show 1 ≤ sizeLine; decide, fun p hp => ⟨t.1, p, _, _, rfl, rfl, by rw [upd_ne (ne_of_none t7 hp)]; exact t7, upd_same, ?_, fun u hu => ?_⟩⟩
            · rw [List.length_map]
              exact Nat.le_trans (show t.2.length + 1 ≤ 31 by omega) (by decide)
            · have n1' := n1
              have hDp : D2 ≠ p := ne_of_none n1 hp
              have n4 : upd H7 p (.lst [.str y]) D2 = some (.lst (rwRefs N)) := by rw [upd_ne hDp]; exact n1
              have hDu : D2 ≠ u := ne_of_none n4 hu
              have huH : H u = none := by
                cases q1 : H u with
                | none => rfl
                | some o => rw [(Evl.Ex.new hp) _ _ (x6 _ _ (xH5 _ _ q1))] at hu; cases hu
              refine ⟨_, by rw [upd_ne hDu]; exact n4, ?_, ex_upd ((x6.trans (Evl.Ex.new hp)).trans (Evl.Ex.new hu)) hD2, N ++ [(u, t.2 ++ [y])], by unfold rwRefs; rw [upd_same, List.map_append]; rfl, fun z hz => ?_, by rw [List.map_append, n3, tk, List.map_append]; rfl⟩
              · have := congrArg List.length n3
                rw [List.length_map, List.length_map, List.length_take] at this
                unfold rwRefs
                rw [List.length_map]
                exact Nat.lt_of_le_of_lt (show N.length ≤ 60 by omega) (by decide)
              · rcases List.mem_append.mp hz with hz | hz
                · obtain ⟨z1, z2⟩ := n2 z hz
                  refine ⟨?_, z2⟩
                  have w1 : upd H7 p (.lst [.str y]) z.1 = some (.lst (z.2.map V.str)) := by rw [upd_ne (ne_of_none z1 hp)]; exact z1
                  rw [upd_ne (fun q9 => by
                    rw [q9, n1] at z1
                    have len := congrArg List.length n3
                    rw [List.length_map, List.length_map] at len
                    injection z1 with z1
                    injection z1 with z1
                    have hm : V.ref z.1 ∈ rwRefs N := List.mem_map.mpr ⟨z, hz, rfl⟩
                    rw [z1] at hm
                    obtain ⟨z9, _, e9⟩ := List.mem_map.mp hm
                    cases e9), upd_ne (ne_of_none w1 hu)]
                  exact w1
                · simp only [List.mem_singleton] at hz
                  subst hz
                  refine ⟨?_, huH⟩
                  rw [upd_ne hDu.symm, upd_same, List.map_append]
                  rfl
          · obtain ⟨x6, N, n1, n2, n3⟩ := hp
            rw [List.length_map, List.take_length] at n3
            have f16 := x6 _ _ f15
            have Rl := D.len h30
            rw [List.length_map, List.length_append, List.length_singleton] at Rl
            have Nl := congrArg List.length n3
            rw [List.length_map, List.length_map] at Nl
            refine ⟨ro, D2, _, _, rfl, rfl, f16, n1, ?_, ?_⟩
            · unfold rwRefs
              rw [List.length_map, List.length_map]
              exact Nat.le_trans (show _ ≤ 3000 by omega) (by decide)
            · have hmem : ∀ u ∈ R0 ++ N, (H6 u.1 = some (.lst (u.2.map V.str)) ∧ H u.1 = none) := fun u hu => by
                rcases List.mem_append.mp hu with hu | hu
                · have := f25 u (List.mem_append_left _ hu)
                  exact ⟨x6 _ _ this.1, this.2⟩
                · exact n2 u hu
              have hDm2 : (R0 ++ N).map (·.2) = R0.map (·.2) ++ F.map fun y => t.2 ++ [y] := by rw [List.map_append, n3]
              have nro : ∀ u ∈ R0 ++ N, u.1 ≠ ro := fun u hu z => by
                have h1 := (hmem u hu).1
                have h2 := (D'.good u.2 (by rw [← hDm2]; exact List.mem_map.mpr ⟨u, hu, rfl⟩)).len.1
                rw [z, f16] at h1
                injection h1 with h1
                injection h1 with h1
                cases hu2 : u.2 with
                | nil => rw [hu2] at h2; simp at h2
                | cons x9 y9 =>
                  rw [hu2] at h1
                  have h3 : V.str x9 ∈ rwRefs R0 := by rw [h1]; simp
                  obtain ⟨z9, _, e9⟩ := List.mem_map.mp h3
                  cases e9
              refine ⟨_, wl, R0 ++ N, _, _, _, by rw [hDm2], rfl, ex_upd (xH5.trans x6) hroH, by unfold rwRefs; rw [upd_same, List.map_append], fun u hu => ⟨by rw [upd_ne (nro u hu)]; exact (hmem u hu).1, (hmem u hu).2⟩, by rw [hDm2]; exact D'⟩
end
end K11

namespace K11
open PySem PySem.Spec PyProof.Rows L2 Tr Sq Dk Dt
/-! ### _law_v_keys -/
abbrev sKeys : Stmt := top 65
theorem min_ordP {a b : Str} (h : a ≠ b) : (if Srs.ltT b a then b else a) = (ordP (a, b)).1 ∧ (if Srs.ltT a b then b else a) = (ordP (a, b)).2 := by
  unfold ordP
  cases h1 : Srs.ltT a b with
  | true =>
    have := Srs.ltT_asym h1
    rw [this]
    simp
  | false =>
    cases h2 : Srs.ltT b a with
    | true => simp
    | false => exact absurd (Srs.ltT_tot h1 h2) h
abbrev rMinP (K : PySem.W.Frag) : List V → Hp → VK → Prop := fun xs H Q => ∃ (t : Addr) (x y : Str), xs = [.ref t] ∧ SqT K H t [.str x, .str y] ∧ Q (.str (if Srs.ltT y x then y else x)) H
abbrev rMaxP (K : PySem.W.Frag) : List V → Hp → VK → Prop := fun xs H Q => ∃ (t : Addr) (x y : Str), xs = [.ref t] ∧ SqT K H t [.str x, .str y] ∧ Q (.str (if Srs.ltT x y then y else x)) H
/-- two ascending orders of the same are one -/
theorem asc_one {a b : Prs} (h : a.Perm b) (h1 : a.Pairwise fun x y => Srs.lexT y x = false) (h2 : b.Pairwise fun x y => Srs.lexT y x = false) : a = b :=
  List.Perm.eq_of_pairwise (fun x y _ _ e1 e2 => Srs.lexT_tot e2 e1) h1 h2 h
def spKeys : Sp := fun vs H Q _ => ∃ (q : Addr) (qs : PrL) (ps : Prs), vs = [.ref q] ∧ H q = some (.lst (refsL qs)) ∧ PrsAt H qs ∧ (∀ t ∈ qs, t.2.1 ≠ t.2.2) ∧ qs.length ≤ 1000 ∧ ps.Perm ((qs.map (·.2)).map ordP) ∧ ps.Pairwise (fun x y => Srs.lexT y x = false) ∧
  ∀ (r : Addr) (zs : PrL) (H' : Hp), H r = none → Evl.Ex H H' → H' r = some (.lst (refsL zs)) → PrsAt H' zs → zs.map (·.2) = ps → Q (.ref r) H'
section
variable {P : Program} {w : World} {K : PySem.W.Frag} {mg : Str → Option Value} {base : Heap}
theorem scKeys : FnScope ["paths", "pair"] ["paths"] (defScope sKeys) := ⟨rfl, rfl, rfl, by decide +kernel, rfl, by decide +kernel, by decide +kernel⟩
theorem ok_keys {f : Addr} {fd : FuncData} (F : FnP K "_law_v_keys" sKeys f fd) (gS : mg "sorted" = none) (gMin : mg "min" = none) (gMax : mg "max" = none) : FnOk P w K mg base CX0 1 f fd ["paths"] spKeys := by
  refine F.ok scKeys (fun vs H Q E h => ?_) (fun cdv A outer s H vs Q E hr h => ?_)
  · obtain ⟨q, qs, ps, rfl, _⟩ := h
    rfl
  · obtain ⟨q, qs, ps, rfl, hq, hP, hd, h1k, hpp, hpw, k⟩ := h
    refine' ⟨_, PSs.nox (pss_one (ps_ret (pe_callB Srs.cr_sortedPT (by rfl) gS (by decide +kernel) (pa_cons ?lc pa_nil)))), ?rd⟩
    case lc =>
      refine pe_lc (own := [("pair", 1)]) (g := gName 1) (tt := tYes) (te := tTup (tCons (tCB (rMinP K) (tCons (tVar 1) tNil)) (tCons (tCB (rMaxP K) (tCons (tVar 1) tNil)) tNil))) rfl scKeys.nd (pi_list (pv 0))
        (blkOk_by (own := [("pair", 1)]) (N := ["paths", "pair"]) (sc := defScope sKeys) (by decide +kernel)) (fun _ _ _ _ _ => pg_name (i := 1) scKeys.nd rfl (.inl rfl)) (fun _ _ _ _ _ => pts_nil) ?_
      intro _ _ _ _ _
      exact pe_tup (pa_cons (pe_callB (call_minP rfl) (by rfl) gMin (by decide +kernel) (pa_cons (pv 1) pa_nil)) (pa_cons (pe_callB (call_maxP rfl) (by rfl) gMax (by decide +kernel) (pa_cons (pv 1) pa_nil)) pa_nil))
    have ql : (refsL qs).length = qs.length := by unfold refsL; rw [List.length_map]
    refine ⟨_, rfl, q, rfl, ⟨_, SqL.of hq⟩, fun D hD => ?_⟩
    refine lc_it (walk_list (xs := refsL qs)) (fun i H' => Evl.Ex H H' ∧ ∃ zs : PrL, H' D = some (.lst (refsL zs)) ∧ PrsAt H' zs ∧ zs.map (·.2) = ((qs.map (·.2)).take i).map ordP) ⟨Evl.Ex.new hD, [], upd_same, fun t ht => absurd ht (by simp), rfl⟩ (fun i H' _ hp => SqL.of (hp.1 _ _ hq)) (fun i x H1 H2 hi hp hy => ?_) (fun H1 hp => ?_)
    · obtain ⟨x1, zs, e1, e2, e3⟩ := hp
      obtain ⟨rfl, hx⟩ := hy
      unfold refsL at hi hx
      rw [List.length_map] at hi
      obtain ⟨t, ht⟩ := getD_of hi
      rw [List.getElem?_map, ht] at hx
      cases hx
      have tm := List.mem_of_getElem? ht
      obtain ⟨T, a, b⟩ := t
      have hT := x1 _ _ (hP _ tm)
      obtain ⟨m1, m2⟩ := min_ordP (hd _ tm : a ≠ b)
      have tk : (qs.map (·.2)).take (i + 1) = (qs.map (·.2)).take i ++ [(a, b)] := by rw [List.take_add_one, List.getElem?_map, ht]; rfl
      have zl : zs.length = i := by
        have := congrArg List.length e3
        rw [List.length_map, List.length_map, List.length_take, List.length_map] at this
        omega
      refine ⟨rfl, _, rfl, T, a, b, rfl, SqT.of hT, ?_⟩
      rw [m1]
      refine ⟨_, rfl, T, a, b, rfl, SqT.of hT, ?_⟩
      rw [m2]
      refine ⟨by show 2 ≤ sizeLine; decide, fun u hu => ?_⟩
      have hDu : D ≠ u := ne_of_none e1 hu
      refine ⟨_, by rw [upd_ne hDu]; exact e1, ?_, ex_upd (x1.trans (Evl.Ex.new hu)) hD, zs ++ [(u, ordP (a, b))], by rw [upd_same]; unfold refsL; rw [List.map_append]; rfl, fun t ht => ?_, ?_⟩
      · unfold refsL
        rw [List.length_map, zl]
        exact Nat.lt_of_le_of_lt (show i ≤ 1000 by omega) (by decide)
      · rcases List.mem_append.mp ht with ht | ht
        · have := e2 t ht
          rw [upd_ne (fun z => by rw [z, e1] at this; cases this), upd_ne (ne_of_none this hu)]
          exact this
        · rw [List.mem_singleton.mp ht, upd_ne hDu.symm]
          exact upd_same
      · rw [List.map_append, e3, tk, List.map_append]
        rfl
    · obtain ⟨x1, zs, e1, e2, e3⟩ := hp
      rw [ql, List.take_of_length_le (by rw [List.length_map]; exact Nat.le_refl _)] at e3
      refine ⟨D, refsL zs, prOf H1, rfl, SqL.of e1, fun x hx => ?_, fun ys p hys hsr hp => ?_⟩
      · obtain ⟨t, ht, rfl⟩ := List.mem_map.mp hx
        exact ⟨t.1, rfl, by rw [prOf_at (e2 t ht)]; exact e2 t ht⟩
      · obtain ⟨ws, hws, rfl⟩ := snd_refs hys
        have e2' : PrsAt H1 ws := fun t ht => e2 t (hws.mem_iff.mp ht)
        refine k p ws _ (none_of (fun o z => x1 _ _ z) hp) (x1.trans (Evl.Ex.new hp)) upd_same (e2'.ex (Evl.Ex.new hp)) ?_
        refine asc_one ?_ ?_ hpw
        · refine (hws.map _).trans ?_
          rw [e3]
          exact hpp.symm
        · rw [← prOf_refs e2']
          exact List.pairwise_map.mpr hsr
end
end K11

namespace K11
open PySem PySem.Spec PyProof.Rows L2 Sq Exs
/-! ### _law_same: of equal things -/
abbrev sSame : Stmt := top 60
def flatS : V → Bool
  | .non => true
  | .bl _ => true
  | .int _ => true
  | .str _ => true
  | _ => false
/-- a thing at the foot: flat, a list of such, an empty dict -/
def Shv (H : Hp) (v : V) : Prop := flatS v = true ∨ (∃ c zs, v = .ref c ∧ H c = some (.lst zs) ∧ (∀ z ∈ zs, flatS z = true) ∧ zs.length ≤ 1000) ∨ (∃ c, v = .ref c ∧ H c = some (.dK [])) ∨ ∃ c zs, v = .ref c ∧ H c = some (.tup zs) ∧ (∀ z ∈ zs, flatS z = true) ∧ zs.length ≤ 1000
theorem Shv.ex {H H' : Hp} {v : V} (h : Shv H v) (e : Evl.Ex H H') : Shv H' v := by
  rcases h with h | ⟨c, zs, h1, h2, h3, h4⟩ | ⟨c, h1, h2⟩ | ⟨c, zs, h1, h2, h3, h4⟩
  · exact .inl h
  · exact .inr (.inl ⟨c, zs, h1, e _ _ h2, h3, h4⟩)
  · exact .inr (.inr (.inl ⟨c, h1, e _ _ h2⟩))
  · exact .inr (.inr (.inr ⟨c, zs, h1, e _ _ h2, h3, h4⟩))
/-- equal and of the same kinds, to the depth n -/
def Sm (H : Hp) : Nat → V → V → Prop
  | 0, _, _ => False
  | n + 1, x, y => (flatS x = true ∧ x = y) ∨ (∃ a b xs ys, x = .ref a ∧ y = .ref b ∧ H a = some (.lst xs) ∧ H b = some (.lst ys) ∧ xs.length ≤ 1000 ∧ Paired (Sm H n) xs ys) ∨
    (∃ a b xs ys, x = .ref a ∧ y = .ref b ∧ Rd H a (.tup xs) ∧ H b = some (.tup ys) ∧ xs.length ≤ 1000 ∧ Paired (Sm H n) xs ys) ∨
    (∃ (a b : Addr) (ks : List (Key × V)), x = .ref a ∧ y = .ref b ∧ H a = some (.dK ks) ∧ H b = some (.dK ks) ∧ (∀ p ∈ ks, flatS p.2 = true ∨ (6 ≤ n ∧ Shv H p.2)) ∧ ks.length ≤ 1000 ∧ 3 ≤ n) ∨
    (∃ (a b : Addr) (ks : List (List Key × V)), x = .ref a ∧ y = .ref b ∧ H a = some (.dT ks) ∧ H b = some (.dT ks) ∧ (∀ p ∈ ks, flatS p.2 = true ∨ (7 ≤ n ∧ Shv H p.2)) ∧ (∀ p ∈ ks, p.1.length ≤ 1000) ∧ ks.length ≤ 1000 ∧ 4 ≤ n)
theorem flat_sm {H : Hp} {n : Nat} {x : V} (h : flatS x = true) : Sm H (n + 1) x x := .inl ⟨h, rfl⟩
theorem flat_kV (k : Key) : flatS (kV k) = true := by cases k <;> rfl
theorem Sm.ex {H H' : Hp} (e : Evl.Ex H H') : ∀ n x y, Sm H n x y → Sm H' n x y
  | 0, _, _, h => h
  | n + 1, x, y, h => by
    rcases h with h | ⟨a, b, xs, ys, h1, h2, h3, h4, h5, h6⟩ | ⟨a, b, xs, ys, h1, h2, h3, h4, h5, h6⟩ | ⟨a, b, ks, h1, h2, h3, h4, h5, h6, h7⟩ | ⟨a, b, ks, h1, h2, h3, h4, h5, h6, h7⟩
    · exact .inl h
    · exact .inr (.inl ⟨a, b, xs, ys, h1, h2, e _ _ h3, e _ _ h4, h5, Paired.mapP h6 fun _ _ z => Sm.ex e n _ _ z⟩)
    · exact .inr (.inr (.inl ⟨a, b, xs, ys, h1, h2, rdEx e h3, e _ _ h4, h5, Paired.mapP h6 fun _ _ z => Sm.ex e n _ _ z⟩))
    · exact .inr (.inr (.inr (.inl ⟨a, b, ks, h1, h2, e _ _ h3, e _ _ h4, (fun p hp => (h5 p hp).imp id fun z => ⟨z.1, z.2.ex e⟩), h6, h7⟩)))
    · exact .inr (.inr (.inr (.inr ⟨a, b, ks, h1, h2, e _ _ h3, e _ _ h4, (fun p hp => (h5 p hp).imp id fun z => ⟨z.1, z.2.ex e⟩), h6, h7⟩)))
theorem flats_sm {H : Hp} {n : Nat} : ∀ {zs : List V}, (∀ z ∈ zs, flatS z = true) → Paired (Sm H (n + 1)) zs zs
  | [], _ => .nil
  | z :: r, h => .cons (flat_sm (h z List.mem_cons_self)) (flats_sm fun y hy => h y (List.mem_cons_of_mem _ hy))
theorem shv_sm {H : Hp} {m : Nat} {v : V} (h : flatS v = true ∨ (3 ≤ m ∧ Shv H v)) : Sm H (m + 1) v v := by
  rcases h with h | ⟨hm, h | ⟨c, zs, rfl, h2, h3, h4⟩ | ⟨c, rfl, h2⟩ | ⟨c, zs, rfl, h2, h3, h4⟩⟩
  · exact flat_sm h
  · exact flat_sm h
  · obtain ⟨k, rfl⟩ : ∃ k, m = k + 1 := ⟨m - 1, by omega⟩
    exact .inr (.inl ⟨c, c, zs, zs, rfl, rfl, h2, h2, h4, flats_sm h3⟩)
  · exact .inr (.inr (.inr (.inl ⟨c, c, [], rfl, rfl, h2, h2, (fun p hp => by cases hp), by show 0 ≤ 1000; decide, hm⟩)))
  · obtain ⟨k, rfl⟩ : ∃ k, m = k + 1 := ⟨m - 1, by omega⟩
    exact .inr (.inr (.inl ⟨c, c, zs, zs, rfl, rfl, .inl h2, h2, h4, flats_sm h3⟩))
theorem items_sm {H2 H3 : Hp} {m : Nat} (e : Evl.Ex H2 H3) : ∀ {ks : List (Key × V)} {ts us : List Addr}, (∀ p ∈ ks, flatS p.2 = true ∨ (3 ≤ m ∧ Shv H3 p.2)) → Paired (fun t (q : Key × V) => H2 t = some (HO.tup [kV q.1, q.2])) ts ks → Paired (fun t (q : Key × V) => H3 t = some (HO.tup [kV q.1, q.2])) us ks → Paired (Sm H3 (m + 2)) (ts.map V.ref) (us.map V.ref)
  | [], _, _, _, .nil, .nil => .nil
  | k :: ks, _, _, hf, .cons a b, .cons c d => .cons (.inr (.inr (.inl ⟨_, _, _, _, rfl, rfl, .inl (e _ _ a), c, by show 2 ≤ 1000; decide, .cons (flat_sm (flat_kV _)) (.cons (shv_sm (hf k List.mem_cons_self)) .nil)⟩))) (items_sm e (fun p hp => hf p (List.mem_cons_of_mem _ hp)) b d)
theorem keys_sm {H : Hp} {n : Nat} : ∀ k : List Key, Paired (Sm H (n + 1)) (k.map kV) (k.map kV)
  | [] => .nil
  | x :: r => .cons (flat_sm (flat_kV x)) (keys_sm r)
theorem itemsT_sm {H2 H3 : Hp} {m : Nat} (e : Evl.Ex H2 H3) : ∀ {ks : List (List Key × V)} {ts us : List Addr}, (∀ p ∈ ks, flatS p.2 = true ∨ (3 ≤ m ∧ Shv H3 p.2)) → (∀ p ∈ ks, p.1.length ≤ 1000) → Paired (Dt.EntT H2) ts ks → Paired (Dt.EntT H3) us ks → Paired (Sm H3 (m + 3)) (ts.map V.ref) (us.map V.ref)
  | [], _, _, _, _, .nil, .nil => .nil
  | k :: ks, _, _, hf, hl, .cons a b, .cons c d => by
    obtain ⟨x, a1, a2⟩ := a
    obtain ⟨y, c1, c2⟩ := c
    refine .cons (.inr (.inr (.inl ⟨_, _, _, _, rfl, rfl, .inl (e _ _ a1), c1, by show 2 ≤ 1000; decide, .cons ?_ (.cons (shv_sm ((hf k List.mem_cons_self).imp id fun z => ⟨by omega, z.2⟩)) .nil)⟩))) (itemsT_sm e (fun p hp => hf p (List.mem_cons_of_mem _ hp)) (fun p hp => hl p (List.mem_cons_of_mem _ hp)) b d)
    exact .inr (.inr (.inl ⟨x, y, _, _, rfl, rfl, .inl (e _ _ a2), c2, by rw [List.length_map]; exact hl k List.mem_cons_self, keys_sm k.1⟩))
def spSame (n : Nat) : Sp := fun vs H Q _ => ∃ x y : V, vs = [x, y] ∧ Sm H n x y ∧ ∀ H', Evl.Ex H H' → Q (.bl true) H'
section
variable {P : Program} {w : World} {K : PySem.W.Frag} {mg : Str → Option Value} {base : Heap}
theorem scSame : FnScope ["found", "due", "x", "y"] ["found", "due"] (defScope sSame) := ⟨rfl, rfl, rfl, by decide +kernel, rfl, by decide +kernel, by decide +kernel⟩
theorem ok_same {f : Addr} {fd : FuncData} (F : FnP K "_law_same" sSame f fd) (g : mg "_law_same" = some (.ref f)) (gI : mg "int" = none) (gB : mg "bool" = none) (gL : mg "list" = none) (gT : mg "tuple" = none) (gD : mg "dict" = none) (gS : mg "isinstance" = none) (gLen : mg "len" = none) (gA : mg "all" = none) (gZ : mg "zip" = none) :
    ∀ n, FnOk P w K mg base CX0 n f fd ["found", "due"] (spSame n)
  | 0 => ⟨fun vs H Q E h => by obtain ⟨x, y, _, h, _⟩ := h; exact h.elim, fun A outer s H args us vs Q E _ _ _ _ h => by obtain ⟨x, y, _, h, _⟩ := h; exact h.elim⟩
  | n + 1 => by
    have ih : FnOk P w K mg base CX0 n f fd ["found", "due"] (spSame n) := ok_same F g gI gB gL gT gD gS gLen gA gZ n
    have bS : L2.Binds K fd ["found", "due"] [] := F.bindsN fun _ _ _ _ _ _ us hl => match us, hl with | [_, _], _ => rfl
    refine F.ok scSame (fun vs H Q E h => ?_) (fun cdv A outer s H vs Q E hr h => ?_)
    · obtain ⟨x, y, rfl, _⟩ := h
      rfl
    · obtain ⟨x, y, rfl, hs, k⟩ := h
      refine' ⟨_, PSs.nox (pss_cons (ps_if (pt_val (pe_callB call_isiT (by rfl) gS (by decide +kernel) (pa_cons (pv 1) (pa_cons (pe_tup (pa_cons (pe_bltn (v := .ty "list") rfl gL (by decide +kernel) rfl) (pa_cons (pe_bltn (v := .ty "tuple") rfl gT (by decide +kernel) rfl) pa_nil))) pa_nil))))
          (pss_cons (ps_if (PW.pt (pw_or (pt_cmpR op_ne (pe_callB call_isi (by rfl) gS (by decide +kernel) (pa_cons (pv 0) (pa_cons (pe_bltn (v := .ty "list") rfl gL (by decide +kernel) rfl) pa_nil))) (pe_callB call_isi (by rfl) gS (by decide +kernel) (pa_cons (pv 1) (pa_cons (pe_bltn (v := .ty "list") rfl gL (by decide +kernel) rfl) pa_nil))) (nomark _))
              (pw_or1 (pt_cmpR op_ne (pe_callB call_isi (by rfl) gS (by decide +kernel) (pa_cons (pv 0) (pa_cons (pe_bltn (v := .ty "tuple") rfl gT (by decide +kernel) rfl) pa_nil))) (pe_callB call_isi (by rfl) gS (by decide +kernel) (pa_cons (pv 1) (pa_cons (pe_bltn (v := .ty "tuple") rfl gT (by decide +kernel) rfl) pa_nil))) (nomark _))))) (pss_one (ps_ret pe_bl)) pss_nil)
          (pss_one (ps_ret (pe_and (pe_cmpR op_eq (pe_callB call_len_seq (by rfl) gLen PySem.boot_len (pa_cons (pv 0) pa_nil)) (pe_callB call_len_seq (by rfl) gLen PySem.boot_len (pa_cons (pv 1) pa_nil)) (nomark _)) (pe_one (pe_callB (cr_all rfl) (by rfl) gA (by decide +kernel) (pa_cons ?lc pa_nil))))))) pss_nil)
        (pss_cons (ps_if (pt_val (pe_callB call_isi (by rfl) gS (by decide +kernel) (pa_cons (pv 1) (pa_cons (pe_bltn (v := .ty "dict") rfl gD (by decide +kernel) rfl) pa_nil))))
          (pss_one (ps_ret (pe_and (pe_callB call_isi (by rfl) gS (by decide +kernel) (pa_cons (pv 0) (pa_cons (pe_bltn (v := .ty "dict") rfl gD (by decide +kernel) rfl) pa_nil))) (pe_one (pe_call ih hr rfl g F.kp bS .nil pass0 (pa_cons (Dt.pe_or (LiI.pe_listItems rfl (pv 0) (by rfl) gL (by decide +kernel)) (Dt.pe_listItemsT rfl (pv 0) (by rfl) gL (by decide +kernel))) (pa_cons (Dt.pe_or (LiI.pe_listItems rfl (pv 1) (by rfl) gL (by decide +kernel)) (Dt.pe_listItemsT rfl (pv 1) (by rfl) gL (by decide +kernel))) pa_nil))))))) pss_nil)
        (pss_cons (ps_if (pt_val (pe_callB call_isi (by rfl) gS (by decide +kernel) (pa_cons (pv 1) (pa_cons (pe_bltn (v := .ty "int") rfl gI (by decide +kernel) rfl) pa_nil))))
          (pss_one (ps_ret (pe_and (pe_callB call_isi (by rfl) gS (by decide +kernel) (pa_cons (pv 0) (pa_cons (pe_bltn (v := .ty "int") rfl gI (by decide +kernel) rfl) pa_nil)))
            (pe_and (pe_cmpR op_eq (pe_callB call_isi (by rfl) gS (by decide +kernel) (pa_cons (pv 0) (pa_cons (pe_bltn (v := .ty "bool") rfl gB (by decide +kernel) rfl) pa_nil))) (pe_callB call_isi (by rfl) gS (by decide +kernel) (pa_cons (pv 1) (pa_cons (pe_bltn (v := .ty "bool") rfl gB (by decide +kernel) rfl) pa_nil))) (nomark _))
            (pe_one (pe_cmpR op_eq (pv 0) (pv 1) (nomark _))))))) pss_nil)
        (pss_one (ps_ret (pe_and (pe_not (pe_callB call_isiT (by rfl) gS (by decide +kernel) (pa_cons (pv 0) (pa_cons (pe_tup (pa_cons (pe_bltn (v := .ty "int") rfl gI (by decide +kernel) rfl) (pa_cons (pe_bltn (v := .ty "list") rfl gL (by decide +kernel) rfl) (pa_cons (pe_bltn (v := .ty "tuple") rfl gT (by decide +kernel) rfl) (pa_cons (pe_bltn (v := .ty "dict") rfl gD (by decide +kernel) rfl) pa_nil))))) pa_nil))))
          (pe_one (pe_cmpR op_eq (pv 0) (pv 1) (nomark _))))))))), ?rd⟩
      case lc =>
        refine pe_lc (own := [("x", 2), ("y", 3)]) (g := gTup K 2 (gCons (gName 2) (gCons (gName 3) gNil))) (tt := tYes) (te := tCall (spSame n) [] E0 (tCons (tVar 2) (tCons (tVar 3) tNil))) rfl scSame.nd (pi_zip2 (by rfl) gZ (pa_cons (pv 0) (pa_cons (pv 1) pa_nil)))
          (blkOk_by (own := [("x", 2), ("y", 3)]) (N := ["found", "due", "x", "y"]) (sc := defScope sSame) (by decide +kernel)) (fun _ _ _ _ _ => pg_tup rfl (pgs_cons (pg_name (i := 2) scSame.nd rfl (.inl rfl)) (pgs_cons (pg_name (i := 3) scSame.nd rfl (.inl rfl)) pgs_nil))) (fun _ _ _ _ _ => pts_nil) ?_
        intro _ _ _ _ _
        exact pe_call ih hr rfl g F.kp bS .nil pass0 (pa_cons (pv 2) (pa_cons (pv 3) pa_nil))
      rcases hs with ⟨hf, rfl⟩ | ⟨a, b, xs, ys, rfl, rfl, ha, hb, hl, hp⟩ | ⟨a, b, xs, ys, rfl, rfl, ha, hb, hl, hp⟩ | ⟨a, b, ks, rfl, rfl, ha, hb, hfl, hkl, hn⟩ | ⟨a, b, ks, rfl, rfl, ha, hb, hfl, hk1, hkl, hn⟩
      · cases x with
        | non =>
          refine ⟨_, rfl, by show 2 ≤ sizeLine; decide, fun t ht => ?_⟩
          have e1 := Evl.Ex.new (o := .tup [V.ty "list", V.ty "tuple"]) ht
          have px : Pl (upd H t (.tup [V.ty "list", V.ty "tuple"])) .non "NoneType" := .non
          refine ⟨_, _, _, _, _, _, rfl, upd_same, cls_tys ["list", "tuple"], px.ty, px.any ["list", "tuple"] (by decide), _, rfl, iteF ?_⟩
          refine ⟨_, rfl, _, _, _, _, _, rfl, .ty _, px.ty, px.one "dict", _, rfl, iteF ?_⟩
          refine ⟨_, rfl, _, _, _, _, _, rfl, .ty _, px.ty, px.one "int", _, rfl, iteF ?_⟩
          refine ⟨_, rfl, by show 4 ≤ sizeLine; decide, fun t2 ht2 => ?_⟩
          have e2 := Evl.Ex.new (o := .tup [V.ty "int", V.ty "list", V.ty "tuple", V.ty "dict"]) ht2
          refine ⟨_, _, _, _, _, _, rfl, upd_same, cls_tys ["int", "list", "tuple", "dict"], (px.ext e2).ty, (px.ext e2).any ["int", "list", "tuple", "dict"] (by decide), _, rfl, _, rfl, iteT ?_⟩
          refine ⟨_, rfl, _, rfl, rfl, ?_⟩
          rw [decide_eq_true (rfl : (.non : V) = .non)]
          exact k _ (e1.trans e2)
        | bl z =>
          refine ⟨_, rfl, by show 2 ≤ sizeLine; decide, fun t ht => ?_⟩
          have e1 := Evl.Ex.new (o := .tup [V.ty "list", V.ty "tuple"]) ht
          have px : Pl (upd H t (.tup [V.ty "list", V.ty "tuple"])) (.bl z) "bool" := .bl z
          refine ⟨_, _, _, _, _, _, rfl, upd_same, cls_tys ["list", "tuple"], px.ty, px.any ["list", "tuple"] (by decide), _, rfl, iteF ?_⟩
          refine ⟨_, rfl, _, _, _, _, _, rfl, .ty _, px.ty, px.one "dict", _, rfl, iteF ?_⟩
          refine ⟨_, rfl, _, _, _, _, _, rfl, .ty _, px.ty, px.one "int", _, rfl, iteT ?_⟩
          refine ⟨_, rfl, _, _, _, _, _, rfl, .ty _, px.ty, px.one "int", _, rfl, iteT ?_⟩
          refine ⟨_, rfl, _, _, _, _, _, rfl, .ty _, px.ty, px.one "bool", _, rfl, _, _, _, _, _, rfl, .ty _, px.ty, px.one "bool", rfl, _, rfl, iteT ?_⟩
          refine ⟨_, rfl, _, rfl, rfl, ?_⟩
          rw [decide_eq_true (rfl : ((.bl z) : V) = (.bl z))]
          exact k _ e1
        | int z =>
          refine ⟨_, rfl, by show 2 ≤ sizeLine; decide, fun t ht => ?_⟩
          have e1 := Evl.Ex.new (o := .tup [V.ty "list", V.ty "tuple"]) ht
          have px : Pl (upd H t (.tup [V.ty "list", V.ty "tuple"])) (.int z) "int" := .int z
          refine ⟨_, _, _, _, _, _, rfl, upd_same, cls_tys ["list", "tuple"], px.ty, px.any ["list", "tuple"] (by decide), _, rfl, iteF ?_⟩
          refine ⟨_, rfl, _, _, _, _, _, rfl, .ty _, px.ty, px.one "dict", _, rfl, iteF ?_⟩
          refine ⟨_, rfl, _, _, _, _, _, rfl, .ty _, px.ty, px.one "int", _, rfl, iteT ?_⟩
          refine ⟨_, rfl, _, _, _, _, _, rfl, .ty _, px.ty, px.one "int", _, rfl, iteT ?_⟩
          refine ⟨_, rfl, _, _, _, _, _, rfl, .ty _, px.ty, px.one "bool", _, rfl, _, _, _, _, _, rfl, .ty _, px.ty, px.one "bool", rfl, _, rfl, iteT ?_⟩
          refine ⟨_, rfl, _, rfl, rfl, ?_⟩
          rw [decide_eq_true (rfl : ((.int z) : V) = (.int z))]
          exact k _ e1
        | str z =>
          refine ⟨_, rfl, by show 2 ≤ sizeLine; decide, fun t ht => ?_⟩
          have e1 := Evl.Ex.new (o := .tup [V.ty "list", V.ty "tuple"]) ht
          have px : Pl (upd H t (.tup [V.ty "list", V.ty "tuple"])) (.str z) "str" := .str z
          refine ⟨_, _, _, _, _, _, rfl, upd_same, cls_tys ["list", "tuple"], px.ty, px.any ["list", "tuple"] (by decide), _, rfl, iteF ?_⟩
          refine ⟨_, rfl, _, _, _, _, _, rfl, .ty _, px.ty, px.one "dict", _, rfl, iteF ?_⟩
          refine ⟨_, rfl, _, _, _, _, _, rfl, .ty _, px.ty, px.one "int", _, rfl, iteF ?_⟩
          refine ⟨_, rfl, by show 4 ≤ sizeLine; decide, fun t2 ht2 => ?_⟩
          have e2 := Evl.Ex.new (o := .tup [V.ty "int", V.ty "list", V.ty "tuple", V.ty "dict"]) ht2
          refine ⟨_, _, _, _, _, _, rfl, upd_same, cls_tys ["int", "list", "tuple", "dict"], (px.ext e2).ty, (px.ext e2).any ["int", "list", "tuple", "dict"] (by decide), _, rfl, _, rfl, iteT ?_⟩
          refine ⟨_, rfl, _, rfl, rfl, ?_⟩
          rw [decide_eq_true (rfl : ((.str z) : V) = (.str z))]
          exact k _ (e1.trans e2)
        | _ => cases hf
      · refine ⟨_, rfl, by show 2 ≤ sizeLine; decide, fun t ht => ?_⟩
        have e1 := Evl.Ex.new (o := .tup [V.ty "list", V.ty "tuple"]) ht
        have pa : Pl (upd H t (.tup [V.ty "list", V.ty "tuple"])) (.ref a) "list" := .lst (e1 _ _ ha)
        have pb : Pl (upd H t (.tup [V.ty "list", V.ty "tuple"])) (.ref b) "list" := .lst (e1 _ _ hb)
        refine ⟨_, _, _, _, _, _, rfl, upd_same, cls_tys ["list", "tuple"], pb.ty, pb.any ["list", "tuple"] (by decide), _, rfl, iteT ?_⟩
        refine ⟨_, rfl, _, _, _, _, _, rfl, .ty _, pa.ty, pa.one "list", _, rfl, _, _, _, _, _, rfl, .ty _, pb.ty, pb.one "list", rfl, _, rfl, iteF ?_⟩
        refine ⟨_, rfl, _, _, _, _, _, rfl, .ty _, pa.ty, pa.one "tuple", _, rfl, _, _, _, _, _, rfl, .ty _, pb.ty, pb.one "tuple", rfl, _, rfl, iteF ?_⟩
        refine ⟨_, rfl, a, _, rfl, .inl (SqL.of (e1 _ _ ha)), _, rfl, b, _, rfl, .inl (SqL.of (e1 _ _ hb)), rfl, _, rfl, ?_⟩
        have hlen : xs.length = ys.length := hp.length
        refine ite2 (fun _ => ?_) (fun z => absurd (decide_eq_true (by rw [hlen])) z)
        refine ⟨_, rfl, _, rfl, false, false, a, b, xs, ys, rfl, SqL.of (e1 _ _ ha), SqL.of (e1 _ _ hb), fun D hD => ?_⟩
        refine lc_it (walk_zip2 (t1 := false) (t2 := false) (xs := xs) (ys := ys) (n := xs.length) (by rw [hlen, Nat.min_self])) (fun i H' => Evl.Ex (upd H t (.tup [V.ty "list", V.ty "tuple"])) H' ∧ H' D = some (.lst ((List.replicate i true).map V.bl))) ⟨Evl.Ex.new hD, upd_same⟩ ?_ ?_ ?_
        · rintro i H' _ ⟨e2, _⟩
          exact ⟨SqL.of (e2 _ _ (e1 _ _ ha)), SqL.of (e2 _ _ (e1 _ _ hb))⟩
        · rintro i z H' H'' hi ⟨e2, g2⟩ ⟨T, u, v, rfl, hT, rfl, hu, hv⟩
          replace hu : xs[i]? = some u := hu
          replace hv : ys[i]? = some v := hv
          obtain ⟨v', hv', hsm⟩ := paired_get hp hu
          rw [hv] at hv'
          cases hv'
          have e3 := e2.trans (Evl.Ex.new (o := .tup [u, v]) hT)
          refine ⟨T, _, rfl, SqT.of upd_same, rfl, _, _, rfl, _, _, rfl, rfl, rfl, ?_⟩
          refine ⟨_, rfl, _, rfl, u, v, rfl, Sm.ex (e1.trans e3) n u v hsm, fun H3 e4 => ?_⟩
          have g3 := e4 _ _ ((Evl.Ex.new (o := .tup [u, v]) hT) _ _ g2)
          refine ⟨_, g3, ?_, (e3.trans e4).mut hD, ?_⟩
          · rw [sizeLine_eq, List.length_map, List.length_replicate]
            omega
          · rw [upd_same, List.replicate_succ', List.map_append]
            rfl
        · rintro H' ⟨e2, g2⟩
          refine ⟨D, _, rfl, SqL.of g2, ?_⟩
          rw [List.all_replicate]
          have : (if xs.length = 0 then true else id true) = true := by split <;> rfl
          first | (rw [this]; exact k H' (e1.trans e2)) | (simp; exact k H' (e1.trans e2))
      · refine ⟨_, rfl, by show 2 ≤ sizeLine; decide, fun t ht => ?_⟩
        have e1 := Evl.Ex.new (o := .tup [V.ty "list", V.ty "tuple"]) ht
        have pa : Pl (upd H t (.tup [V.ty "list", V.ty "tuple"])) (.ref a) "tuple" := .rdt (rdEx e1 ha)
        have pb : Pl (upd H t (.tup [V.ty "list", V.ty "tuple"])) (.ref b) "tuple" := .tup (e1 _ _ hb)
        refine ⟨_, _, _, _, _, _, rfl, upd_same, cls_tys ["list", "tuple"], pb.ty, pb.any ["list", "tuple"] (by decide), _, rfl, iteT ?_⟩
        refine ⟨_, rfl, _, _, _, _, _, rfl, .ty _, pa.ty, pa.one "list", _, rfl, _, _, _, _, _, rfl, .ty _, pb.ty, pb.one "list", rfl, _, rfl, iteF ?_⟩
        refine ⟨_, rfl, _, _, _, _, _, rfl, .ty _, pa.ty, pa.one "tuple", _, rfl, _, _, _, _, _, rfl, .ty _, pb.ty, pb.one "tuple", rfl, _, rfl, iteF ?_⟩
        refine ⟨_, rfl, a, _, rfl, .inr (.inl (rdEx e1 ha)), _, rfl, b, _, rfl, .inr (SqT.of (e1 _ _ hb)), rfl, _, rfl, ?_⟩
        have hlen : xs.length = ys.length := hp.length
        refine ite2 (fun _ => ?_) (fun z => absurd (decide_eq_true (by rw [hlen])) z)
        refine ⟨_, rfl, _, rfl, true, true, a, b, xs, ys, rfl, .inl (rdEx e1 ha), SqT.of (e1 _ _ hb), fun D hD => ?_⟩
        refine lc_it (walk_zip2 (t1 := true) (t2 := true) (xs := xs) (ys := ys) (n := xs.length) (by rw [hlen, Nat.min_self])) (fun i H' => Evl.Ex (upd H t (.tup [V.ty "list", V.ty "tuple"])) H' ∧ H' D = some (.lst ((List.replicate i true).map V.bl))) ⟨Evl.Ex.new hD, upd_same⟩ ?_ ?_ ?_
        · rintro i H' _ ⟨e2, _⟩
          exact ⟨.inl (rdEx (e1.trans e2) ha), SqT.of (e2 _ _ (e1 _ _ hb))⟩
        · rintro i z H' H'' hi ⟨e2, g2⟩ ⟨T, u, v, rfl, hT, rfl, hu, hv⟩
          replace hu : xs[i]? = some u := hu
          replace hv : ys[i]? = some v := hv
          obtain ⟨v', hv', hsm⟩ := paired_get hp hu
          rw [hv] at hv'
          cases hv'
          have e3 := e2.trans (Evl.Ex.new (o := .tup [u, v]) hT)
          refine ⟨T, _, rfl, SqT.of upd_same, rfl, _, _, rfl, _, _, rfl, rfl, rfl, ?_⟩
          refine ⟨_, rfl, _, rfl, u, v, rfl, Sm.ex (e1.trans e3) n u v hsm, fun H3 e4 => ?_⟩
          have g3 := e4 _ _ ((Evl.Ex.new (o := .tup [u, v]) hT) _ _ g2)
          refine ⟨_, g3, ?_, (e3.trans e4).mut hD, ?_⟩
          · rw [sizeLine_eq, List.length_map, List.length_replicate]
            omega
          · rw [upd_same, List.replicate_succ', List.map_append]
            rfl
        · rintro H' ⟨e2, g2⟩
          refine ⟨D, _, rfl, SqL.of g2, ?_⟩
          rw [List.all_replicate]
          have : (if xs.length = 0 then true else id true) = true := by split <;> rfl
          first | (rw [this]; exact k H' (e1.trans e2)) | (simp; exact k H' (e1.trans e2))
      · refine ⟨_, rfl, by show 2 ≤ sizeLine; decide, fun t ht => ?_⟩
        have e1 := Evl.Ex.new (o := .tup [V.ty "list", V.ty "tuple"]) ht
        have pa : Pl (upd H t (.tup [V.ty "list", V.ty "tuple"])) (.ref a) "dict" := .dic (e1 _ _ ha)
        have pb : Pl (upd H t (.tup [V.ty "list", V.ty "tuple"])) (.ref b) "dict" := .dic (e1 _ _ hb)
        refine ⟨_, _, _, _, _, _, rfl, upd_same, cls_tys ["list", "tuple"], pb.ty, pb.any ["list", "tuple"] (by decide), _, rfl, iteF ?_⟩
        refine ⟨_, rfl, _, _, _, _, _, rfl, .ty _, pb.ty, pb.one "dict", _, rfl, iteT ?_⟩
        refine ⟨_, rfl, _, _, _, _, _, rfl, .ty _, pa.ty, pa.one "dict", _, rfl, iteT ?_⟩
        refine Or.inl ⟨_, rfl, a, ks, rfl, e1 _ _ ha, fun H2 p ts e2 hp1 hp2 hp3 g2 hpr => ?_⟩
        refine Or.inl ⟨_, rfl, b, ks, rfl, e2 _ _ (e1 _ _ hb), fun H3 q us e3 hq1 hq2 hq3 g3 hqr => ?_⟩
        obtain ⟨m, rfl⟩ : ∃ m, n = m + 3 := ⟨n - 3, by omega⟩
        exact ⟨_, _, rfl, .inr (.inl ⟨p, q, ts.map V.ref, us.map V.ref, rfl, rfl, e3 _ _ g2, g3, by rw [List.length_map, Paired.length hpr]; exact hkl, items_sm e3 (fun p hp => (hfl p hp).imp id fun z => ⟨by omega, z.2.ex (e1.trans ((show Evl.Ex _ H2 from e2).trans (show Evl.Ex H2 H3 from e3)))⟩) hpr hqr⟩), fun H4 e4 => k H4 (e1.trans ((show Evl.Ex _ H2 from e2).trans ((show Evl.Ex H2 H3 from e3).trans e4)))⟩
      · refine ⟨_, rfl, by show 2 ≤ sizeLine; decide, fun t ht => ?_⟩
        have e1 := Evl.Ex.new (o := .tup [V.ty "list", V.ty "tuple"]) ht
        have pa : Pl (upd H t (.tup [V.ty "list", V.ty "tuple"])) (.ref a) "dict" := .dct (e1 _ _ ha)
        have pb : Pl (upd H t (.tup [V.ty "list", V.ty "tuple"])) (.ref b) "dict" := .dct (e1 _ _ hb)
        refine ⟨_, _, _, _, _, _, rfl, upd_same, cls_tys ["list", "tuple"], pb.ty, pb.any ["list", "tuple"] (by decide), _, rfl, iteF ?_⟩
        refine ⟨_, rfl, _, _, _, _, _, rfl, .ty _, pb.ty, pb.one "dict", _, rfl, iteT ?_⟩
        refine ⟨_, rfl, _, _, _, _, _, rfl, .ty _, pa.ty, pa.one "dict", _, rfl, iteT ?_⟩
        refine Or.inr ⟨_, rfl, a, ks, rfl, e1 _ _ ha, fun H2 p ts e2 hp1 hp2 hp3 g2 hpr => ?_⟩
        refine Or.inr ⟨_, rfl, b, ks, rfl, e2 _ _ (e1 _ _ hb), fun H3 q us e3 hq1 hq2 hq3 g3 hqr => ?_⟩
        obtain ⟨m, rfl⟩ : ∃ m, n = m + 4 := ⟨n - 4, by omega⟩
        exact ⟨_, _, rfl, .inr (.inl ⟨p, q, ts.map V.ref, us.map V.ref, rfl, rfl, e3 _ _ g2, g3, by rw [List.length_map, Paired.length hpr]; exact hkl, itemsT_sm e3 (fun p hp => (hfl p hp).imp id fun z => ⟨by omega, z.2.ex (e1.trans ((show Evl.Ex _ H2 from e2).trans (show Evl.Ex H2 H3 from e3)))⟩) hk1 hpr hqr⟩), fun H4 e4 => k H4 (e1.trans ((show Evl.Ex _ H2 from e2).trans ((show Evl.Ex H2 H3 from e3).trans e4)))⟩
end
end K11

/-! xs.count(text); sorted lists of texts are one; dict of pairs. Law-independent. -/
namespace Dk
open PySem PySem.Spec PyProof.Rows L2
def eqs (z : Str) (v : Value) : Bool := match v with
  | .str y _ => y == z
  | _ => false
theorem eqs_at {z : Str} {t : Tok} {A : Around} {s : Shared} : ∀ {ys : List Str} {us : List Value}, Vals (ys.map V.str) us → ∀ y ∈ us, SeqAt.EqAt A s y (.str z t) (eqs z y)
  | [], _, .nil, y, hy => by cases hy
  | a :: r, _, .cons h1 h2, y, hy => by
    rcases List.mem_cons.mp hy with e | e
    · obtain ⟨u, hu⟩ := h1
      rw [e, hu]
      exact SeqAt.EqAt.str_str a u z t
    · exact eqs_at h2 y e
theorem eqs_count {z : Str} : ∀ {ys : List Str} {us : List Value}, Vals (ys.map V.str) us → us.countP (eqs z) = ys.count z
  | [], _, .nil => rfl
  | a :: r, _, .cons h1 h2 => by
    obtain ⟨u, rfl⟩ := h1
    have ih := eqs_count (z := z) h2
    rw [List.countP_cons, List.count_cons, ih] <;> rfl
theorem paired_app {α β : Type} {R : α → β → Prop} : ∀ {xs : List α} {ys : List β} {zs : List α} {ws : List β}, Paired R xs ys → Paired R zs ws → Paired R (xs ++ zs) (ys ++ ws)
  | [], [], _, _, .nil, h => h
  | _ :: _, _ :: _, _, _, .cons a b, h => .cons a (paired_app b h)
def rCntS (K : PySem.W.Frag) : V → List V → Hp → VK → Prop := fun x xs H Q => ∃ (p : Addr) (ys : List Str) (z : Str), x = .ref p ∧ xs = [.str z] ∧ SqL K H p (ys.map V.str) ∧ Q (.int (ys.count z : Nat)) H
theorem mt_lcountS {X : Cx} : MtR X "list.count" (rCntS X.K) := by
  intro pins s σ H x xs v us Q I rx rxs h
  obtain ⟨p, ys, z, rfl, rfl, hs, q⟩ := h
  cases rx
  obtain ⟨u, rfl, ru⟩ := rxs.one
  obtain ⟨t, rfl⟩ := ru
  obtain ⟨its, rv, ⟨⟨cls, dd, data, sl⟩, n, ho, hc, hdn, hd⟩, hlen⟩ := I.list hs
  simp only at hc hd
  subst hc hd
  refine call_meets PySem.F.slot_list_count ⟨_, ho, rfl⟩ PySem.F.entry_list_count (PySem.F.args_list_count_2 _ _)
    (SeqAt.list_countAt p its.toArray n dd sl (.str z t) (eqs z)) ⟨ho, fun y hy => eqs_at rv y (by simpa using hy), ?_⟩
  have ec : its.toArray.toList.countP (eqs z) = ys.count z := eqs_count rv
  refine ⟨.int (ys.count z : Nat), H, I.tok _, ⟨s.toks, ?_⟩, q⟩
  show Value.int ((its.toArray.toList.countP (eqs z) : Nat) : Int) s.toks = _
  rw [ec]
theorem sorted_pw : ∀ {l : List Str}, sortedS l = true → l.Pairwise fun a b => Srs.ltT b a = false
  | [], _ => .nil
  | [a], _ => .cons (fun _ h => by simp at h) .nil
  | a :: b :: r, h => by
    unfold sortedS at h
    obtain ⟨h1, h2⟩ := Bool.and_eq_true_iff.mp h
    have ih := sorted_pw (l := b :: r) h2
    have hab : Srs.ltT b a = false := by
      rw [ltCps_eq] at h1
      simpa [Srs.ltT] using h1
    refine .cons (fun c hc => ?_) ih
    rcases List.mem_cons.mp hc with rfl | hc
    · exact hab
    · have hbc := (List.pairwise_cons.mp ih).1 c hc
      cases h3 : Srs.ltT c a with
      | false => rfl
      | true =>
        exfalso
        cases h4 : Srs.ltT a b with
        | true =>
          rw [Srs.ltT_tr h3 h4] at hbc
          cases hbc
        | false =>
          have := Srs.ltT_tot h4 hab
          subst this
          rw [h3] at hbc
          cases hbc
theorem sorted_one : ∀ {l m : List Str}, l.Pairwise (fun a b => Srs.ltT b a = false) → m.Pairwise (fun a b => Srs.ltT b a = false) → l.Perm m → l = m
  | [], m, _, _, p => (List.Perm.nil_eq p)
  | a :: r, [], _, _, p => by have := p.length_eq; simp at this
  | a :: r, b :: t, h1, h2, p => by
    have e : a = b := by
      have ha := p.mem_iff.mp (List.mem_cons_self (a := a) (l := r))
      have hb := p.mem_iff.mpr (List.mem_cons_self (a := b) (l := t))
      rcases List.mem_cons.mp ha with e | ha
      · exact e
      · rcases List.mem_cons.mp hb with e | hb
        · exact e.symm
        · exact Srs.ltT_tot ((List.pairwise_cons.mp h2).1 a ha) ((List.pairwise_cons.mp h1).1 b hb)
    subst e
    rw [sorted_one (List.pairwise_cons.mp h1).2 (List.pairwise_cons.mp h2).2 (p.cons_inv)]
theorem sortedS_one {l m : List Str} (h1 : sortedS l = true) (h2 : sortedS m = true) (p : l.Perm m) : l = m := sorted_one (sorted_pw h1) (sorted_pw h2) p
theorem merge_tab {g : Str → V} : ∀ (l acc : List Str), (acc ++ l).Nodup → mergeK (tab acc g) (tab l g) = tab (acc ++ l) g
  | [], acc, _ => by rw [List.append_nil]; rfl
  | a :: r, acc, h => by
    have ha : a ∉ acc := fun z => by
      have := (List.nodup_append.mp h).2.2 a z a List.mem_cons_self
      exact this rfl
    show mergeK (putK (tab acc g) (Sum.inr a) (g a)) (tab r g) = _
    rw [put_new ha]
    have e : tab (acc ++ [a]) (fun y => if y = a then g a else g y) = tab (acc ++ [a]) g := tab_congr fun x _ => by
      split
      · rename_i e; rw [e]
      · rfl
    rw [e, merge_tab r (acc ++ [a]) (by rw [List.append_assoc]; exact h), List.append_assoc]
    rfl
end Dk

namespace K11
open PySem PySem.Spec PyProof.Rows L2 Tr Sq Dk Exs
/-! ### _law_bent of letters -/
/-- all but the stream and the table -/
def wo (p c T : Addr) (H : Hp) : Hp := fun b => if b = p ∨ b = c ∨ b = T then none else H b
section
variable {p c T : Addr} {H H' : Hp}
theorem wo_to : Evl.Ex (wo p c T H) H := fun b o h => by
  unfold wo at h
  split at h
  · cases h
  · exact h
theorem wo_at {b : Addr} {o : HO} (h : H b = some o) (h1 : b ≠ p) (h2 : b ≠ c) (h3 : b ≠ T) : wo p c T H b = some o := by
  unfold wo
  rw [if_neg (fun z => by rcases z with z | z | z <;> contradiction)]
  exact h
theorem wo_ex (e : Evl.Ex H H') : Evl.Ex (wo p c T H) (wo p c T H') := fun b o h => by
  unfold wo at h ⊢
  split at h
  · cases h
  · rename_i z
    rw [if_neg z]
    exact e _ _ h
theorem wo_kp (e : Kp p c H H') : Evl.Ex (wo p c T H) (wo p c T H') := fun b o h => by
  unfold wo at h ⊢
  split at h
  · cases h
  · rename_i z
    rw [if_neg z]
    exact e _ _ h (fun q => z (.inl q)) (fun q => z (.inr (.inl q)))
end
theorem Pl.ne_new {H : Hp} {x : V} {n : String} {d : Addr} (h : Pl H x n) (hd : H d = none) : x ≠ .ref d := fun z => by
  subst z
  cases h with
  | lst h => rw [hd] at h; cases h
  | tup h => rw [hd] at h; cases h
  | frt h => rw [hd] at h; cases h
  | dic h => rw [hd] at h; cases h
  | dct h => rw [hd] at h; cases h
theorem wo_upd {p c T : Addr} {H : Hp} {o : HO} : wo p c T (upd H T o) = wo p c T H := by
  funext b
  unfold wo
  by_cases h : b = p ∨ b = c ∨ b = T
  · rw [if_pos h, if_pos h]
  · rw [if_neg h, if_neg h, upd_ne (fun z => h (.inr (.inr z)))]
theorem upd_comm {H : Hp} {a b : Addr} {o u : HO} (h : a ≠ b) : upd (upd H a o) b u = upd (upd H b u) a o := by
  funext x
  by_cases h1 : x = a
  · rw [h1, upd_ne h, upd_same, upd_same]
  · by_cases h2 : x = b
    · rw [h2, upd_same, upd_ne h.symm, upd_same]
    · rw [upd_ne h2, upd_ne h1, upd_ne h1, upd_ne h2]
/-- flat, a list of items, a dict of such -/
inductive Shp (H : Hp) : V → Prop
  | flat {x : V} (h : flatS x = true) : Shp H x
  | items {a : Addr} {ts : List Addr} {ks : List (Key × V)} (h : H a = some (.lst (ts.map V.ref))) (hp : Paired (fun (t : Addr) (q : Key × V) => H t = some (.tup [kV q.1, q.2])) ts ks) (hf : ∀ q ∈ ks, flatS q.2 = true) (hl : ks.length ≤ 1000) : Shp H (.ref a)
  | dict {a : Addr} {ks : List (Key × V)} (h : H a = some (.dK ks)) (hv : ∀ q ∈ ks, Shv H q.2) (hl : ks.length ≤ 1000) : Shp H (.ref a)
theorem Shp.ex {H H' : Hp} {x : V} (h : Shp H x) (e : Evl.Ex H H') : Shp H' x := by
  cases h with
  | flat h => exact .flat h
  | items h hp hf hl => exact .items (e _ _ h) (Paired.mapP hp fun t q z => e _ _ z) hf hl
  | dict h hv hl => exact .dict (e _ _ h) (fun q hq => (hv q hq).ex e) hl
/-- told as no letters -/
def BadK (hs : List Str) (H : Hp) (x : V) : Prop := ∃ o, DX H x o ∧ isLet hs o = false ∧ Shp H x
theorem BadK.ex {hs : List Str} {H H' : Hp} {x : V} (h : BadK hs H x) (e : Evl.Ex H H') : BadK hs H' x := by
  obtain ⟨o, h1, h2, h3⟩ := h
  exact ⟨o, h1.ex e, h2, h3.ex e⟩
/-- letters: the houses in any order -/
structure LedK (hs : List Str) (kvs : List (Key × V)) : Prop where
  ks : ∃ hs' : List Str, hs'.Perm hs ∧ kvs.map (·.1) = hs'.map Sum.inr
  ns : ∀ p ∈ kvs, ∃ n : Nat, p.2 = .int (n : Nat)
section
variable {hs : List Str} {kvs : List (Key × V)}
theorem LedK.len (L : LedK hs kvs) : kvs.length = hs.length := by
  obtain ⟨hs', h1, h2⟩ := L.ks
  have := congrArg List.length h2
  rw [List.length_map, List.length_map] at this
  rw [this, h1.length_eq]
theorem inr_nodup {l : List Str} (h : l.Nodup) : (l.map (Sum.inr : Str → Key)).Nodup := List.pairwise_map.mpr (List.Pairwise.imp (fun {a b} hn e => hn (Sum.inr.inj e)) h)
theorem LedK.nodup (L : LedK hs kvs) (hn : hs.Nodup) : (kvs.map (·.1)).Nodup := by
  obtain ⟨hs', h1, h2⟩ := L.ks
  rw [h2]
  exact inr_nodup (h1.nodup_iff.mpr hn)
theorem valk_some {k : Key} : ∀ {kvs : List (Key × V)}, (valV kvs k).isSome = true ↔ k ∈ kvs.map (·.1)
  | [] => by simp [valV_nil]
  | p :: r => by
    by_cases e : p.1 = k
    · rw [valV_pos e]
      simp [e]
    · rw [valV_neg e, valk_some (kvs := r), List.map_cons, List.mem_cons]
      exact ⟨fun z => .inr z, fun z => z.resolve_left (fun w => e w.symm)⟩
theorem valk_at {k : Key} {v : V} : ∀ {kvs : List (Key × V)} {i : Nat}, (kvs.map (·.1)).Nodup → kvs[i]? = some (k, v) → valV kvs k = some v
  | p :: r, 0, _, e => by
    obtain rfl := Option.some.inj e
    exact valV_pos rfl
  | p :: r, i + 1, hn, e => by
    rw [List.map_cons, List.nodup_cons] at hn
    have e : r[i]? = some (k, v) := e
    have ne : ¬ p.1 = k := fun z => hn.1 (by rw [z]; exact List.mem_map.mpr ⟨_, List.mem_of_getElem? e, rfl⟩)
    rw [valV_neg ne]
    exact valk_at hn.2 e
theorem bentK_len (h : kvs.length ≠ hs.length) : isLet hs (some kvs) = false := by
  show (((decide (kvs.length = hs.length) && hs.all fun h => (valV kvs (Sum.inr h)).isSome) && kvs.all fun p => numV p.2) && kvs.any fun p => posV p.2) = false
  rw [decide_eq_false h]
  rfl
theorem bentK_key {z : Str} (hz : z ∈ hs) (h : (Sum.inr z : Key) ∉ kvs.map (·.1)) : isLet hs (some kvs) = false := by
  show (((decide (kvs.length = hs.length) && hs.all fun h => (valV kvs (Sum.inr h)).isSome) && kvs.all fun p => numV p.2) && kvs.any fun p => posV p.2) = false
  have : (hs.all fun h => (valV kvs (Sum.inr h)).isSome) = false := by
    rw [List.all_eq_false]
    exact ⟨z, hz, fun w => h (valk_some.mp w)⟩
  rw [this, Bool.and_false, Bool.false_and, Bool.false_and]
theorem bentK_val {p : Key × V} (hp : p ∈ kvs) (h : numV p.2 = false) : isLet hs (some kvs) = false := by
  show (((decide (kvs.length = hs.length) && hs.all fun h => (valV kvs (Sum.inr h)).isSome) && kvs.all fun p => numV p.2) && kvs.any fun p => posV p.2) = false
  have : (kvs.all fun p => numV p.2) = false := by
    rw [List.all_eq_false]
    exact ⟨p, hp, by rw [h]; decide⟩
  rw [this, Bool.and_false, Bool.false_and]
theorem bentK_zero (h : ∀ p ∈ kvs, posV p.2 = false) : isLet hs (some kvs) = false := by
  show (((decide (kvs.length = hs.length) && hs.all fun h => (valV kvs (Sum.inr h)).isSome) && kvs.all fun p => numV p.2) && kvs.any fun p => posV p.2) = false
  have : (kvs.any fun p => posV p.2) = false := by
    rw [List.any_eq_false]
    exact fun p hp => by rw [h p hp]; decide
  rw [this, Bool.and_false]
end
theorem mergeK_new : ∀ (more acc : List (Key × V)), ((acc ++ more).map (·.1)).Nodup → mergeK acc more = acc ++ more
  | [], acc, _ => by rw [List.append_nil]; rfl
  | a :: r, acc, h => by
    have ha : valV acc a.1 = none := by
      cases hv : valV acc a.1 with
      | none => rfl
      | some v =>
        exfalso
        have z := valk_some.mp (show (valV acc a.1).isSome = true by rw [hv]; rfl)
        rw [List.map_append, List.map_cons] at h
        exact (List.nodup_append.mp h).2.2 _ z _ List.mem_cons_self rfl
    show mergeK (putK acc a.1 a.2) r = _
    rw [putK_new a.2 ha, mergeK_new r (acc ++ [(a.1, a.2)]) (by rw [List.append_assoc]; exact h), List.append_assoc]
    rfl
/-- entries laid so far -/
def EIK (H0 : Hp) (D : Addr) (out : List (Key × V)) (H' : Hp) : Prop := Evl.Ex H0 H' ∧ ∃ us : List Addr, H' D = some (.lst (us.map V.ref)) ∧ us.length = out.length ∧ Paired (fun (t : Addr) (q : Key × V) => H' t = some (.tup [kV q.1, q.2])) us out
theorem EIK.push {H0 H5 : Hp} {D u : Addr} {out : List (Key × V)} {k : Key} {v : V} (h : EIK H0 D out H5) (hD : H0 D = none) (hu : H5 u = none) (hl : out.length ≤ 1000) :
    ∃ xs, upd H5 u (.tup [kV k, v]) D = some (.lst xs) ∧ xs.length < sizeLine ∧ EIK H0 D (out ++ [(k, v)]) (upd (upd H5 u (.tup [kV k, v])) D (.lst (xs ++ [.ref u]))) := by
  obtain ⟨x1, us, e1, ul, e2⟩ := h
  have hDu : D ≠ u := ne_of_none e1 hu
  refine ⟨_, by rw [upd_ne hDu]; exact e1, ?_, ex_upd (x1.trans (Evl.Ex.new hu)) hD, us ++ [u], by rw [upd_same, List.map_append]; rfl, by rw [List.length_append, List.length_append, ul]; rfl, ?_⟩
  · rw [List.length_map, ul]
    exact Nat.lt_of_le_of_lt hl (by decide)
  · refine paired_app (Paired.mapP e2 fun t kv z => ?_) (.cons ?_ .nil)
    · rw [upd_ne (fun q9 => by rw [q9, e1] at z; cases z), upd_ne (ne_of_none z hu)]
      exact z
    · rw [upd_ne hDu.symm]
      exact upd_same
/-- while the bent ones are gathered -/
structure BSK (H : Hp) (p c g so : Addr) (m : Nat) (hs : List Str) (kvs : List (Key × V)) (odd : V) (xs : List V) (Hc : Hp) : Prop where
  str : StrAt Hc p c m
  kp : Kp p c H Hc
  new : H so = none
  np : so ≠ p
  nc : so ≠ c
  at_ : Hc so = some (.lst xs)
  bad : ∀ x ∈ xs, BadK hs (wo p c so Hc) x
  g : wo p c so Hc g = some (.dK kvs)
  odd : (∃ nm, Pl (wo p c so Hc) odd nm) ∧ Shv (wo p c so Hc) odd
theorem BSK.app {H Hc H6 : Hp} {p c g so d : Addr} {m : Nat} {hs : List Str} {kvs out : List (Key × V)} {odd : V} {xs : List V} (B : BSK H p c g so m hs kvs odd xs Hc) (x : Evl.Ex Hc H6) (hd : H6 d = none) (hi : ∀ q ∈ out, (∃ n, Pl (wo p c so H6) q.2 n) ∧ Shv (wo p c so H6) q.2) (hl : out.length ≤ 1000) (hf : isLet hs (some out) = false) :
    BSK H p c g so m hs kvs odd (xs ++ [.ref d]) (upd (upd H6 d (.dK out)) so (.lst (xs ++ [.ref d]))) := by
  have s6 := B.str.keep x
  have so6 := x _ _ B.at_
  have nd : d ≠ so := (ne_of_none so6 hd).symm
  obtain ⟨n1, n2⟩ := s6.ne hd
  have e2 : Evl.Ex (wo p c so H6) (wo p c so (upd (upd H6 d (.dK out)) so (.lst (xs ++ [.ref d])))) := by
    rw [wo_upd]
    exact wo_ex (Evl.Ex.new hd)
  have e1 : Evl.Ex (wo p c so Hc) (wo p c so (upd (upd H6 d (.dK out)) so (.lst (xs ++ [.ref d])))) := (wo_ex x).trans e2
  have wd : wo p c so (upd (upd H6 d (.dK out)) so (.lst (xs ++ [.ref d]))) d = some (.dK out) := by
    rw [wo_upd]
    exact wo_at upd_same n1 n2 nd
  have kx : Kp p c H H6 := fun b o e h1 h2 => x _ _ (B.kp b o e h1 h2)
  refine ⟨(s6.new hd).upd B.np B.nc, (kx.new hd).mut B.new, B.new, B.np, B.nc, upd_same, fun z hz => ?_, e1 _ _ B.g, B.odd.1.imp fun nm h => h.ext e1, B.odd.2.ex e1⟩
  rcases List.mem_append.mp hz with hz | hz
  · exact (B.bad z hz).ex e1
  · rw [List.mem_singleton.mp hz]
    refine ⟨some out, .dic wd (fun q hq => (hi q hq).1.imp fun n h => h.ext e2) (fun q hq => ?_) hl, hf, .dict wd (fun q hq => (hi q hq).2.ex e2) hl⟩
    obtain ⟨n, h⟩ := (hi q hq).1
    exact Pl.ne_new (h.ext wo_to) hd
theorem BSK.next {H Hc Hd He : Hp} {p c g so : Addr} {m m' : Nat} {hs : List Str} {kvs : List (Key × V)} {odd : V} {xs : List V} (B : BSK H p c g so m hs kvs odd xs Hc) (x : Evl.Ex Hc Hd) (kp : Kp p c Hd He) (s : StrAt He p c m') : BSK H p c g so m' hs kvs odd xs He := by
  have e1 : Evl.Ex (wo p c so Hc) (wo p c so He) := (wo_ex x).trans (wo_kp kp)
  exact ⟨s, fun b o e h1 h2 => kp b o (x _ _ (B.kp b o e h1 h2)) h1 h2, B.new, B.np, B.nc, kp _ _ (x _ _ B.at_) B.np B.nc, fun z hz => (B.bad z hz).ex e1, e1 _ _ B.g, B.odd.1.imp fun nm h => h.ext e1, B.odd.2.ex e1⟩
theorem lock_outK {Hc H5 : Hp} {g d : Addr} {od : Obj} {kvs out : List (Key × V)} (hg : Hc g = some (.dK kvs)) (x5 : Evl.Ex (upd Hc g (.frz od (.dK kvs))) H5) (hd : H5 d = none) :
    ∃ H6, Evl.Ex Hc H6 ∧ H6 d = none ∧ upd H5 d (.dK out) g = some (.frz od (.dK kvs)) ∧ upd (upd H5 d (.dK out)) g (.dK kvs) = upd H6 d (.dK out) := by
  have g5 := x5 _ _ upd_same
  have nd : d ≠ g := (ne_of_none g5 hd).symm
  exact ⟨_, unlock hg x5, by rw [upd_ne nd]; exact hd, by rw [upd_ne nd.symm]; exact g5, upd_comm nd⟩
end K11

namespace K11
open PySem PySem.Spec PyProof.Rows L2 Tr Sq Dk Dt Exs
/-! ### ledgers bent (what of v_28 hangs on no law), beside v_34 -/
/-- a ledger's entries, in any order -/
structure Led (ps : Prs) (kvs : List (List Key × V)) : Prop where
  ks : ∃ ps' : Prs, ps'.Perm ps ∧ kvs.map (·.1) = ps'.map kp
  ns : ∀ p ∈ kvs, ∃ n : Nat, p.2 = .int (n : Nat)
theorem kp_map_nodup {ps : Prs} (h : ps.Nodup) : (ps.map kp).Nodup := List.pairwise_map.mpr (List.Pairwise.imp (fun {a b} hn e => hn (kp_inj.mp e)) h)
section
variable {ps : Prs} {kvs : List (List Key × V)}
theorem Led.len (L : Led ps kvs) : kvs.length = ps.length := by
  obtain ⟨ps', h1, h2⟩ := L.ks
  have := congrArg List.length h2
  rw [List.length_map, List.length_map] at this
  rw [this, h1.length_eq]
theorem Led.nodup (L : Led ps kvs) (hn : ps.Nodup) : (kvs.map (·.1)).Nodup := by
  obtain ⟨ps', h1, h2⟩ := L.ks
  rw [h2]
  exact kp_map_nodup (h1.nodup_iff.mpr hn)
theorem val_some {k : List Key} : ∀ {kvs : List (List Key × V)}, (valV kvs k).isSome = true ↔ k ∈ kvs.map (·.1)
  | [] => by simp [valV_nil]
  | p :: r => by
    by_cases e : p.1 = k
    · rw [valV_pos e]
      simp [e]
    · rw [valV_neg e, val_some (kvs := r), List.map_cons, List.mem_cons]
      exact ⟨fun z => .inr z, fun z => z.resolve_left (fun w => e w.symm)⟩
theorem val_at {k : List Key} {v : V} : ∀ {kvs : List (List Key × V)} {i : Nat}, (kvs.map (·.1)).Nodup → kvs[i]? = some (k, v) → valV kvs k = some v
  | p :: r, 0, _, e => by
    obtain rfl := Option.some.inj e
    exact valV_pos rfl
  | p :: r, i + 1, hn, e => by
    rw [List.map_cons, List.nodup_cons] at hn
    have e : r[i]? = some (k, v) := e
    have ne : ¬ p.1 = k := fun z => hn.1 (by rw [z]; exact List.mem_map.mpr ⟨_, List.mem_of_getElem? e, rfl⟩)
    rw [valV_neg ne]
    exact val_at hn.2 e
theorem Led.mem (L : Led ps kvs) {k : List Key} : k ∈ kvs.map (·.1) ↔ ∃ q ∈ ps, kp q = k := by
  obtain ⟨ps', h1, h2⟩ := L.ks
  rw [h2, List.mem_map]
  exact ⟨fun ⟨q, a, b⟩ => ⟨q, h1.mem_iff.mp a, b⟩, fun ⟨q, a, b⟩ => ⟨q, h1.mem_iff.mpr a, b⟩⟩
theorem Led.isT (L : Led ps kvs) : isTabT ps (some kvs) = true := by
  have h1 : hasJT ps (some kvs) = true := by
    show (decide (kvs.length = ps.length) && ps.all fun q => (valV kvs (kp q)).isSome) = true
    rw [decide_eq_true L.len, Bool.true_and, List.all_eq_true]
    intro q hq
    rw [val_some]
    exact L.mem.mpr ⟨q, hq, rfl⟩
  show (hasJT ps (some kvs) && kvs.all fun p => numV p.2) = true
  rw [h1, Bool.true_and, List.all_eq_true]
  intro p hp
  obtain ⟨n, e⟩ := L.ns p hp
  rw [e]
  exact decide_eq_true (show (0 : Int) ≤ (n : Nat) by omega)
theorem bent_len (h : kvs.length ≠ ps.length) : isTabT ps (some kvs) = false := by
  show ((decide (kvs.length = ps.length) && ps.all fun q => (valV kvs (kp q)).isSome) && kvs.all fun p => numV p.2) = false
  rw [decide_eq_false h]
  rfl
theorem bent_key {q : Str × Str} (hq : q ∈ ps) (h : kp q ∉ kvs.map (·.1)) : isTabT ps (some kvs) = false := by
  show ((decide (kvs.length = ps.length) && ps.all fun q => (valV kvs (kp q)).isSome) && kvs.all fun p => numV p.2) = false
  have : (ps.all fun q => (valV kvs (kp q)).isSome) = false := by
    rw [List.all_eq_false]
    exact ⟨q, hq, fun z => h (val_some.mp z)⟩
  rw [this, Bool.and_false, Bool.false_and]
theorem bent_val {p : List Key × V} (hp : p ∈ kvs) (h : numV p.2 = false) : isTabT ps (some kvs) = false := by
  show ((decide (kvs.length = ps.length) && ps.all fun q => (valV kvs (kp q)).isSome) && kvs.all fun p => numV p.2) = false
  have : (kvs.all fun p => numV p.2) = false := by
    rw [List.all_eq_false]
    exact ⟨p, hp, by rw [h]; decide⟩
  rw [this, Bool.and_false]
end
theorem mergeT_new : ∀ (more acc : List (List Key × V)), ((acc ++ more).map (·.1)).Nodup → mergeT acc more = acc ++ more
  | [], acc, _ => by rw [List.append_nil]; rfl
  | a :: r, acc, h => by
    have ha : valV acc a.1 = none := by
      cases hv : valV acc a.1 with
      | none => rfl
      | some v =>
        exfalso
        have z := val_some.mp (show (valV acc a.1).isSome = true by rw [hv]; rfl)
        rw [List.map_append, List.map_cons] at h
        exact (List.nodup_append.mp h).2.2 _ z _ List.mem_cons_self rfl
    show mergeT (putK acc a.1 a.2) r = _
    rw [putK_new a.2 ha, mergeT_new r (acc ++ [(a.1, a.2)]) (by rw [List.append_assoc]; exact h), List.append_assoc]
    rfl
/-- entries laid so far -/
def EI (H0 : Hp) (D : Addr) (out : List (List Key × V)) (H' : Hp) : Prop := Evl.Ex H0 H' ∧ ∃ us : List Addr, H' D = some (.lst (us.map V.ref)) ∧ us.length = out.length ∧ Paired (EntT H') us out
theorem EI.push {H0 H5 H6 : Hp} {D u b : Addr} {out : List (List Key × V)} {k : List Key} {v : V} (h : EI H0 D out H5) (x : Evl.Ex H5 H6) (hD : H0 D = none) (hb : H6 b = some (.tup (k.map kV))) (hu : H6 u = none) (hl : out.length ≤ 1000) :
    ∃ xs, upd H6 u (.tup [.ref b, v]) D = some (.lst xs) ∧ xs.length < sizeLine ∧ EI H0 D (out ++ [(k, v)]) (upd (upd H6 u (.tup [.ref b, v])) D (.lst (xs ++ [.ref u]))) := by
  obtain ⟨x1, us, e1, ul, e2⟩ := h
  have e1' := x _ _ e1
  have hDu : D ≠ u := ne_of_none e1' hu
  have keep : ∀ {b : Addr} {vs : List V}, H6 b = some (.tup vs) → upd (upd H6 u (.tup [.ref b, v])) D (.lst (us.map V.ref ++ [.ref u])) b = some (.tup vs) := fun {b vs} z => by
    rw [upd_ne (fun q9 => by rw [q9, e1'] at z; cases z), upd_ne (ne_of_none z hu)]
    exact z
  have keep' : ∀ {b2 : Addr} {vs : List V}, H6 b2 = some (.tup vs) → upd (upd H6 u (.tup [.ref b, v])) D (.lst (us.map V.ref ++ [.ref u])) b2 = some (.tup vs) := fun {b2 vs} z => by
    rw [upd_ne (fun q9 => by rw [q9, e1'] at z; cases z), upd_ne (ne_of_none z hu)]
    exact z
  refine ⟨_, by rw [upd_ne hDu]; exact e1', ?_, ex_upd ((x1.trans x).trans (Evl.Ex.new hu)) hD, us ++ [u], by rw [upd_same, List.map_append]; rfl, by rw [List.length_append, List.length_append, ul]; rfl, ?_⟩
  · rw [List.length_map, ul]
    exact Nat.lt_of_le_of_lt hl (by decide)
  · refine paired_app (Paired.mapP e2 fun t kv z => ?_) (.cons ⟨b, ?_, keep' hb⟩ .nil)
    · obtain ⟨b2, z1, z2⟩ := z
      exact ⟨b2, keep' (x _ _ z1), keep' (x _ _ z2)⟩
    · rw [upd_ne hDu.symm]
      exact upd_same
theorem lay_pairs : ∀ R : Prs, (∀ t ∈ R, PyData.strOk t.1 = true ∧ PyData.strOk t.2 = true) → PyData.canLayAll0 (R.map pdPair) = true
  | [], _ => by simp [PyData.canLayAll0]
  | n :: r, h => by
    rw [List.map_cons]
    have := h n List.mem_cons_self
    unfold pdPair
    simp only [PyData.canLayAll0, PyData.canLay0, this.1, this.2, Bool.true_and]
    exact lay_pairs r fun t ht => h t (List.mem_cons_of_mem _ ht)
theorem shaped_pairs (R : Prs) (h : ∀ t ∈ R, PyData.strOk t.1 = true ∧ PyData.strOk t.2 = true) : SeqAt.shaped (.list (R.map pdPair)) = true := by
  unfold SeqAt.shaped
  have := depth_pairs R
  simp only [PyData.canLay0, PyData.depth, lay_pairs R h, Bool.true_and]
  exact decide_eq_true (by omega)
theorem shaped_pair {q : Str × Str} (h : PyData.strOk q.1 = true ∧ PyData.strOk q.2 = true) : SeqAt.shaped (pdPair q) = true := by
  unfold SeqAt.shaped pdPair
  simp only [PyData.canLay0, PyData.canLayAll0, PyData.depth, PyData.depthAll, h.1, h.2, Bool.true_and]
  exact decide_eq_true (by omega)
theorem eqv_pairs_nil (R : Prs) : PyData.eqv (.list (R.map pdPair)) (.list []) = R.isEmpty := by
  cases R <;> simp [PyData.eqv, PyData.eqvAll]
theorem keys_two {H : Hp} : ∀ {kvs : List (List Key × V)} {bs : List Addr} {ps' : Prs}, IsKeys H kvs bs → kvs.map (·.1) = ps'.map kp → Paired (TwoAt H) bs ps'
  | [], _, [], .nil, _ => .nil
  | [], _, _ :: _, _, h => by cases h
  | _ :: _, _, [], _, h => by cases h
  | p :: r, b :: bs, q :: ps', .cons h t, e => by
    rw [List.map_cons, List.map_cons] at e
    injection e with e1 e2
    refine .cons ?_ (keys_two t e2)
    have h : H b = some (.tup (p.1.map kV)) := h
    rw [e1] at h
    exact h
theorem EntT.ex' {H H' : Hp} (e : Evl.Ex H H') {t : Addr} {kv : List Key × V} (h : EntT H t kv) : EntT H' t kv := by
  obtain ⟨b, z1, z2⟩ := h
  exact ⟨b, e _ _ z1, e _ _ z2⟩
theorem StrAt.neU {H : Hp} {p c g : Addr} {n : Nat} {vs : List V} (h : StrAt H p c n) (hg : H g = some (.tup vs)) : g ≠ p ∧ g ≠ c := by
  obtain ⟨L, cells, a, k, m, h1, h2, r⟩ := h
  exact ⟨fun z => (by rw [z, h1] at hg; cases hg), fun z => (by rw [z, h2] at hg; cases hg)⟩
theorem lock_out {Hc H5 : Hp} {g d : Addr} {od : Obj} {kvs out : List (List Key × V)} (hg : Hc g = some (.dT kvs)) (x5 : Evl.Ex (upd Hc g (.frz od (.dT kvs))) H5) (hd : H5 d = none) :
    ∃ H6, Evl.Ex Hc H6 ∧ H6 d = none ∧ upd H5 d (.dT out) g = some (.frz od (.dT kvs)) ∧ upd (upd H5 d (.dT out)) g (.dT kvs) = upd H6 d (.dT out) := by
  have g5 := x5 _ _ upd_same
  have nd : d ≠ g := (ne_of_none g5 hd).symm
  exact ⟨_, unlockT hg x5, by rw [upd_ne nd]; exact hd, by rw [upd_ne nd.symm]; exact g5, upd_comm nd⟩
/-- the three bends of an entry -/
def bnd1 (k0 : Str × Str) (odd : V) (p : List Key × V) : List Key × V := (p.1, if p.1 = kp k0 then odd else p.2)
def bnd3 (k0 : Str × Str) (p : List Key × V) : List Key × V := (if p.1 = kp k0 then kp (k0.2, k0.1) else p.1, p.2)
theorem StrAt.neT {H : Hp} {p c g : Addr} {n : Nat} {kvs : List (List Key × V)} (h : StrAt H p c n) (hg : H g = some (.dT kvs)) : g ≠ p ∧ g ≠ c := by
  obtain ⟨L, cells, a, k, m, h1, h2, r⟩ := h
  exact ⟨fun z => (by rw [z, h1] at hg; cases hg), fun z => (by rw [z, h2] at hg; cases hg)⟩
end K11

namespace K11
open PySem PySem.Spec PyProof.Rows L2 Tr Sq Dk Exs
/-! ### the heap less the stream; _law_odd_run -/
def ho (p c : Addr) (H : Hp) : Hp := fun b => if b = p ∨ b = c then none else H b
section
variable {p c : Addr} {H H' : Hp}
theorem ho_to : Evl.Ex (ho p c H) H := fun b o h => by
  unfold ho at h
  split at h
  · cases h
  · exact h
theorem ho_at {b : Addr} {o : HO} (h : H b = some o) (h1 : b ≠ p) (h2 : b ≠ c) : ho p c H b = some o := by
  unfold ho
  rw [if_neg (fun z => by rcases z with z | z <;> contradiction)]
  exact h
theorem ho_ex (e : Evl.Ex H H') : Evl.Ex (ho p c H) (ho p c H') := fun b o h => by
  unfold ho at h ⊢
  split at h
  · cases h
  · rename_i z
    rw [if_neg z]
    exact e _ _ h
theorem ho_kp (e : Kp p c H H') : Evl.Ex (ho p c H) (ho p c H') := fun b o h => by
  unfold ho at h ⊢
  split at h
  · cases h
  · rename_i z
    rw [if_neg z]
    exact e _ _ h (fun q => z (.inl q)) (fun q => z (.inr q))
end
/-- the stream, all else that was there -/
structure W0 (p c : Addr) (H0 : Hp) (n : Nat) (H : Hp) : Prop where
  str : StrAt H p c n
  k : Kp p c H0 H
section
variable {p c : Addr} {H0 H H' : Hp} {n n' : Nat}
theorem W0.ex (M : W0 p c H0 n H) (e : Evl.Ex H H') : W0 p c H0 n H' := ⟨M.str.keep e, fun b o h h1 h2 => e _ _ (M.k b o h h1 h2)⟩
theorem W0.kp (M : W0 p c H0 n H) (e : Kp p c H H') (s : StrAt H' p c n') : W0 p c H0 n' H' := ⟨s, M.k.trans e⟩
theorem W0.at_ (M : W0 p c H0 n H) {b : Addr} {o : HO} (h : H b = none) : ho p c (upd H b o) b = some o := ho_at upd_same (M.str.ne h).1 (M.str.ne h).2
end
end K11

namespace K11
open PySem PySem.Spec PyProof.Rows L2 Tr Sq Dk Exs
/-! ### what is kept while the stream and the lambdas' table change -/
abbrev qlO : Str := "law" ++ ".<locals>." ++ "<lambda>"
abbrev qlI : Str := qlO ++ ".<locals>." ++ "<lambda>"
abbrev qlS : List Str := [qlO, qlI]
section
variable {p c T : Addr} {H H' : Hp}
theorem wo_grow (e : Lm.Grow T H H') : Evl.Ex (wo p c T H) (wo p c T H') := fun b o h => by
  unfold wo at h ⊢
  split at h
  · cases h
  · rename_i z
    rw [if_neg z]
    exact e _ _ (fun q => z (.inr (.inr q))) h
end
/-- all but lists stays -/
def Kl (H H' : Hp) : Prop := ∀ b o, H b = some o → (∀ xs, o ≠ .lst xs) → H' b = some o
theorem Kl.trans {H H1 H2 : Hp} (a : Kl H H1) (b : Kl H1 H2) : Kl H H2 := fun x o e n => b x o (a x o e n) n
theorem Kl.ex {H H' : Hp} (e : Evl.Ex H H') : Kl H H' := fun b o h _ => e b o h
theorem Kl.kp {p c : Addr} {n : Nat} {H H' : Hp} (hS : StrAt H p c n) (k : Kp p c H H') : Kl H H' := by
  obtain ⟨L, cells, a, kk, m, h1, h2, _⟩ := hS
  intro b o h nl
  refine k b o h (fun z => ?_) (fun z => ?_)
  · rw [z, h1] at h
    exact nl _ (Option.some.inj h).symm
  · rw [z, h2] at h
    exact nl _ (Option.some.inj h).symm
theorem Kl.upd {F : Addr} {xs ys : List V} {H : Hp} (h : H F = some (.lst xs)) : Kl H (L2.upd H F (.lst ys)) := fun b o e nl => by
  rw [upd_ne (fun z => by rw [z, h] at e; exact nl _ (Option.some.inj e).symm)]
  exact e
theorem codeT_nl {c P2 : Addr} {q : Str} (xs : List V) : Lm.CodeT c q P2 ≠ .lst xs := fun z => by
  unfold Lm.CodeT at z
  cases z
theorem tabD_kl {mg : Str → Option Value} : ∀ (qs : List Str) {H H' : Hp} {P : Addr}, Lm.TabD mg qs H P → Kl H H' → Lm.TabD mg qs H' P
  | [], _, _, _, _, _ => True.intro
  | q :: qs, H, H', P, ⟨ps, h1, h2, h3⟩, k => ⟨ps, k _ _ h1 (fun xs z => by cases z), h2, fun pos cv hc => by
    obtain ⟨c, P2, e1, e2, e3, e4, e5⟩ := h3 pos cv hc
    exact ⟨c, P2, e1, k _ _ e2 (fun xs => codeT_nl xs), e3, tabD_kl qs e4 k, e5⟩⟩
/-- the stream, the table, all else -/
structure Wd (mg : Str → Option Value) (T p c : Addr) (H0 : Hp) (n : Nat) (H : Hp) : Prop where
  str : StrAt H p c n
  tab : Lm.TabD mg qlS H T
  k : Evl.Ex (wo p c T H0) (wo p c T H)
section
variable {mg : Str → Option Value} {T p c : Addr} {H0 H H' : Hp} {n n' : Nat}
theorem Wd.pt (M : Wd mg T p c H0 n H) : ∃ ps, H T = some (.tbl ps) := by
  obtain ⟨ps, h, _⟩ := M.tab
  exact ⟨ps, h⟩
theorem Wd.get (M : Wd mg T p c H0 n H) {b : Addr} {o : HO} (h : wo p c T H0 b = some o) : H b = some o := wo_to _ _ (M.k _ _ h)
/-- what is new now is none of the kept ones -/
theorem Wd.ne (M : Wd mg T p c H0 n H) {b : Addr} (h : H b = none) : b ≠ p ∧ b ≠ c ∧ b ≠ T := by
  obtain ⟨ps, hp⟩ := M.pt
  obtain ⟨h1, h2⟩ := M.str.ne h
  exact ⟨h1, h2, fun z => by rw [z, hp] at h; cases h⟩
theorem Wd.ex (M : Wd mg T p c H0 n H) (e : Evl.Ex H H') : Wd mg T p c H0 n H' := ⟨M.str.keep e, tabD_kl _ M.tab (Kl.ex e), M.k.trans (wo_ex e)⟩
theorem Wd.kp (M : Wd mg T p c H0 n H) (e : Kp p c H H') (s : StrAt H' p c n') : Wd mg T p c H0 n' H' := ⟨s, tabD_kl _ M.tab (Kl.kp M.str e), M.k.trans (wo_kp e)⟩
theorem Wd.grow (M : Wd mg T p c H0 n H) (g : Lm.Grow T H H') (t : Lm.TabD mg qlS H' T) : Wd mg T p c H0 n H' := by
  obtain ⟨ps, hp⟩ := M.pt
  have ne_tl : ∀ {b : Addr} {xs : List V}, H b = some (.lst xs) → b ≠ T := fun {b xs} h z => by
    rw [z, hp] at h
    cases h
  obtain ⟨L, cells, a1, kk, m, s1, s2, r⟩ := M.str
  exact ⟨⟨L, cells, a1, kk, m, g _ _ (ne_tl s1) s1, g _ _ (ne_tl s2) s2, r⟩, t, M.k.trans (wo_grow g)⟩
theorem Wd.mut {F : Addr} {xs ys : List V} (M : Wd mg T p c H0 n H) (hF : H F = some (.lst xs)) (h1 : F ≠ p) (h2 : F ≠ c) (h3 : H0 F = none) : Wd mg T p c H0 n (upd H F (.lst ys)) := by
  refine ⟨M.str.upd h1 h2, tabD_kl _ M.tab (Kl.upd hF), fun b o h => ?_⟩
  have hb : b ≠ F := fun z => by
    have := wo_to _ _ h
    rw [z, h3] at this
    cases this
  have := M.k _ _ h
  unfold wo at this ⊢
  split at this
  · cases this
  · rename_i z
    rw [if_neg z, upd_ne hb]
    exact this
theorem Wd.start (s : StrAt H p c n) (t : Lm.TabD mg qlS H T) : Wd mg T p c H n H := ⟨s, t, fun _ _ h => h⟩
/-- an object that is new, kept from now on -/
theorem Wd.now (M : Wd mg T p c H0 n H) : Wd mg T p c H n H := .start M.str M.tab
theorem Wd.trans {H1 : Hp} (M : Wd mg T p c H0 n H1) (N : Wd mg T p c H1 n' H) : Wd mg T p c H0 n' H := ⟨N.str, N.tab, M.k.trans N.k⟩
end
theorem cutV_drop {xs : List V} (n : Nat) (h : n ≤ xs.length) : cutV xs (some (n : Int)) none = xs.drop n := by
  unfold cutV
  rw [HT.sIx_nat, HT.sIx_none, show min n xs.length = n by omega]
  show (List.drop n xs).take _ = _
  rw [List.take_of_length_le (by rw [List.length_drop]; omega)]
def RefQ (w : Str) (v : V) (H1 : Hp) (Q : VK) : Prop := ∀ (H2 : Hp) (p : Addr), Evl.Ex H1 H2 → H1 p = none → H2 p = some (.tup [.str w, v]) → Q (.ref p) H2
section
variable {P : Program} {w : World} {K : PySem.W.Frag} {mg : Str → Option Value} {base : Heap} {C1 C2 f1 f2 : Addr}
theorem told1 {C : Addr} {w f : Str} {v : V} {H1 H' : Hp} {Q : VK} {d : Addr} (h : RefQ w v H1 Q) (e : Evl.Ex H1 H') (hd : H' d = none) : Told1 C w f Q (.ref C) (some d) (upd H' d (.xd [(f, v)])) := by
  refine ⟨rfl, d, _, v, rfl, upd_same, by simp [List.lookup], fun p hp => ?_⟩
  have e2 := e.trans ((Evl.Ex.new (o := .xd [(f, v)]) hd).trans (Evl.Ex.new (o := .tup [.str w, v]) hp))
  refine h _ p e2 ?_ upd_same
  cases z : H1 p with
  | none => rfl
  | some o =>
    have := (e.trans (Evl.Ex.new (o := .xd [(f, v)]) hd)) p o z
    rw [hp] at this
    cases this
end
theorem new_here {H : Hp} {b : Addr} {o : HO} (_ : Evl.Ex H (upd H b o)) : upd H b o b = some o := upd_same
theorem adj_ord {ps : Prs} {x y : Str} : Adj (ps.map ordP) x y ↔ Adj ps x y := by
  have h : ∀ {u v : Str}, (u, v) ∈ ps.map ordP → Adj ps u v := fun {u v} h => by
    obtain ⟨q, hq, e⟩ := List.mem_map.mp h
    rcases ordP_or q with e2 | e2
    · rw [e2] at e
      rw [e] at hq
      exact .inl hq
    · rw [e2] at e
      have : q = (v, u) := by
        obtain ⟨a, b⟩ := q
        simp only [Prod.mk.injEq] at e ⊢
        exact ⟨e.2, e.1⟩
      exact .inr (this ▸ hq)
  have h' : ∀ {u v : Str}, (u, v) ∈ ps → Adj (ps.map ordP) u v := fun {u v} h => by
    have hm : ordP (u, v) ∈ ps.map ordP := List.mem_map.mpr ⟨_, h, rfl⟩
    rcases ordP_or (u, v) with e2 | e2
    · rw [e2] at hm
      exact .inl hm
    · rw [e2] at hm
      exact .inr hm
  constructor
  · intro a
    rcases a with a | a
    · exact h a
    · exact (h a).symm
  · intro a
    rcases a with a | a
    · exact h' a
    · exact (h' a).symm
theorem Rt.turn {hs hs' : List Str} {ps ps' : Prs} {r : Str} {f : Str → Option Str} (R : Rt hs ps r f) (h1 : ∀ x, x ∈ hs ↔ x ∈ hs') (h2 : ∀ x y, Adj ps x y ↔ Adj ps' x y) : Rt hs' ps' r f :=
  ⟨R.none, fun x y e => (h2 _ _).mp (R.adj x y e), fun x y e => R.one x y ((h2 _ _).mpr e), fun x hx => R.way x ((h1 x).mpr hx)⟩
theorem Ways.turn {hs hs' : List Str} {ps ps' : Prs} {fr : Str → Str → Option Str} {way : Str → Str → List Str} (W : Ways hs ps fr way) (h1 : ∀ x, x ∈ hs ↔ x ∈ hs') (h2 : ∀ x y, Adj ps x y ↔ Adj ps' x y) : Ways hs' ps' fr way :=
  ⟨fun r hr => Rt.turn (W.rt r ((h1 r).mpr hr)) h1 h2, fun a ha r hr => W.pth a ((h1 a).mpr ha) r ((h1 r).mpr hr)⟩
theorem adj_perm {ps ps' : Prs} (h : ps'.Perm (ps.map ordP)) (x y : Str) : Adj ps' x y ↔ Adj ps x y :=
  ⟨fun a => adj_ord.mp (a.imp (fun z => h.mem_iff.mp z) (fun z => h.mem_iff.mp z)), fun a => (adj_ord.mpr a).imp (fun z => h.mem_iff.mpr z) (fun z => h.mem_iff.mpr z)⟩
/-- a village whose parts are new stands in what is kept -/
theorem Vil.kept {p c T : Addr} {H0 H : Hp} {C v : Addr} {hs : List Str} {ps : Prs} {m : VilD} (h : Vil H C v hs ps m) (f : FreshV H0 hs m) (n : ∀ b, H0 b = none → b ≠ p ∧ b ≠ c ∧ b ≠ T) (hv : v ≠ p ∧ v ≠ c ∧ v ≠ T) : Vil (wo p c T H) C v hs ps m := by
  have g : ∀ {b : Addr} {o : HO}, H0 b = none → H b = some o → wo p c T H b = some o := fun {b o} e z => wo_at z (n b e).1 (n b e).2.1 (n b e).2.2
  exact ⟨wo_at h.at_ hv.1 hv.2.1 hv.2.2, g f.a h.la, g f.b h.lb, fun t ht => g (f.z t ht) (h.pr t ht), h.eq, ⟨g f.d h.nr.1, fun x hx => g (f.ad x hx) (h.nr.2 x hx)⟩⟩
theorem tabD_updD {mg : Str → Option Value} {D : Addr} {k : List (Key × V)} {o : HO} : ∀ (qs : List Str) {H : Hp} {P : Addr}, Lm.TabD mg qs H P → H D = some (.dK k) → Lm.TabD mg qs (upd H D o) P
  | [], _, _, _, _ => True.intro
  | q :: qs, H, P, ⟨ps, h1, h2, h3⟩, hD => ⟨ps, (upd_ne (fun z => by rw [z, hD] at h1; cases h1)).trans h1, h2, fun pos cv hc => by
    obtain ⟨c, P2, e1, e2, e3, e4, e5⟩ := h3 pos cv hc
    exact ⟨c, P2, e1, (upd_ne (fun z => by rw [z, hD] at e2; unfold Lm.CodeT at e2; cases e2)).trans e2, e3, tabD_updD qs e4 hD, e5⟩⟩
theorem Wd.mutD {mg : Str → Option Value} {T p c F : Addr} {H0 H : Hp} {n : Nat} {k : List (Key × V)} {o : HO} (M : Wd mg T p c H0 n H) (hF : H F = some (.dK k)) (h1 : F ≠ p) (h2 : F ≠ c) (h3 : H0 F = none) : Wd mg T p c H0 n (upd H F o) := by
  refine ⟨M.str.upd h1 h2, tabD_updD _ M.tab hF, fun b o h => ?_⟩
  have hb : b ≠ F := fun z => by
    have := wo_to _ _ h
    rw [z, h3] at this
    cases this
  have := M.k _ _ h
  unfold wo at this ⊢
  split at this
  · cases this
  · rename_i z
    rw [if_neg z, upd_ne hb]
    exact this
theorem ordP_two (q : Str × Str) : ordP (ordP q) = ordP q := by
  obtain ⟨a, b⟩ := q
  by_cases h : Srs.ltT a b = true
  · have e : ordP (a, b) = (a, b) := by unfold ordP; rw [if_pos h]
    rw [e, e]
  · have e : ordP (a, b) = (b, a) := by unfold ordP; rw [if_neg h]
    rw [e]
    unfold ordP
    split
    · rfl
    · rename_i h2
      have h : Srs.ltT a b = false := by simpa using h
      have h2 : Srs.ltT b a = false := by simpa using h2
      have := Srs.ltT_tot h h2
      rw [this]
theorem ord_all {ps qs : Prs} (h : ps.Perm (qs.map ordP)) : ∀ q ∈ ps, ordP q = q := fun q hq => by
  obtain ⟨r, _, rfl⟩ := List.mem_map.mp (h.mem_iff.mp hq)
  exact ordP_two r
end K11

namespace K11
open PySem PySem.Spec PyProof.Rows L2 Tr Sq Dk Dt Exs
/-! ### runs turned and mixed: their counts -/
theorem perm_of_map {α β : Type} {f : α → β} : ∀ {l k : List β}, l.Perm k → ∀ m : List α, k = m.map f → ∃ m' : List α, m'.Perm m ∧ l = m'.map f := by
  intro l k h
  induction h with
  | nil => intro m e; exact ⟨[], by rw [List.map_eq_nil_iff.mp e.symm], rfl⟩
  | @cons x l1 l2 h ih =>
    intro m e
    cases m with
    | nil => cases e
    | cons a m =>
      rw [List.map_cons] at e
      injection e with e1 e2
      obtain ⟨m', p, e3⟩ := ih m e2
      exact ⟨a :: m', p.cons a, by rw [List.map_cons, e1, e3]⟩
  | @swap x y l =>
    intro m e
    cases m with
    | nil => cases e
    | cons a m =>
      rw [List.map_cons] at e
      injection e with e1 e2
      cases m with
      | nil => cases e2
      | cons b m =>
        rw [List.map_cons] at e2
        injection e2 with e3 e4
        exact ⟨b :: a :: m, List.Perm.swap a b m, by rw [List.map_cons, List.map_cons, e1, e3, e4]⟩
  | @trans l1 l2 l3 h1 h2 ih1 ih2 =>
    intro m e
    obtain ⟨m2, p2, e2⟩ := ih2 m e
    obtain ⟨m1, p1, e1⟩ := ih1 m2 e2
    exact ⟨m1, p1.trans p2, e1⟩
theorem perm_paired {α β : Type} {R : α → β → Prop} {l k : List α} (h : l.Perm k) : ∀ {ys : List β}, Paired R k ys → ∃ zs : List β, zs.Perm ys ∧ Paired R l zs := by
  induction h with
  | nil => intro ys p; exact ⟨ys, .refl _, p⟩
  | @cons x l1 l2 h ih =>
    intro ys p
    cases p with
    | cons a b =>
      obtain ⟨zs, p2, q⟩ := ih b
      exact ⟨_ :: zs, p2.cons _, .cons a q⟩
  | @swap x y l =>
    intro ys p
    cases p with
    | cons a b =>
      cases b with
      | cons a2 b2 => exact ⟨_, List.Perm.swap _ _ _, .cons a2 (.cons a b2)⟩
  | @trans l1 l2 l3 h1 h2 ih1 ih2 =>
    intro ys p
    obtain ⟨z2, p2, q2⟩ := ih2 p
    obtain ⟨z1, p1, q1⟩ := ih1 q2
    exact ⟨z1, p1.trans p2, q1⟩
end K11

/-! list(zip(xs, ys)) of two lists. Law-independent. -/
namespace Zl
open PySem PySem.Calls PyProof.Rows PySem.Spec
/-- the zip at its i-th turn; its last tuple is out, or none is -/
def ZS (z TI TO i1 i2 l1 l2 S : Addr) (xs ys : Array Value) (i : Nat) (h : Heap) : Prop :=
  IsPair h TI (.ref i1) (.ref i2) ∧ h.IsListIter i1 l1 i ∧ h.IsListIter i2 l2 i ∧ h.IsList l1 xs ∧ h.IsList l2 ys ∧
    ((IsZip h z TI TO .none ∧ ∃ a b, IsPair h TO a b) ∨ ∃ (T : Addr) (f : Bool) (o : Obj), IsZipHeld h z TI TO T f ∧ h.get? T = some o ∧ T ≠ z ∧ T ≠ i1 ∧ T ≠ i2 ∧ T ≠ S)
section
variable {prog : Program} {w : World} {A : Around} {E : Value → Shared → Prop} {s : Shared} {z TI TO i1 i2 l1 l2 S : Addr} {xs ys : Array Value} {i : Nat}
theorem ZS.move (D : ZipApart z TI TO i1 i2 l1 l2) {h h' : Heap} (hS : ∀ c ∈ [z, TI, TO, i1, i2, l1, l2], c ≠ S) (x : ZS z TI TO i1 i2 l1 l2 S xs ys i h) (k : ∀ c o, c ≠ S → h.get? c = some o → h'.get? c = some o) : ZS z TI TO i1 i2 l1 l2 S xs ys i h' := by
  have n : ∀ c, c ∈ [z, TI, TO, i1, i2, l1, l2] → c ≠ S := hS
  obtain ⟨h1, h2, h3, h4, h5, h6⟩ := x
  refine ⟨k _ _ (n TI (by simp)) h1, h2.at fun o e => k _ o (n i1 (by simp)) e, h3.at fun o e => k _ o (n i2 (by simp)) e, h4.at fun o e => k _ o (n l1 (by simp)) e, h5.at fun o e => k _ o (n l2 (by simp)) e, ?_⟩
  rcases h6 with ⟨g1, a, b, g2⟩ | ⟨T, f, o, g1, g2, g3, g4, g5, g6⟩
  · exact .inl ⟨k _ _ (n z (by simp)) g1, a, b, k _ _ (n TO (by simp)) g2⟩
  · exact .inr ⟨T, f, o, k _ _ (n z (by simp)) g1, k _ _ g6 g2, g3, g4, g5, g6⟩
theorem zl_item {x y : Value} {Q : Option Value → Shared → Prop} (D : ZipApart z TI TO i1 i2 l1 l2) (st : ZS z TI TO i1 i2 l1 l2 S xs ys i s.heap) (hS : S < s.heap.objs.size) (hx : xs[i]? = some x) (hy : ys[i]? = some y)
    (hQ : ∀ h', ZS z TI TO i1 i2 l1 l2 S xs ys (i + 1) h' → IsPair h' s.heap.objs.size x y → h'.objs.size = s.heap.objs.size + 1 → (∀ c o, c ≠ z → c ≠ TO → c ≠ i1 → c ≠ i2 → s.heap.get? c = some o → h'.get? c = some o) → Q (some (.ref s.heap.objs.size)) { s with heap := h' }) :
    wpAny (model prog w) A (pyNext (.ref z)) Q E s := by
  obtain ⟨h1, h2, h3, h4, h5, h6⟩ := st
  have lt : ∀ {c o}, s.heap.get? c = some o → s.heap.objs.size ≠ c := fun e => Nat.ne_of_gt (Heap.lt_size e)
  have e1 : s.heap.objs.size ≠ i1 := by obtain ⟨o, e, _⟩ := h2; exact lt e
  have e2 : s.heap.objs.size ≠ i2 := by obtain ⟨o, e, _⟩ := h3; exact lt e
  rcases h6 with ⟨g1, a, b, g2⟩ | ⟨T, f, o, g1, g2, g3, g4, g5, g6⟩
  · refine wpAny_pyNext_zip_item D g1 h1 g2 h2 h3 h4 h5 hx hy fun h' a1 a2 a3 a4 a5 a6 hk => hQ h' ⟨hk _ _ D.TIz D.TITO D.TIi1 D.TIi2 h1, a3, a4, h4.at fun o e => hk _ o D.l1z D.l1TO D.l1i1 D.l1i2 e, h5.at fun o e => hk _ o D.l2z D.l2TO D.l2i1 D.l2i2 e, .inr ⟨s.heap.objs.size, false, _, a1, a5, lt g1, e1, e2, Nat.ne_of_gt hS⟩⟩ a5 a6 hk
  · refine wpAny_pyNext_zip_item_held D g1 g2 h1 h2 h3 h4 h5 hx hy fun h' a1 a3 a4 a5 a6 hk => hQ h' ⟨hk _ _ D.TIz D.TIi1 D.TIi2 h1, a3, a4, h4.at fun o e => hk _ o D.l1z D.l1i1 D.l1i2 e, h5.at fun o e => hk _ o D.l2z D.l2i1 D.l2i2 e, .inr ⟨T, true, o, a1, hk _ _ g3 g4 g5 g2, g3, g4, g5, g6⟩⟩ a5 a6 fun c o c1 _ c2 c3 e => hk c o c1 c2 c3 e
theorem zl_done {Q : Option Value → Shared → Prop} (hh : A.handled = none) (D : ZipApart z TI TO i1 i2 l1 l2) (st : ZS z TI TO i1 i2 l1 l2 S xs ys i s.heap) (hend : xs[i]? = none ∨ ys[i]? = none)
    (hQ : ∀ h', (∀ c o, c ≠ z → c ≠ TO → c ≠ i1 → c ≠ i2 → s.heap.get? c = some o → h'.get? c = some o) → Q none { s with heap := h' }) : wpAny (model prog w) A (pyNext (.ref z)) Q E s := by
  obtain ⟨h1, h2, h3, h4, h5, h6⟩ := st
  rcases h6 with ⟨g1, a, b, g2⟩ | ⟨T, f, o, g1, g2, g3, g4, g5, g6⟩
  · exact wpAny_pyNext_zip_end hh D g1 h1 g2 h2 h3 h4 h5 hend hQ
  · exact wpAny_pyNext_zip_end_held hh D g1 g2 h1 h2 h3 h4 h5 hend fun h' k => hQ h' fun c o c1 _ c2 c3 e => k c o c1 c2 c3 e
end
/-- the tuples told so far -/
structure ZG (xs ys : Array Value) (lo : Addr) (h : Heap) (as : List Addr) : Prop where
  rise : as.Pairwise (· < ·)
  above : ∀ a ∈ as, lo < a
  pairs : ∀ (j : Nat) (a : Addr), as[j]? = some a → ∃ x y, xs[j]? = some x ∧ ys[j]? = some y ∧ h.get? a = some { cls := .type "tuple", data := .seq #[x, y] }
section
variable {prog : Program} {w : World} {A : Around} {s : Shared} {R : Result → Shared → Prop} {z TI TO i1 i2 l1 l2 S lo : Addr} {xs ys : Array Value}
theorem zl_loop (hh : A.handled = none) (D : ZipApart z TI TO i1 i2 l1 l2) (hS : ∀ c ∈ [z, TI, TO, i1, i2, l1, l2], c ≠ S) (far : ∀ c ∈ [z, TI, TO, i1, i2, l1, l2, S], c ≤ lo) (few : min xs.size ys.size ≤ sizeLine) (res : Value) {h₁ : Heap}
    (hR : ∀ h' tk acc c as, (∀ b o, b ≠ S → b ≠ z → b ≠ TO → b ≠ i1 → b ≠ i2 → h₁.get? b = some o → h'.get? b = some o) → h'.get? S = some { cls := .type "list", dict := none, data := .seq acc c, slots := #[] } → as.length = min xs.size ys.size → ZG xs ys lo h' as →
      acc.toList = as.map Value.ref → R (.ok (.ret res)) { s with heap := h', toks := tk }) :
    ∀ (k i : Nat) (h : Heap) (tk c : Nat) (acc : Array Value) (as : List Addr), min xs.size ys.size - i = k → i ≤ min xs.size ys.size → ZS z TI TO i1 i2 l1 l2 S xs ys i h → (∀ b o, b ≠ S → b ≠ z → b ≠ TO → b ≠ i1 → b ≠ i2 → h₁.get? b = some o → h.get? b = some o) →
      h.get? S = some { cls := .type "list", dict := none, data := .seq acc c, slots := #[] } → acc.toList = as.map Value.ref → as.length = i → ZG xs ys lo h as → lo < h.objs.size →
      codeAny (model prog w) A (.builtin "list.extend.loop" ⟨[.ref S, .ref z, res], []⟩) R { s with heap := h, toks := tk } := by
  have nS : ∀ c, c ∈ [z, TI, TO, i1, i2, l1, l2] → c ≠ S := hS
  intro k
  induction k with
  | zero =>
    intro i h tk c acc as hk hi st kept hSl hacc hal G big
    refine codeAny_builtin PySem.F.entry_extend_loop ?_
    rw [Around.under_plainId PySem.F.plain_extend_loop _]
    show wpAny _ A.in1 (pyNext (.ref z) >>= _) _ _ _
    refine wpAny_bind (zl_done (s := { s with heap := h, toks := tk }) (A := A.in1) hh D st (by
      rcases Nat.le_total xs.size ys.size with q | q
      · exact .inl (Array.getElem?_eq_none (by omega))
      · exact .inr (Array.getElem?_eq_none (by omega))) fun h' he => ?_)
    refine wpAny_pure (hR h' tk acc c as (fun b o b1 b2 b3 b4 b5 e => he b o b2 b3 b4 b5 (kept b o b1 b2 b3 b4 b5 e)) (he S _ (Ne.symm (nS z (by simp))) (Ne.symm (nS TO (by simp))) (Ne.symm (nS i1 (by simp))) (Ne.symm (nS i2 (by simp))) hSl) (by omega) ⟨G.rise, G.above, fun j a hj => ?_⟩ hacc)
    obtain ⟨x, y, e1, e2, e3⟩ := G.pairs j a hj
    have ha := G.above a (List.mem_of_getElem? hj)
    have ne : ∀ c, c ∈ [z, TI, TO, i1, i2, l1, l2, S] → a ≠ c := fun c hc => Nat.ne_of_gt (Nat.lt_of_le_of_lt (far c hc) ha)
    exact ⟨x, y, e1, e2, he a _ (ne z (by simp)) (ne TO (by simp)) (ne i1 (by simp)) (ne i2 (by simp)) e3⟩
  | succ k ih =>
    intro i h tk c acc as hk hi st kept hSl hacc hal G big
    have lx : i < xs.size := by omega
    have ly : i < ys.size := by omega
    have hsz : acc.size = i := by rw [← Array.length_toList, hacc, List.length_map, hal]
    have lS : S < h.objs.size := Heap.lt_size hSl
    refine codeAny_builtin PySem.F.entry_extend_loop ?_
    rw [Around.under_plainId PySem.F.plain_extend_loop _]
    show wpAny _ A.in1 (pyNext (.ref z) >>= _) _ _ _
    refine wpAny_bind (zl_item (s := { s with heap := h, toks := tk }) D st lS (Array.getElem?_eq_getElem lx) (Array.getElem?_eq_getElem ly) fun h' st' ht hz hkp => ?_)
    dsimp only at ht hz hkp ⊢
    have hS' := hkp S _ (Ne.symm (nS z (by simp))) (Ne.symm (nS TO (by simp))) (Ne.symm (nS i1 (by simp))) (Ne.symm (nS i2 (by simp))) hSl
    have up : ∀ b o, b ≠ S → h'.get? b = some o → (h'.update S (Obj.mapSeq (·.push (Value.ref h.objs.size)))).get? b = some o := fun b o hb e => (Heap.get?_update_other _ _ (Ne.symm hb)).trans e
    show wpAny _ A.in1 (updateSeq S (·.push (Value.ref h.objs.size)) >>= _) _ _ _
    refine wpAny_bind (wpAny_updateSeq hS' rfl (wpAny_pure ⟨plainId_quiet PySem.F.plain_extend_loop _, ih (i + 1) _ tk _ (acc.push (Value.ref h.objs.size)) (as ++ [h.objs.size]) (by omega) (by omega) (st'.move D hS up)
      (fun b o b1 b2 b3 b4 b5 e => up b o b1 (hkp b o b2 b3 b4 b5 (kept b o b1 b2 b3 b4 b5 e))) (Heap.get?_update_self _ hS' rfl) (by rw [Array.toList_push, hacc, List.map_append]; rfl) (by rw [List.length_append, hal]; rfl) ⟨?_, ?_, ?_⟩ ?_⟩) (by rw [hsz]; omega) (by show (acc.push (Value.ref h.objs.size)).size ≤ sizeLine + 1; rw [Array.size_push, hsz]; omega))
    · refine List.pairwise_append.mpr ⟨G.rise, List.pairwise_singleton _ _, fun a ha b hb => ?_⟩
      rw [List.mem_singleton.mp hb]
      obtain ⟨j, hj⟩ := List.mem_iff_getElem?.mp ha
      obtain ⟨x, y, _, _, e3⟩ := G.pairs j a hj
      exact Heap.lt_size e3
    · intro a ha
      rcases List.mem_append.mp ha with ha | ha
      · exact G.above a ha
      · rw [List.mem_singleton.mp ha]; exact big
    · intro j b hj
      rcases Nat.lt_trichotomy j as.length with q | q | q
      · rw [List.getElem?_append_left q] at hj
        obtain ⟨x, y, e1, e2, e3⟩ := G.pairs j b hj
        have hb := G.above b (List.mem_of_getElem? hj)
        have ne : ∀ c, c ∈ [z, TI, TO, i1, i2, l1, l2, S] → b ≠ c := fun c hc => Nat.ne_of_gt (Nat.lt_of_le_of_lt (far c hc) hb)
        exact ⟨x, y, e1, e2, up b _ (ne S (by simp)) (hkp b _ (ne z (by simp)) (ne TO (by simp)) (ne i1 (by simp)) (ne i2 (by simp)) e3)⟩
      · subst q
        obtain rfl : h.objs.size = b := by simpa using hj
        exact ⟨xs[i], ys[i], by rw [hal]; exact Array.getElem?_eq_getElem lx, by rw [hal]; exact Array.getElem?_eq_getElem ly, up _ _ (Nat.ne_of_gt lS) ht⟩
      · have : (as ++ [h.objs.size])[j]? = none := List.getElem?_eq_none (by rw [List.length_append, List.length_singleton]; omega)
        rw [this] at hj
        cases hj
    · have e : (h'.update S (Obj.mapSeq (·.push (Value.ref h.objs.size)))).get? h.objs.size = _ := up _ _ (Nat.ne_of_gt lS) ht
      exact Nat.lt_trans big (Heap.lt_size e)
end
theorem zip_len0 : typeLookup (.type "zip") "__len__" = pure none := by rw [typeLookup_type, builtinLookup_eq_fast]; kernel_rfl
theorem zip_hint0 : typeLookup (.type "zip") "__length_hint__" = pure none := by rw [typeLookup_type, builtinLookup_eq_fast]; kernel_rfl
section
variable {prog : Program} {w : World} {A : Around} {E : Value → Shared → Prop} {s : Shared} {z TI TO i1 i2 l1 l2 S : Addr} {xs ys : Array Value}
theorem zl_hint (hT : s.TypeIs (.ref z) "zip") {Q : Bool → Shared → Prop} (h : Q true s) : wpAny (model prog w) A (Builtin.List.listLengthHint (.ref z)) Q E s := by
  unfold Builtin.List.listLengthHint
  refine wpAny_bind (wpAny_specialOf hT zip_len0 ?_)
  refine wpAny_bind (wpAny_specialOf hT zip_hint0 ?_)
  exact wpAny_pure h
theorem zl_extend {R : Result → Shared → Prop} (hh : A.handled = none) (D : ZipApart z TI TO i1 i2 l1 l2) (hS : ∀ c ∈ [z, TI, TO, i1, i2, l1, l2], c < S) (st : ZS z TI TO i1 i2 l1 l2 S xs ys 0 s.heap) (res : Value) (c₀ : Nat) (hl : s.heap.get? S = some { cls := .type "list", data := .seq #[] c₀ })
    (hR : ∀ h' tk acc c as, (∀ b o, b ≠ S → b ≠ z → b ≠ TO → b ≠ i1 → b ≠ i2 → s.heap.get? b = some o → h'.get? b = some o) → h'.get? S = some { cls := .type "list", dict := none, data := .seq acc c, slots := #[] } → as.length = min xs.size ys.size → ZG xs ys S h' as →
      acc.toList = as.map Value.ref → R (.ok (.ret res)) { s with heap := h', toks := tk }) (few : min xs.size ys.size ≤ sizeLine) :
    wpAny (model prog w) A.in1 (Builtin.List.listExtendWith (.ref S) (.ref z) res)
      (fun fin s' => match fin with | .done f => R (.ok f) s' | .again c' => c'.quiet = true ∧ codeAny (model prog w) A c' R s') (fun e s' => R (.error e) s') s := by
  have nS : ∀ c ∈ [z, TI, TO, i1, i2, l1, l2], c ≠ S := fun c hc => Nat.ne_of_lt (hS c hc)
  have zS := nS z (by simp)
  have key : ∀ (h : Heap) (c₁ tk : Nat), (∀ b o, b ≠ S → s.heap.get? b = some o → h.get? b = some o) → h.get? S = some { cls := .type "list", data := .seq #[] c₁ } → codeAny (model prog w) A (.builtin "list.extend.loop" ⟨[.ref S, .ref z, res], []⟩) R { s with heap := h, toks := tk } := by
    intro h c₁ tk hk hl₁
    refine zl_loop (s := s) (h₁ := s.heap) (lo := S) hh D nS (fun c hc => ?_) few res hR (min xs.size ys.size) 0 h tk c₁ #[] [] (Nat.sub_zero _) (Nat.zero_le _) (st.move D nS hk) (fun b o b1 _ _ _ _ e => hk b o b1 e) hl₁ rfl rfl ⟨List.Pairwise.nil, (fun _ ha => nomatch ha), (fun j a hj => by simp at hj)⟩ (Heap.lt_size hl₁)
    simp only [List.mem_cons, List.not_mem_nil, or_false] at hc
    rcases hc with rfl | rfl | rfl | rfl | rfl | rfl | rfl | rfl
    all_goals first | exact Nat.le_refl _ | exact Nat.le_of_lt (hS _ (by simp))
  have hT : s.TypeIs (.ref z) "zip" := by
    rcases st.2.2.2.2.2 with ⟨g, _⟩ | ⟨_, _, _, g, _⟩
    · exact ⟨_, g, rfl⟩
    · exact ⟨_, g, rfl⟩
  unfold Builtin.List.listExtendWith
  refine wpAny_bind (wpAny_typeOf (T := "zip") hT ?_)
  have h1 : Builtin.List.listSameRef (.ref S) (.ref z) = false := by simp [Builtin.List.listSameRef, Ne.symm zS]
  have h2 : (Value.type "zip" == Value.type "list") = false := by decide
  have h3 : (Value.type "zip" == Value.type "tuple") = false := by decide
  simp only [h1, h2, h3, Bool.or_false, Bool.false_eq_true, if_false]
  have it : ∀ {Q : Value → Shared → Prop} {E : Value → Shared → Prop}, Q (.ref z) s → wpAny (model prog w) A.in1 (pyIter (.ref z)) Q E s := fun {Q E} q => by
    rcases st.2.2.2.2.2 with ⟨g, _⟩ | ⟨T, f, o, g, _⟩
    · exact wpAny_pyIter_zip g q
    · exact wpAny_pyIter_slot hT F.slot_zip_iter (wpAny_call_entry F.slot_zip_iter hT F.entry_zip_iter (wpAny_pure ⟨_, rfl, "zip", _, hT, F.slot_zip_next.lookup, q⟩) (F.args_zip_iter_1 _))
  refine wpAny_bind (it ?_)
  refine wpAny_bind (wpAny_holding (zl_hint hT ?_))
  refine wpAny_ite_split (fun _ => ?_) (fun _ => wpAny_pure ⟨plainId_quiet PySem.F.plain_extend_loop _, key _ c₀ _ (fun b o _ e => e) hl⟩)
  refine wpAny_bind (wpAny_rule ?_)
  refine wpAny_bind ?_
  show wpAny _ _ (updateSeq S (·.push .none) >>= fun _ => updateSeq S (·.pop)) _ _ _
  refine wpAny_bind (wpAny_updateSeq hl rfl ?_)
  have hl₂ := Heap.get?_update_self (Obj.mapSeq (·.push Value.none)) hl rfl
  refine wpAny_updateSeq (hz := by seq_fits) hl₂ rfl ?_
  have hl₃ := Heap.get?_update_self (Obj.mapSeq (·.pop)) hl₂ rfl
  refine wpAny_pure ⟨plainId_quiet PySem.F.plain_extend_loop _, key _ _ _ (fun b o hb e => ?_) hl₃⟩
  exact (Heap.get?_update_other _ _ (Ne.symm hb)).trans ((Heap.get?_update_other _ _ (Ne.symm hb)).trans e)
theorem ZG.low {lo lo' : Addr} {h : Heap} {as : List Addr} (g : ZG xs ys lo h as) (hl : lo' ≤ lo) : ZG xs ys lo' h as := ⟨g.rise, fun a ha => Nat.lt_of_le_of_lt hl (g.above a ha), g.pairs⟩
/-- list(z) of a zip of two lists that nothing was drawn from -/
theorem zl_call {Q : Value → Shared → Prop} (hh : A.handled = none) (D : ZipApart z TI TO i1 i2 l1 l2) (hz : IsZip s.heap z TI TO .none) (hTI : IsPair s.heap TI (.ref i1) (.ref i2)) (hTO : ∃ a b, IsPair s.heap TO a b) (h1 : s.heap.IsListIter i1 l1 0) (h2 : s.heap.IsListIter i2 l2 0) (hl1 : s.heap.IsList l1 xs) (hl2 : s.heap.IsList l2 ys) (few : min xs.size ys.size ≤ sizeLine)
    (hQ : ∀ h' tk acc c as, (∀ b o, b ≠ z → b ≠ TO → b ≠ i1 → b ≠ i2 → s.heap.get? b = some o → h'.get? b = some o) → h'.get? s.heap.objs.size = some { cls := .type "list", dict := none, data := .seq acc c, slots := #[] } → as.length = min xs.size ys.size → ZG xs ys s.heap.objs.size h' as →
      acc.toList = as.map Value.ref → Q (.ref s.heap.objs.size) { s with heap := h', toks := tk }) :
    wpAny (model prog w) A (call (.type "list") [.ref z]) Q E s := by
  refine callType_codes (Q₁ := fun obj s₁ => obj = .ref s.heap.objs.size ∧ s₁ = { s with heap := s.heap.push { cls := .type "list", data := .seq #[] } }) PySem.F.called_list (PySem.F.typeCall_list_1 _) PySem.F.entry_list_init
    (code_list_new _ ⟨rfl, rfl⟩) fun obj s₁ h₁ => ?_
  obtain ⟨rfl, rfl⟩ := h₁
  have hS : (s.heap.push { cls := .type "list", data := .seq #[] }).get? s.heap.objs.size = some { cls := .type "list", data := .seq #[] } := Heap.get?_push_size _ rfl
  have p : ∀ {b o}, s.heap.get? b = some o → (s.heap.push { cls := .type "list", data := .seq #[] }).get? b = some o := fun e => Heap.get?_push_of_some _ e
  have below : ∀ c ∈ [z, TI, TO, i1, i2, l1, l2], c < s.heap.objs.size := fun c hc => by
    simp only [List.mem_cons, List.not_mem_nil, or_false] at hc
    obtain ⟨x, y, eo⟩ := hTO
    obtain ⟨_, e1, _⟩ := h1
    obtain ⟨_, e2, _⟩ := h2
    obtain ⟨_, e3, _⟩ := hl1
    obtain ⟨_, e4, _⟩ := hl2
    rcases hc with rfl | rfl | rfl | rfl | rfl | rfl | rfl
    all_goals first | exact Heap.lt_size hz | exact Heap.lt_size hTI | exact Heap.lt_size eo | exact Heap.lt_size e1 | exact Heap.lt_size e2 | exact Heap.lt_size e3 | exact Heap.lt_size e4
  refine ⟨⟨_, hS, rfl⟩, PySem.F.args_list_init_2 _ _, ?_⟩
  show wpAny _ _ (do let old ← Builtin.List.listItems (.ref s.heap.objs.size); Builtin.List.listUpdate (.ref s.heap.objs.size) (fun _ => #[]); letGo old.toList.reverse; Builtin.List.listExtendWith (.ref s.heap.objs.size) (.ref z) .none) _ _ _
  refine wpAny_bind ?_
  unfold Builtin.List.listItems
  refine wpAny_bind (wpAny_seqItems hS rfl (wpAny_pure ?_))
  show wpAny _ _ (updateSeq s.heap.objs.size (fun _ => #[]) >>= fun _ => letGo (#[] : Array Value).toList.reverse >>= fun _ => Builtin.List.listExtendWith (.ref s.heap.objs.size) (.ref z) .none) _ _ _
  refine wpAny_bind (wpAny_updateSeq hS rfl ?_)
  have hS₂ := Heap.get?_update_self (Obj.mapSeq (fun _ => (#[] : Array Value))) hS rfl
  have oth : ∀ b o, b ≠ s.heap.objs.size → s.heap.get? b = some o → ((s.heap.push { cls := .type "list", data := .seq #[] }).update s.heap.objs.size (Obj.mapSeq (fun _ => (#[] : Array Value)))).get? b = some o :=
    fun b o hb e => (Heap.get?_update_other _ _ (Ne.symm hb)).trans (p e)
  have nS : ∀ c ∈ [z, TI, TO, i1, i2, l1, l2], c ≠ s.heap.objs.size := fun c hc => Nat.ne_of_lt (below c hc)
  have st : ZS z TI TO i1 i2 l1 l2 s.heap.objs.size xs ys 0 s.heap := ⟨hTI, h1, h2, hl1, hl2, .inl ⟨hz, hTO⟩⟩
  refine wpAny_bind (wpAny_letGo ?_)
  refine zl_extend (s := { s with heap := (s.heap.push { cls := .type "list", data := .seq #[] }).update s.heap.objs.size (Obj.mapSeq (fun _ => (#[] : Array Value))) }) (A := A.in1) hh D below (st.move D nS oth) .none _ hS₂ (fun h' tk acc c as hk hS' hl hG hacc => ?_) few
  exact ⟨rfl, hQ h' tk acc c as (fun b o b1 b2 b3 b4 e => hk b o (Nat.ne_of_lt (Heap.lt_size e)) b1 b2 b3 b4 (oth b o (Nat.ne_of_lt (Heap.lt_size e)) e)) hS' hl hG hacc⟩
end
end Zl
namespace L2
open PySem PySem.Spec PyProof.Rows Dt
section
variable {X : Cx}
def tListZip (K : PySem.W.Frag) (ta : TA) : TE := fun σ H Q => ta σ H fun vs H1 => ∃ a b xs ys, vs = [.ref a, .ref b] ∧ SqL K H1 a xs ∧ SqL K H1 b ys ∧
  ∀ (H' : Hp) (p : Addr) (ts : List Addr), Evl.Ex H1 H' → H1 p = none → (∀ t ∈ ts, H1 t = none) → p ∉ ts → H' p = some (.lst (ts.map V.ref)) → Paired (fun (t : Addr) (q : V × V) => H' t = some (.tup [q.1, q.2])) ts (xs.zip ys) → Q (.ref p) H'
/-- list(zip(e, f)) -/
theorem pe_listZip {e f : Expr} {ta : TA} {p p2 pos pos2 : Pos} (hc : X.calm = true) (hg : Gl X "list") (hm : X.mg "list" = none) (hv : bootBuiltins "list" = some (.type "list")) (hg2 : Gl X "zip") (hm2 : X.mg "zip" = none) (ha : PA X [e, f] ta)
    (hs2 : starEach [e, f] X.env = (false, eval e X.env) :: starEach [f] X.env := by rfl) (hp2 : (backTo pos2 (starEach [f] X.env)).any (·.1) = false := by rfl)
    (hs : starEach [.Call (.Name "zip" p2) [e, f] [] pos2] X.env = (false, eval (.Call (.Name "zip" p2) [e, f] [] pos2) X.env) :: starEach [] X.env := by rfl) : PE X (.Call (.Name "list" p) [.Call (.Name "zip" p2) [e, f] [] pos2] [] pos) (tListZip X.K ta) := by
  refine ⟨fun pins s σ H Q I hq => wpAny_Call_Name_kw (ld_blt I hg hm hv (PyProof.Rows.callWith_type1 ?_ hs rfl))⟩
  rw [hs]
  show wpAny _ _ (spliced ((false, eval (.Call (.Name "zip" p2) [e, f] [] pos2) X.env) :: backTo pos (starEach [] X.env))) _ _ s
  refine Calls.spliced_cons (Call_ (ld_blt I hg2 hm2 PyProof.Rows.boot_zip (PyProof.Rows.callWith_type1 (thn (ha.run pos2 pins s σ H _ I hq) fun us s1 hh => ?_) hs2 hp2)))
  obtain ⟨vs, H1, I1, r1, a, b, xs, ys, rfl, hqx, hqy, q⟩ := hh
  obtain ⟨u1, u2, rfl, ra, rb⟩ := Vals.two r1
  obtain rfl : u1 = Value.ref a := ra
  obtain rfl : u2 = Value.ref b := rb
  obtain ⟨its, rv, pl, few⟩ := I1.list hqx
  obtain ⟨jts, rw', pl2, few2⟩ := I1.list hqy
  have la : a < s1.heap.objs.size := let ⟨_, _, e, _⟩ := pl; Heap.lt_size e
  have lb : b < s1.heap.objs.size := let ⟨_, _, e, _⟩ := pl2; Heap.lt_size e
  have lx := rv.length
  have ly := rw'.length
  refine call_zip_2 pl.isList pl2.isList fun h' hz hTI hTO d1 d2 hsz hk => Calls.spliced_nil ?_
  have ne : ∀ {c d : Nat}, c < d → c ≠ d ∧ d ≠ c := fun h => ⟨Nat.ne_of_lt h, Nat.ne_of_gt h⟩
  have D : ZipApart (s1.heap.objs.size + 4) (s1.heap.objs.size + 2) (s1.heap.objs.size + 3) s1.heap.objs.size (s1.heap.objs.size + 1) a b := by
    constructor <;> first | exact (ne (by omega)).1 | exact (ne (by omega)).2 | exact (ne (Nat.lt_of_lt_of_le la (by omega))).1 | exact (ne (Nat.lt_of_lt_of_le lb (by omega))).1
  refine Zl.zl_call (xs := its.toArray) (ys := jts.toArray) (I1.ok.hd hc) D hz hTI ⟨_, _, hTO⟩ d1 d2 (pl.isList.at fun o e => hk _ o e) (pl2.isList.at fun o e => hk _ o e) (by simp; omega) fun h2 tk acc c as kept hS size G hacc => ?_
  have big : s1.heap.objs.size ≤ h'.objs.size := by omega
  have kept2 : ∀ c o, s1.heap.get? c = some o → h2.get? c = some o := fun c o e => by
    have lt : c < s1.heap.objs.size := Heap.lt_size e
    exact kept c o (Nat.ne_of_lt (Nat.lt_of_lt_of_le lt (Nat.le_add_right _ _))) (Nat.ne_of_lt (Nat.lt_of_lt_of_le lt (Nat.le_add_right _ _))) (Nat.ne_of_lt lt) (Nat.ne_of_lt (Nat.lt_of_lt_of_le lt (Nat.le_add_right _ _))) (hk c o e)
  have zs : (its.zip jts).length = as.length := by rw [List.length_zip, size]; simp
  have zv : (xs.zip ys).length = as.length := by rw [List.length_zip, lx, ly, ← List.length_zip, zs]
  have ent : ∀ (j : Nat) (p : V × V), (xs.zip ys)[j]? = some p → ∃ hj : j < ((its.zip jts).map fun p => (⟨0, p.1, p.2⟩ : DictEntry)).toArray.size, RelV p.1 (((its.zip jts).map fun p => (⟨0, p.1, p.2⟩ : DictEntry)).toArray[j]'hj).key ∧ RelV p.2 (((its.zip jts).map fun p => (⟨0, p.1, p.2⟩ : DictEntry)).toArray[j]'hj).val := fun j p e => by
    rw [List.getElem?_zip_eq_some] at e
    obtain ⟨w1, e1, r1⟩ := rv.get e.1
    obtain ⟨w2, e2, r2⟩ := rw'.get e.2
    have ez : (its.zip jts)[j]? = some (w1, w2) := by rw [List.getElem?_zip_eq_some]; exact ⟨e1, e2⟩
    obtain ⟨lt, ez⟩ := List.getElem?_eq_some_iff.mp ez
    refine ⟨by simpa using lt, ?_⟩
    simp only [List.getElem_toArray, List.getElem_map, ez]
    exact ⟨r1, r2⟩
  have G2 : PySem.W.DilG ((its.zip jts).map fun p => (⟨0, p.1, p.2⟩ : DictEntry)).toArray h'.objs.size h2 as := ⟨G.rise, G.above, fun j t hj => by
    obtain ⟨x, y, e1, e2, e3⟩ := G.pairs j t hj
    have ez : (its.zip jts)[j]? = some (x, y) := by rw [List.getElem?_zip_eq_some]; exact ⟨by simpa using e1, by simpa using e2⟩
    obtain ⟨lt, ez⟩ := List.getElem?_eq_some_iff.mp ez
    refine ⟨by simpa using lt, ?_⟩
    simp only [List.getElem_toArray, List.getElem_map, ez]
    exact e3⟩
  obtain ⟨H', k1, k2, k3, k4, k5, k6, J⟩ := dil_laid (tk := tk) big I1 (by rw [size]; simp; omega) zv ent kept2 hS G2 hacc
  exact ⟨.ref _, H', J, rfl, q H' _ as k1 k2 k3 k4 k5 k6⟩
end
end L2

namespace K11
open PySem PySem.Spec PyProof.Rows L2 Tr Sq Dk Dt Exs
/-! ### _law_m_made, _law_m_ledger, _law_m_shown -/
abbrev sMade : Stmt := top 49
abbrev sMLed : Stmt := top 50
abbrev sShown : Stmt := top 51
def rowOf (t : Addr × Str × Str) : Addr × List Str := (t.1, [t.2.1, t.2.2])
theorem lps_of : ∀ {rs : RwsL} {ps : Prs}, rs.map (·.2) = ps.map (fun q => [q.1, q.2]) → ∃ ls : LpL, rs = ls.map rowOf ∧ ls.map (·.2) = ps
  | [], [], _ => ⟨[], rfl, rfl⟩
  | [], _ :: _, h => by cases h
  | _ :: _, [], h => by cases h
  | r :: rs, q :: ps, h => by
    rw [List.map_cons, List.map_cons] at h
    injection h with h1 h2
    obtain ⟨ls, e1, e2⟩ := lps_of h2
    obtain ⟨a, l⟩ := r
    have h1 : l = [q.1, q.2] := h1
    subst h1
    exact ⟨(a, q.1, q.2) :: ls, by rw [e1]; rfl, by rw [List.map_cons, e2]⟩
def spMade (C : Addr) : Sp := fun vs H Q _ => ∃ (p c s a b : Addr) (n : Nat) (hs0 : List Str) (qs : PrL), vs = [.ref p, .ref s] ∧ StrAt H p c n ∧ n + 50 ≤ 1000000000 ∧ H s = some (.tup [.ref a, .ref b]) ∧ H a = some (.lst (hs0.map V.str)) ∧ H b = some (.lst (refsL qs)) ∧ b ≠ p ∧ b ≠ c ∧ PrsAt H qs ∧ Tree hs0 (qs.map (·.2)) ∧ hs0 ≠ [] ∧ hs0.length ≤ 12 ∧ qs.length ≤ 12 ∧ (∀ h ∈ hs0, h ∈ names12) ∧
  ∀ (v : Addr) (hs : List Str) (ps : Prs) (m : VilD) (H' : Hp), H v = none → Vil H' C v hs ps m → FreshV H hs m → hs.Perm hs0 → sortedS hs = true → ps.Perm ((qs.map (·.2)).map ordP) → ps.Pairwise (fun x y => Srs.lexT y x = false) → Tree hs ps → Kp p c H H' → StrAt H' p c (n + 50) → Q (.ref v) H'
def spMLed : Sp := fun vs H Q _ => ∃ (a b : Addr) (qs : PrL) (ns : List Nat), vs = [.ref a, .ref b] ∧ H a = some (.lst (refsL qs)) ∧ PrsAt H qs ∧ H b = some (.lst (ns.map fun (x : Nat) => V.int (x : Nat))) ∧ qs.length = ns.length ∧ qs.length ≤ 1000 ∧ (qs.map (·.2)).Nodup ∧
  ∀ (d : Addr) (kvs : List (List Key × V)) (H' : Hp), Led (qs.map (·.2)) kvs → Evl.Ex H H' → H d = none → H' d = some (.dT kvs) → Q (.ref d) H'
def spShown : Sp := fun vs H Q _ => ∃ (p c g : Addr) (n : Nat), vs = [.ref p, .ref g] ∧ StrAt H p c n ∧ n + 40 ≤ 1000000000 ∧
  ((∃ (kvs : List (Key × V)), H g = some (.dK kvs) ∧ kvs.length ≤ 40 ∧ (kvs.map (·.1)).Nodup ∧ ∀ (d : Addr) (kvs' : List (Key × V)) (H' : Hp), kvs'.Perm kvs → H d = none → H' d = some (.dK kvs') → Kp p c H H' → StrAt H' p c (n + 40) → Q (.ref d) H') ∨
   ∃ (kvs : List (List Key × V)), H g = some (.dT kvs) ∧ kvs.length ≤ 40 ∧ (kvs.map (·.1)).Nodup ∧ ∀ (d : Addr) (kvs' : List (List Key × V)) (H' : Hp), kvs'.Perm kvs → H d = none → H' d = some (.dT kvs') → Kp p c H H' → StrAt H' p c (n + 40) → Q (.ref d) H')
section
variable {P : Program} {w : World} {K : PySem.W.Frag} {mg : Str → Option Value} {base : Heap}
theorem scMade : FnScope ["stream", "some"] ["stream", "some"] (defScope sMade) := ⟨rfl, rfl, rfl, by decide +kernel, rfl, by decide +kernel, by decide +kernel⟩
theorem ok_made {C f fX fL fN : Addr} {fd fdX fdL fdN : FuncData} (F : FnP K "_law_m_made" sMade f fd) (GX : FnOk P w K mg base CX0 2 fX fdX ["stream", "some"] (spMixed K)) (bX : L2.Binds K fdX ["stream", "some"] []) (kX : PySem.W.keepIn K (.ref fX) = true) (gX : mg "_law_mixed" = some (.ref fX))
    (GL2 : FnOk P w K mg base CX0 3 fL fdL ["stream", "thing"] spLoose2) (GL3 : FnOk P w K mg base CX0 4 fL fdL ["stream", "thing"] spLoose3) (bL : L2.Binds K fdL ["stream", "thing"] []) (kL : PySem.W.keepIn K (.ref fL) = true) (gL : mg "_law_loose" = some (.ref fL))
    (gN : mg "Village" = some (.ref C)) (MN : Mk K C fN) (GN : FnOk P w K mg base CX0 4 fN fdN ["self", "houses", "paths"] (spInitL K)) (bN : L2.Binds K fdN ["self", "houses", "paths"] []) (vc : VC P w K mg base C) : FnOk P w K mg base CX0 6 f fd ["stream", "some"] (spMade C) := by
  refine F.ok scMade (fun vs H Q E h => ?_) (fun cdv A outer s H vs Q E hr h => ?_)
  · obtain ⟨p, c, s, a, b, n, hs0, qs, rfl, _⟩ := h
    rfl
  · obtain ⟨p, c, sm, a, b, n, hs0, qs, rfl, hS, hn, hsm, ha, hb, bp, bc, hP, T, hne, h12, q12, hgood, k⟩ := h
    refine ⟨_, PSs.nox (pss_one (ps_ret (pe_make MN GN hr (by rfl) gN bN .nil pass0 (pa_cons (pe_call GL2 (hr.mono (by decide)) (by rfl) gL kL bL .nil pass0 (pa_cons (pv 0) (pa_cons (pe_call GX (hr.mono (by decide)) (by rfl) gX kX bX .nil pass0 (pa_cons (pv 0) (pa_cons (pe_ix ix_tup (pv 1) pe_int (fun _ _ => rfl)) pa_nil))) pa_nil)))
      (pa_cons (pe_call GL3 (hr.mono (by decide)) (by rfl) gL kL bL .nil pass0 (pa_cons (pv 0) (pa_cons (pe_call GX (hr.mono (by decide)) (by rfl) gX kX bX .nil pass0 (pa_cons (pv 0) (pa_cons (pe_ix ix_tup (pv 1) pe_int (fun _ _ => rfl)) pa_nil))) pa_nil))) pa_nil))))), ?_⟩
    obtain ⟨smp, smc⟩ := hS.neU hsm
    obtain ⟨ap, ac⟩ := strs_nep ha hne hS
    refine ⟨_, rfl, _, rfl, _, rfl, sm, _, 0, _, rfl, rfl, SqT.of hsm, atI_nat (j := 0) rfl, p, c, a, n, hs0.map V.str, rfl, hS, by rw [List.length_map]; omega, .inl (SqL.of ha), by rw [List.length_map]; omega, fun m1 ys H1 hm1 hm1' hpm kp1 s1 => ?_⟩
    rw [List.length_map] at s1
    obtain ⟨hs1, hhs, rfl⟩ := perm_of_map hpm hs0 rfl
    obtain ⟨m1p, m1c⟩ := hS.ne hm1
    have hl1 : hs1.length = hs0.length := hhs.length_eq
    refine ⟨p, c, _, false, m1, hs1, rfl, s1, by omega, hm1', m1p, m1c, by omega, fun t1 r1 H2 hr1 hr1' kp2 s2 => ?_⟩
    have kp02 := kp1.trans kp2
    refine ⟨_, rfl, _, rfl, _, rfl, sm, _, 1, _, rfl, rfl, SqT.of (kp02 _ _ hsm smp smc), atI_nat (j := 1) rfl, p, c, b, _, refsL qs, rfl, s2, by unfold refsL; rw [List.length_map]; omega, .inl (SqL.of (kp02 _ _ hb bp bc)), by unfold refsL; rw [List.length_map]; omega, fun m2 ys2 H3 hm2 hm2' hpm2 kp3 s3 => ?_⟩
    rw [show (refsL qs).length = qs.length by unfold refsL; rw [List.length_map]] at s3
    obtain ⟨qs1, hqs, rfl⟩ := perm_of_map (f := fun t : Addr × Str × Str => V.ref t.1) hpm2 qs rfl
    obtain ⟨m2p, m2c⟩ := s2.ne hm2
    have hl2 : qs1.length = qs.length := hqs.length_eq
    have kp03 := kp02.trans kp3
    have hP3 : ∀ t ∈ qs1, H3 t.1 = some (.tup [.str t.2.1, .str t.2.2]) ∧ t.1 ≠ p ∧ t.1 ≠ c := fun t ht => by
      have h0 := hP t (hqs.mem_iff.mp ht)
      obtain ⟨z1, z2⟩ := hS.neU h0
      exact ⟨kp03 _ _ h0 z1 z2, z1, z2⟩
    refine ⟨p, c, _, false, m2, qs1.map rowOf, rfl, s3, by rw [List.length_map]; omega, by show H3 m2 = some (.lst ((qs1.map rowOf).map fun r => V.ref r.1)); rw [hm2', List.map_map]; rfl, m2p, m2c, fun r hr => ?_, fun r hr => ?_, by rw [List.length_map]; omega, fun t2 r2 rs' H4 hr2 hrs hr2' hmap hRows kp4 s4 => ?_⟩
    · obtain ⟨t, ht, rfl⟩ := List.mem_map.mp hr
      exact ⟨true, (hP3 t ht).1⟩
    · obtain ⟨t, ht, rfl⟩ := List.mem_map.mp hr
      exact ⟨(hP3 t ht).2.1, (hP3 t ht).2.2, by show 2 ≤ 1000; decide⟩
    obtain ⟨ls, rfl, hls⟩ := lps_of (ps := qs1.map (·.2)) (by rw [hmap, List.map_map, List.map_map]; rfl)
    rw [List.length_map] at s4
    have kp04 := kp03.trans kp4
    have n1 := s1.ne hr1
    have r1L : Lt H4 t1 r1 (hs1.map V.str) := (kp3.trans kp4) _ _ hr1' n1.1 n1.2
    have r2L : Lt H4 t2 r2 (ls.map fun r => V.ref r.1) := by rw [List.map_map] at hr2'; exact hr2'
    have lpA : LpsAt H4 ls := fun t ht => (hRows (rowOf t) (List.mem_map.mpr ⟨t, ht, rfl⟩)).imp fun _ z => z
    have lsl : ls.length = qs1.length := by have := congrArg List.length hls; rw [List.length_map, List.length_map] at this; exact this
    have T1 : Tree hs1 (ls.map (·.2)) := by rw [hls]; exact T.perm hhs (hqs.map _)
    have pe1 : (ls.map (·.2)).Perm (qs.map (·.2)) := by rw [hls]; exact hqs.map _
    refine fun v dx hv hdx hne2 => ?_
    have hv4 : ∀ {b : Addr} {o : HO}, H4 b = some o → b ≠ v := fun h z => by rw [z, hv] at h; cases h
    have hd4 : ∀ {b : Addr} {o : HO}, H4 b = some o → b ≠ dx := fun h z => by rw [z, hdx] at h; cases h
    have up : ∀ {b : Addr} {o : HO}, H4 b = some o → upd (upd H4 dx (.own v)) v (.ins C dx []) b = some o := fun h => by rw [upd_ne (hv4 h), upd_ne (hd4 h)]; exact h
    refine ⟨t1, t2, v, r1, r2, C, dx, hs1, ls, rfl, upd_same, vc.cl, vc.n1, vc.n2, vc.n3, up r1L, up r2L, fun u hu => (lpA u hu).imp fun _ z => up z, T1, fun z => hne (List.length_eq_zero_iff.mp (by rw [← hl1, z]; rfl)), by omega, by omega, fun h hh => hgood h (hhs.mem_iff.mp hh), fun H5 hs ps m hkeep Vh hperm hsort hps hpw Tr hfr => ⟨rfl, ?_⟩⟩
    have x5 : Evl.Ex H4 H5 := fun b o h => hkeep b o (hv4 h) (up h)
    have kp05 : Kp p c H H5 := fun b o h z1 z2 => x5 _ _ (kp04 b o h z1 z2)
    have fr0 : ∀ {b : Addr}, upd (upd H4 dx (.own v)) v (.ins C dx []) b = none → H b = none := fun {b} z => kp04.fresh s4 (none_of (fun o => up) z)
    refine k v hs ps m H5 (kp04.fresh s4 hv) Vh ⟨fr0 hfr.a, fr0 hfr.b, fr0 hfr.d, fun t ht => fr0 (hfr.z t ht), fun h hh => fr0 (hfr.ad h hh)⟩ (hperm.trans hhs) hsort (hps.trans (pe1.map _)) hpw Tr kp05 ((s4.keep x5).mono (by omega))
theorem scMLed : FnScope ["keys", "numbers"] ["keys", "numbers"] (defScope sMLed) := ⟨rfl, rfl, rfl, by decide +kernel, rfl, by decide +kernel, by decide +kernel⟩
theorem zip_entT {H : Hp} : ∀ {ts : List Addr} {qs : PrL} {ns : List Nat}, PrsAt H qs → qs.length = ns.length → Paired (fun (t : Addr) (q : V × V) => H t = some (.tup [q.1, q.2])) ts ((refsL qs).zip (ns.map fun (x : Nat) => V.int (x : Nat))) → Paired (EntT H) ts (((qs.map (·.2)).zip ns).map fun x => (kp x.1, V.int (x.2 : Nat)))
  | _, [], [], _, _, h => by cases h; exact .nil
  | _, [], _ :: _, _, e, _ => by cases e
  | _, _ :: _, [], _, e, _ => by cases e
  | _, q :: qs, n :: ns, hP, e, h => by
    cases h with
    | cons a b => exact .cons ⟨q.1, a, hP q List.mem_cons_self⟩ (zip_entT (fun t ht => hP t (List.mem_cons_of_mem _ ht)) (by simpa using e) b)
theorem zip_led {ps : Prs} {ns : List Nat} (h : ps.length = ns.length) : Led ps ((ps.zip ns).map fun x => (kp x.1, V.int (x.2 : Nat))) := by
  refine ⟨⟨ps, .refl _, ?_⟩, fun p hp => ?_⟩
  · rw [List.map_map]
    show (ps.zip ns).map (fun x => kp x.1) = _
    rw [show (fun x : (Str × Str) × Nat => kp x.1) = kp ∘ Prod.fst from rfl, ← List.map_map, List.map_fst_zip (by omega)]
  · obtain ⟨x, _, rfl⟩ := List.mem_map.mp hp
    exact ⟨x.2, rfl⟩
theorem ok_mLed {f : Addr} {fd : FuncData} (F : FnP K "_law_m_ledger" sMLed f fd) (gL : mg "list" = none) (gZ : mg "zip" = none) (gD : mg "dict" = none) : FnOk P w K mg base CX0 1 f fd ["keys", "numbers"] spMLed := by
  refine F.ok scMLed (fun vs H Q E h => ?_) (fun cdv A outer s H vs Q E hr h => ?_)
  · obtain ⟨a, b, qs, ns, rfl, _⟩ := h
    rfl
  · obtain ⟨a, b, qs, ns, rfl, ha, hP, hb, hl, h1k, hnd, k⟩ := h
    have hr2 : _ + 2 < cLine := Nat.lt_of_le_of_lt (Nat.add_le_add_left (by decide : 2 ≤ 64) _) hr.units
    refine ⟨_, PSs.nox (pss_one (ps_ret (pe_callTy (call_dictT rfl hr2) (by rfl) gD (by decide +kernel) (pa_cons (pe_listZip (by rfl) (by rfl) gL (by decide +kernel) (by rfl) gZ (pa_cons (pv 0) (pa_cons (pv 1) pa_nil))) pa_nil)))), ?_⟩
    refine ⟨_, rfl, _, rfl, a, b, _, _, rfl, SqL.of ha, SqL.of hb, fun H3 p ts x3 hp hts hpt hp3 hz => ?_⟩
    have L := zip_led (ps := qs.map (·.2)) (ns := ns) (by rw [List.length_map]; exact hl)
    have hE := zip_entT (hP.ex x3) hl hz
    refine ⟨p, ts, _, rfl, SqL.of hp3, hE, fun d hd => ?_⟩
    rw [mergeT_new _ [] (by rw [List.nil_append]; exact L.nodup hnd), List.nil_append]
    exact k d _ _ L (x3.trans (Evl.Ex.new hd)) (none_of (fun o z => x3 _ _ z) hd) upd_same
theorem scShown : FnScope ["stream", "given"] ["stream", "given"] (defScope sShown) := ⟨rfl, rfl, rfl, by decide +kernel, rfl, by decide +kernel, by decide +kernel⟩
theorem ok_shown {f fX : Addr} {fd fdX : FuncData} (F : FnP K "_law_m_shown" sShown f fd) (GX : FnOk P w K mg base CX0 2 fX fdX ["stream", "some"] (spMixed K)) (bX : L2.Binds K fdX ["stream", "some"] []) (kX : PySem.W.keepIn K (.ref fX) = true) (gX : mg "_law_mixed" = some (.ref fX)) (gL : mg "list" = none) (gD : mg "dict" = none) : FnOk P w K mg base CX0 3 f fd ["stream", "given"] spShown := by
  refine F.ok scShown (fun vs H Q E h => ?_) (fun cdv A outer s H vs Q E hr h => ?_)
  · obtain ⟨p, c, g, n, rfl, _⟩ := h
    rfl
  · obtain ⟨p, c, g, n, rfl, hS, hn, hh⟩ := h
    have hr2 : _ + 2 < cLine := Nat.lt_of_le_of_lt (Nat.add_le_add_left (by decide : 2 ≤ 64) _) hr.units
    refine ⟨_, PSs.nox (pss_one (ps_ret (Dt.pe_or (pe_callTy (call_dictP (by rfl)) (by rfl) gD (by decide +kernel) (pa_cons (pe_call GX hr (by rfl) gX kX bX .nil pass0 (pa_cons (pv 0) (pa_cons (LiI.pe_listItems (by rfl) (pv 1) (by rfl) gL (by decide +kernel)) pa_nil))) pa_nil))
        (pe_callTy (call_dictT (by rfl) hr2) (by rfl) gD (by decide +kernel) (pa_cons (pe_call GX hr (by rfl) gX kX bX .nil pass0 (pa_cons (pv 0) (pa_cons (pe_listItemsT (by rfl) (pv 1) (by rfl) gL (by decide +kernel)) pa_nil))) pa_nil))))), ?_⟩
    rcases hh with ⟨kvs, hg, hl, hnd, k⟩ | ⟨kvs, hg, hl, hnd, k⟩
    · refine Or.inl ⟨_, rfl, _, rfl, g, _, rfl, hg, fun H17 La ts x17 hLa hts hLts hLa2 hP2 => ?_⟩
      have s17 := hS.keep x17
      have tsl : ts.length = kvs.length := Paired.length hP2
      refine ⟨p, c, La, _, ts.map V.ref, rfl, s17, by rw [List.length_map]; omega, .inl (SqL.of hLa2), by rw [List.length_map]; omega, fun mq2 ys H18 hmq2 hmq2' hpm2 kp18 s18 => ?_⟩
      rw [List.length_map] at s18
      obtain ⟨ts', hts', rfl⟩ := perm_of_map hpm2 ts rfl
      obtain ⟨kvs', hkv', hP3⟩ := perm_paired hts' hP2
      have hP4 : Paired (fun t (kv : Key × V) => SqT K H18 t [kV kv.1, kv.2]) ts' kvs' := Paired.mapP hP3 fun t kv z => SqT.of (kp18 _ _ z (s17.neU z).1 (s17.neU z).2)
      refine ⟨mq2, ts', kvs', rfl, SqL.of hmq2', hP4, fun d hd => ?_⟩
      rw [mergeK_new kvs' [] (by rw [List.nil_append]; exact (hkv'.map _).nodup_iff.mpr hnd), List.nil_append]
      have kpA : Kp p c H H18 := fun b o z h1 h2 => kp18 _ _ (x17 _ _ z) h1 h2
      exact k d kvs' _ hkv' (kpA.fresh s18 hd) upd_same (kpA.new hd) ((s18.new hd).mono (by omega))
    · refine Or.inr ⟨_, rfl, _, rfl, g, _, rfl, hg, fun H17 La ts x17 hLa hts hLts hLa2 hP2 => ?_⟩
      have s17 := hS.keep x17
      have tsl : ts.length = kvs.length := Paired.length hP2
      refine ⟨p, c, La, _, ts.map V.ref, rfl, s17, by rw [List.length_map]; omega, .inl (SqL.of hLa2), by rw [List.length_map]; omega, fun mq2 ys H18 hmq2 hmq2' hpm2 kp18 s18 => ?_⟩
      rw [List.length_map] at s18
      obtain ⟨ts', hts', rfl⟩ := perm_of_map hpm2 ts rfl
      obtain ⟨kvs', hkv', hP3⟩ := perm_paired hts' hP2
      have hP4 : Paired (EntT H18) ts' kvs' := Paired.mapP hP3 fun t kv ⟨b, z1, z2⟩ => ⟨b, kp18 _ _ z1 (s17.neU z1).1 (s17.neU z1).2, kp18 _ _ z2 (s17.neU z2).1 (s17.neU z2).2⟩
      refine ⟨mq2, ts', kvs', rfl, SqL.of hmq2', hP4, fun d hd => ?_⟩
      rw [mergeT_new kvs' [] (by rw [List.nil_append]; exact (hkv'.map _).nodup_iff.mpr hnd), List.nil_append]
      have kpA : Kp p c H H18 := fun b o z h1 h2 => kp18 _ _ (x17 _ _ z) h1 h2
      exact k d kvs' _ hkv' (kpA.fresh s18 hd) upd_same (kpA.new hd) ((s18.new hd).mono (by omega))
end
end K11

namespace K11
open PySem PySem.Spec PyProof.Rows L2 Tr Sq Dk Dt Exs
/-! ### _law_m_near -/
abbrev sMNear : Stmt := top 52
abbrev natV (l : List Nat) : List V := l.map fun (x : Nat) => V.int (x : Nat)
theorem natV_int (l : List Nat) : natV l = (l.map fun (x : Nat) => (x : Int)).map V.int := by rw [List.map_map]; rfl
def spMNear : Sp := fun vs H Q _ => ∃ (p c a b : Addr) (n : Nat) (qs : PrL) (ns : List Nat), vs = [.ref p, .ref a, .ref b] ∧ StrAt H p c n ∧ n + 10 ≤ 1000000000 ∧ H a = some (.lst (refsL qs)) ∧ a ≠ p ∧ a ≠ c ∧ PrsAt H qs ∧ H b = some (.lst (natV ns)) ∧ b ≠ p ∧ b ≠ c ∧ qs.length = ns.length ∧ qs.length ≤ 30 ∧ (qs.map (·.2)).Nodup ∧
  ∀ (d : Addr) (kvs : List (List Key × V)) (H' : Hp), Led (qs.map (·.2)) kvs → H d = none → H' d = some (.dT kvs) → Kp p c H H' → StrAt H' p c (n + 10) → Q (.ref d) H'
abbrev nmMN : List Str := ["stream", "keys", "numbers", "found", "k", "at"]
section
variable {P : Program} {w : World} {K : PySem.W.Frag} {mg : Str → Option Value} {base : Heap}
theorem scMN : FnScope nmMN ["stream", "keys", "numbers"] (defScope sMNear) := ⟨rfl, rfl, rfl, by decide +kernel, rfl, by decide +kernel, by decide +kernel⟩
theorem ok_mNear {f fD fP fM : Addr} {fd fdD fdP fdM : FuncData} (F : FnP K "_law_m_near" sMNear f fd) (GD : FnOk P w K mg base CX0 1 fD fdD ["stream", "many"] spDraw) (bD : L2.Binds K fdD ["stream", "many"] []) (kD : PySem.W.keepIn K (.ref fD) = true) (gD : mg "_law_draw" = some (.ref fD))
    (GP : FnOk P w K mg base CX0 2 fP fdP ["stream", "some"] (spPick K)) (bP : L2.Binds K fdP ["stream", "some"] []) (kP : PySem.W.keepIn K (.ref fP) = true) (gP : mg "_law_pick" = some (.ref fP))
    (GM : FnOk P w K mg base CX0 1 fM fdM ["keys", "numbers"] spMLed) (bM : L2.Binds K fdM ["keys", "numbers"] []) (kM : PySem.W.keepIn K (.ref fM) = true) (gM : mg "_law_m_ledger" = some (.ref fM)) (gL : mg "list" = none) (gR : mg "range" = none) (gLn : mg "len" = none) (gX : mg "max" = none) : FnOk P w K mg base CX0 3 f fd ["stream", "keys", "numbers"] spMNear := by
  refine F.ok scMN (fun vs H Q E h => ?_) (fun cdv A outer s H vs Q E hr h => ?_)
  · obtain ⟨p, c, a, b, n, qs, ns, rfl, _⟩ := h
    rfl
  · obtain ⟨p, c, a, b, n, qs, ns, rfl, hS, hn, ha, ap, ac, hP, hb, bp, bc, hl, h30, hnd, k⟩ := h
    refine ⟨_, PSs.nox (pss_cons (ps_set (i := 3) scMN.nd rfl (.inl rfl) (pe_callTy call_list_of (by rfl) gL (by decide +kernel) (pa_cons (pv 2) pa_nil)))
      (pss_cons (ps_for PassesOwn.never rfl (pi_range1 rfl gR (pa_cons (pe_op op_add pe_int (pe_call GD (hr.mono (by decide)) (by rfl) gD kD bD .nil pass0 (pa_cons (pv 0) (pa_cons pe_int pa_nil)))) pa_nil)) (pg_name (i := 4) scMN.nd rfl (.inl rfl))
        (pss_one (ps_if (pt_cmpR (op_neD hr.units) (pv 3) (pe_lst pa_nil) (nomark _))
          (pss_cons (ps_set (i := 5) scMN.nd rfl (.inl rfl) (pe_call GD (hr.mono (by decide)) (by rfl) gD kD bD .nil pass0 (pa_cons (pv 0) (pa_cons (pe_callB call_len_seq (by rfl) gLn PySem.boot_len (pa_cons (pv 3) pa_nil)) pa_nil))))
          (pss_one (ps_asg (pe_callB (call_max2 rfl) (by rfl) gX (by decide +kernel) (pa_cons pe_int (pa_cons (pe_op op_add (pe_ix ix_list (pv 3) (pv 5) (fun _ _ => rfl)) (pe_call GP hr (by rfl) gP kP bP .nil pass0 (pa_cons (pv 0) (pa_cons (pe_lst (pa_cons (pe_un un_neg pe_int) (pa_cons pe_int (pa_cons pe_int (pa_cons pe_int pa_nil))))) pa_nil)))) pa_nil))) (pg_sub (pv 3) (pv 5) set_list)))) pss_nil)))
      (pss_one (ps_ret (pe_call GM (hr.mono (by decide)) (by rfl) gM kM bM .nil pass0 (pa_cons (pv 1) (pa_cons (pv 3) pa_nil))))))), ?_⟩
    refine ⟨_, rfl, b, _, rfl, .inl (SqL.of hb), fun fo hfo => ?_⟩
    obtain ⟨fp, fc⟩ := hS.ne hfo
    have S1 := hS.new (o := .lst (natV ns)) hfo
    have K1 : Kp p c H (upd H fo (.lst (natV ns))) := (Kp.refl H).new hfo
    have f1 : upd H fo (.lst (natV ns)) fo = some (.lst (natV ns)) := upd_same
    generalize upd H fo (.lst (natV ns)) = H1 at S1 K1 f1 ⊢
    refine ⟨_, rfl, p, c, n, 2, rfl, S1, by omega, by decide, by decide, fun d H2 d0 d1 kp2 s2 => ?_⟩
    obtain ⟨m, rfl⟩ : ∃ m : Nat, d = (m : Int) := ⟨d.toNat, by omega⟩
    have f2 := kp2 _ _ f1 fp fc
    have K2 := K1.trans kp2
    refine ⟨_, _, rfl, rfl, _, rfl, by omega, by omega, ?_⟩
    refine for_range (lo := 0) (n := ((1 : Int) + (m : Int)).toNat) (fun i σ H' => ∃ v4 v5, σ = [some (.ref p), some (.ref a), some (.ref b), some (.ref fo), v4, v5] ∧ Kp p c H H' ∧ StrAt H' p c (n + 1 + i * 2) ∧ ∃ ns' : List Nat, H' fo = some (.lst (natV ns')) ∧ ns'.length = ns.length) ⟨_, _, rfl, K2, s2, ns, f2, rfl⟩ ?_ ?_
    · rintro i σ H3 hi ⟨v4, v5, rfl, kp3, s3, ns', e1, e2⟩
      have hi : i < 1 + m := by omega
      refine ⟨_, rfl, Nat.zero_le _, fun q hq => ?_⟩
      have xq := Evl.Ex.new (o := .lst []) hq
      have e1q := xq _ _ e1
      refine ⟨_, _, dp_ints (ns := ns'.map fun (x : Nat) => (x : Int)) (SqL.of (by rw [← natV_int]; exact e1q)), dp_ints (ns := []) (SqL.of upd_same), shaped_ints _, shaped_ints _, _, rfl, ?_⟩
      rw [show (List.map PyData.int ([] : List Int)) = [] from rfl, eqv_nil_ints]
      have kq := kp3.new (o := .lst []) hq
      have sq := s3.new (o := .lst []) hq
      generalize upd H3 q (.lst []) = H4 at e1q kq sq ⊢
      cases ns' with
      | nil => exact iteF ⟨_, _, rfl, kq, sq.mono (by omega), [], e1q, e2⟩
      | cons z r =>
        refine iteT ?_
        refine ⟨_, rfl, _, rfl, fo, _, rfl, .inl (SqL.of e1q), p, c, _, _, rfl, sq, by omega, by rw [List.length_map, List.length_cons]; omega, by rw [List.length_map, e2]; omega, fun d H5 g0 g1 kp5 s5 => ?_⟩
        obtain ⟨j, rfl⟩ : ∃ j : Nat, d = (j : Int) := ⟨d.toNat, by omega⟩
        rw [List.length_map] at g1
        have hj : j < (z :: r).length := by omega
        obtain ⟨y, hy⟩ := getD_of hj
        have e15 := kp5 _ _ e1q fp fc
        refine ⟨_, rfl, _, rfl, fo, _, _, _, rfl, rfl, SqL.of e15, atI_nat (j := j) (v := V.int (y : Nat)) (by rw [List.getElem?_map, hy]; rfl), _, rfl, _, rfl, by show 4 ≤ sizeLine; decide, fun l4 hl4 => ?_⟩
        have s6 := s5.new (o := .lst [V.int (-1), .int 1, .int 1, .int 2]) hl4
        have l4n := s5.ne hl4
        have x6 := Evl.Ex.new (o := .lst [V.int (-1), .int 1, .int 1, .int 2]) hl4
        refine ⟨p, c, l4, _, _, rfl, s6, by omega, l4n.1, l4n.2, .inl upd_same, by show 1 ≤ 4; omega, by show 4 < 1000000; omega, fun x jj H7 hx kp7 s7 => ?_⟩
        obtain ⟨g, rfl⟩ : ∃ g : Int, x = .int g := by
          have hm := List.mem_of_getElem? hx
          simp only [List.mem_cons, List.not_mem_nil, or_false] at hm
          rcases hm with rfl | rfl | rfl | rfl <;> exact ⟨_, rfl⟩
        have e17 := kp7 _ _ (x6 _ _ e15) fp fc
        refine ⟨_, _, rfl, rfl, _, _, rfl, ?_⟩
        obtain ⟨N, hN⟩ : ∃ N : Nat, (if (y : Int) + g > 0 then (y : Int) + g else 0) = (N : Int) := by
          by_cases h : (y : Int) + g > 0
          · exact ⟨((y : Int) + g).toNat, by rw [if_pos h]; omega⟩
          · exact ⟨0, by rw [if_neg h]; rfl⟩
        rw [show (if (y : Nat) + g > 0 then ((y : Nat) : Int) + g else 0) = (N : Int) from hN]
        refine ⟨_, rfl, _, rfl, fo, _, _, j, rfl, rfl, e17, Evl.ixN_nat (by rw [List.length_map]; exact hj), ?_⟩
        have k7 : Kp p c H H7 := fun b o h h1 h2 => kp7 b o (x6 b o (kp5 b o (kq b o h h1 h2) h1 h2)) h1 h2
        refine ⟨_, _, rfl, k7.mut hfo, (s7.upd fp fc).mono (by omega), (z :: r).set j N, ?_, by rw [List.length_set]; exact e2⟩
        rw [upd_same]
        show _ = some (HO.lst (((z :: r).set j N).map fun (x : Nat) => V.int (x : Nat)))
        rw [List.map_set]
    · rintro σ H3 ⟨v4, v5, rfl, kp3, s3, ns', e1, e2⟩
      have hP3 : PrsAt H3 qs := fun t ht => kp3 _ _ (hP t ht) (hS.neU (hP t ht)).1 (hS.neU (hP t ht)).2
      refine ⟨_, rfl, _, rfl, a, fo, qs, ns', rfl, kp3 _ _ ha ap ac, hP3, e1, by omega, by omega, hnd, fun d kvs H4 L x4 hd hd4 => ?_⟩
      exact k d kvs H4 L (kp3.fresh s3 hd) hd4 (fun b o h h1 h2 => x4 _ _ (kp3 b o h h1 h2)) ((s3.keep x4).mono (by omega))
end
end K11

namespace K11
open PySem PySem.Spec PyProof.Rows L2 Tr Sq Dk Dt Exs
/-! ### what is gathered in a list, beside facts that stay -/
theorem wo_ho {p c so : Addr} {H : Hp} : Evl.Ex (wo p c so H) (ho p c H) := fun b o h => by
  unfold wo at h
  split at h
  · cases h
  · rename_i z
    exact ho_at h (fun q => z (.inl q)) (fun q => z (.inr (.inl q)))
theorem wo_of {p c so : Addr} {H : Hp} {b : Addr} {o : HO} (h : ho p c H b = some o) (n : b ≠ so) : wo p c so H b = some o := by
  have h2 := ho_to _ _ h
  refine wo_at h2 (fun z => ?_) (fun z => ?_) n
  · rw [z] at h
    unfold ho at h
    rw [if_pos (.inl rfl)] at h
    cases h
  · rw [z] at h
    unfold ho at h
    rw [if_pos (.inr rfl)] at h
    cases h
theorem ho_wo {p c so : Addr} {H : Hp} {o : HO} (h : H so = none) : Evl.Ex (ho p c H) (wo p c so (upd H so o)) := fun b u e => by
  have hb : b ≠ so := fun z => by
    have := ho_to _ _ e
    rw [z, h] at this
    cases this
  rw [wo_upd]
  exact wo_of e hb
structure GB (B : Hp → V → Prop) (F : Hp → Prop) (H : Hp) (p c so : Addr) (m : Nat) (xs : List V) (Hc : Hp) : Prop where
  str : StrAt Hc p c m
  kp : Kp p c H Hc
  new : H so = none
  np : so ≠ p
  nc : so ≠ c
  at_ : Hc so = some (.lst xs)
  bad : ∀ x ∈ xs, B (wo p c so Hc) x
  fac : F (wo p c so Hc)
section
variable {B : Hp → V → Prop} {F : Hp → Prop} {H Hc Hd : Hp} {p c so : Addr} {m m' : Nat} {xs ys : List V}
theorem paired_drop {α β : Type} {R : α → β → Prop} : ∀ (n : Nat) {l : List α} {k : List β}, Paired R l k → Paired R (l.drop n) (k.drop n)
  | 0, _, _, h => h
  | _ + 1, _, _, .nil => .nil
  | n + 1, _, _, .cons _ t => paired_drop n t
theorem GB.ex (hB : ∀ (H H' : Hp) (x : V), B H x → Evl.Ex H H' → B H' x) (hF : ∀ (H H' : Hp), F H → Evl.Ex H H' → F H') (G : GB B F H p c so m xs Hc) (x : Evl.Ex Hc Hd) : GB B F H p c so m xs Hd :=
  ⟨G.str.keep x, fun b o h1 h2 h3 => x _ _ (G.kp b o h1 h2 h3), G.new, G.np, G.nc, x _ _ G.at_, fun y hy => hB _ _ _ (G.bad y hy) (wo_ex x), hF _ _ G.fac (wo_ex x)⟩
theorem GB.ext (G : GB B F H p c so m xs Hc) (hv : ∀ v ∈ ys, B (wo p c so Hc) v) : GB B F H p c so m (xs ++ ys) (upd Hc so (.lst (xs ++ ys))) := by
  refine ⟨G.str.upd G.np G.nc, G.kp.mut G.new, G.new, G.np, G.nc, upd_same, fun y hy => ?_, by rw [wo_upd]; exact G.fac⟩
  rw [wo_upd]
  rcases List.mem_append.mp hy with hy | hy
  · exact G.bad y hy
  · exact hv y hy
/-- of a new object -/
theorem GB.wnew (G : GB B F H p c so m xs Hc) {d : Addr} {o : HO} (h : Hc d = none) : wo p c so (upd Hc d o) d = some o := wo_at upd_same (G.str.ne h).1 (G.str.ne h).2 (ne_of_none G.at_ h).symm
theorem GB.wat (G : GB B F H p c so m xs Hc) {d : Addr} {o : HO} (x : Evl.Ex Hc Hd) (h : Hc d = none) (h2 : Hd d = some o) : wo p c so Hd d = some o := wo_at h2 (G.str.ne h).1 (G.str.ne h).2 (ne_of_none G.at_ h).symm
end
theorem StrAt.neD {H : Hp} {p c g : Addr} {n : Nat} {kvs : List (Key × V)} (h : StrAt H p c n) (hg : H g = some (.dK kvs)) : g ≠ p ∧ g ≠ c := by
  obtain ⟨L, cells, a, k, m, h1, h2, r⟩ := h
  exact ⟨fun z => (by rw [z, h1] at hg; cases hg), fun z => (by rw [z, h2] at hg; cases hg)⟩
/-! ### _law_m_odd_letters -/
abbrev sOddL : Stmt := top 53
def BadLt (hs : List Str) (H : Hp) (x : V) : Prop := ∃ o, DX H x o ∧ isLet hs o = false ∧ Sm H 8 x x
theorem BadLt.ex {hs : List Str} {H H' : Hp} {x : V} (h : BadLt hs H x) (e : Evl.Ex H H') : BadLt hs H' x := by
  obtain ⟨o, h1, h2, h3⟩ := h
  exact ⟨o, h1.ex e, h2, Sm.ex e _ _ _ h3⟩
theorem badLt_dict {hs : List Str} {H : Hp} {d : Addr} {out : List (Key × V)} (h : H d = some (.dK out)) (hv : ∀ q ∈ out, (∃ nm, Pl H q.2 nm) ∧ q.2 ≠ .ref d ∧ Shv H q.2) (hl : out.length ≤ 1000) (hf : isLet hs (some out) = false) : BadLt hs H (.ref d) :=
  ⟨_, .dic h (fun q hq => (hv q hq).1) (fun q hq => (hv q hq).2.1) hl, hf, .inr (.inr (.inr (.inl ⟨d, d, out, rfl, rfl, h, h, fun q hq => .inr ⟨by decide, (hv q hq).2.2⟩, hl, by decide⟩)))⟩
theorem badLt_flat {hs : List Str} {H : Hp} {x : V} {n : String} (h : Pl H x n) (hn : isB n "dict" = false) (hf : flatS x = true) : BadLt hs H x := ⟨none, .not h hn, rfl, .inl ⟨hf, rfl⟩⟩
theorem badLt_lst {hs : List Str} {H : Hp} {a : Addr} {xs : List V} (h : H a = some (.lst xs)) (hl : xs.length ≤ 1000) (hp : Paired (Sm H 7) xs xs) : BadLt hs H (.ref a) := ⟨none, .not (.lst h) rfl, rfl, .inr (.inl ⟨a, a, xs, xs, rfl, rfl, h, h, hl, hp⟩)⟩
theorem badLt_nilT {hs : List Str} {H : Hp} {a : Addr} (h : H a = some (.tup [])) : BadLt hs H (.ref a) := ⟨none, .not (.tup h) rfl, rfl, .inr (.inr (.inl ⟨a, a, [], [], rfl, rfl, .inl h, h, by show 0 ≤ 1000; decide, .nil⟩))⟩
/-- what is odd -/
def OddV (H : Hp) (x : V) : Prop := numV x = false ∧ (∃ nm, Pl H x nm) ∧ Shv H x
theorem OddV.ex {H H' : Hp} {x : V} (h : OddV H x) (e : Evl.Ex H H') : OddV H' x := ⟨h.1, h.2.1.imp fun _ z => z.ext e, h.2.2.ex e⟩
def FacL (g pl : Addr) (kvs : List (Key × V)) (ys : List Str) (odd : V) (H : Hp) : Prop := H g = some (.dK kvs) ∧ H pl = some (.lst (ys.map V.str)) ∧ OddV H odd
theorem FacL.ex {g pl : Addr} {kvs : List (Key × V)} {ys : List Str} {odd : V} {H H' : Hp} (h : FacL g pl kvs ys odd H) (e : Evl.Ex H H') : FacL g pl kvs ys odd H' := ⟨e _ _ h.1, e _ _ h.2.1, h.2.2.ex e⟩
def spOddL : Sp := fun vs H Q _ => ∃ (p c g : Addr) (n : Nat) (hs : List Str) (kvs : List (Key × V)), vs = [.ref p, .ref g] ∧ StrAt H p c n ∧ n + 2 ≤ 1000000000 ∧ H g = some (.dK kvs) ∧ LedK hs kvs ∧ hs.Nodup ∧ hs ≠ [] ∧ hs.length ≤ 30 ∧ (∀ h ∈ hs, h ∈ names12) ∧
  ∀ (x : V) (H' : Hp), BadLt hs (ho p c H') x → Kp p c H H' → StrAt H' p c (n + 2) → Q x H'
abbrev nmOL : List Str := ["stream", "letters", "houses", "odd", "some", "house"]
/-- the letters of a house -/
def letOf (kvs : List (Key × V)) (h : Str) : V := (valV kvs (Sum.inr h)).getD .non
def outZ (ys : List Str) : List (Key × V) := ys.map fun h => (Sum.inr h, .int 0)
def outO (kvs : List (Key × V)) (last : Str) (odd : V) (ys : List Str) : List (Key × V) := ys.map fun h => (Sum.inr h, if h = last then odd else letOf kvs h)
section
variable {P : Program} {w : World} {K : PySem.W.Frag} {mg : Str → Option Value} {base : Heap}
theorem scOL : FnScope nmOL ["stream", "letters"] (defScope sOddL) := ⟨rfl, rfl, rfl, by decide +kernel, rfl, by decide +kernel, by decide +kernel⟩
theorem ok_oddL {f fP : Addr} {fd fdP : FuncData} (F : FnP K "_law_m_odd_letters" sOddL f fd) (GP : FnOk P w K mg base CX0 2 fP fdP ["stream", "some"] (spPick K)) (bP : L2.Binds K fdP ["stream", "some"] []) (kP : PySem.W.keepIn K (.ref fP) = true) (gP : mg "_law_pick" = some (.ref fP)) (gL : mg "list" = none) (gD : mg "dict" = none) (gS : mg "sorted" = none) : FnOk P w K mg base CX0 3 f fd ["stream", "letters"] spOddL := by
  refine F.ok scOL (fun vs H Q E h => ?_) (fun cdv A outer s H vs Q E hr h => ?_)
  · obtain ⟨p, c, g, n, hs, kvs, rfl, _⟩ := h
    rfl
  · obtain ⟨p, c, g, n, hs, kvs, rfl, hS, hn, hg, L, hnd, hne, h30, hgd, k⟩ := h
    refine' ⟨_, PSs.nox (pss_cons (ps_set (i := 2) scOL.nd rfl (.inr rfl) (pe_callB (call_sortedD (by rfl)) (by rfl) gS (by decide +kernel) (pa_cons (pv 1) pa_nil)))
      (pss_cons (ps_set (i := 3) scOL.nd rfl (.inr rfl) (pe_call GP hr rfl gP kP bP .nil pass0 (pa_cons (pv 0) (pa_cons (pe_lst (pa_cons (pe_un un_neg pe_int) (pa_cons pe_non (pa_cons pe_bl (pa_cons pe_str (pa_cons (pe_tup (pa_cons pe_int pa_nil)) (pa_cons (pe_lst (pa_cons pe_int pa_nil)) (pa_cons pe_dnewK pa_nil)))))))) pa_nil))))
      (pss_cons (ps_set (i := 4) scOL.nd rfl (.inl rfl) (pe_lst (pa_cons pe_non (pa_cons pe_int (pa_cons (pe_lst pa_nil) (pa_cons (pe_tup pa_nil) (pa_cons pe_str (pa_cons pe_dnewK (pa_cons (LiI.pe_listItems (by rfl) (pv 1) (by rfl) gL (by decide +kernel)) (pa_cons (pe_callTy (call_dictP rfl) (by rfl) gD (by decide +kernel) (pa_cons (pe_slice sl_list (LiI.pe_listItems (by rfl) (pv 1) (by rfl) gL (by decide +kernel)) (po_some pe_int) po_none) pa_nil)) (pa_cons pe_bl pa_nil)))))))))))
      (pss_cons (ps_expr (pe_bm PySem.F.plainAttrs_list PySem.F.slot_list_extend PySem.F.type_list_extend mt_extend (pv 4) (pa_cons (pe_lst (pa_cons (pe_callTy (call_dictP rfl) (by rfl) gD (by decide +kernel) (pa_cons (pe_op op_cat (LiI.pe_listItems (by rfl) (pv 1) (by rfl) gL (by decide +kernel)) (pe_lst (pa_cons (pe_tup (pa_cons pe_str (pa_cons pe_int pa_nil))) pa_nil))) pa_nil)) (pa_cons (pe_callTy (call_dictP rfl) (by rfl) gD (by decide +kernel) (pa_cons ?lc1 pa_nil)) pa_nil))) pa_nil)))
      (pss_cons (ps_expr (pe_bm PySem.F.plainAttrs_list PySem.F.slot_list_extend PySem.F.type_list_extend mt_extend (pv 4) (pa_cons (pe_op op_rep (pe_lst (pa_cons (pe_callTy (call_dictP rfl) (by rfl) gD (by decide +kernel) (pa_cons ?lc2 pa_nil)) pa_nil)) pe_int) pa_nil)))
      (pss_one (ps_ret (pe_call GP hr rfl gP kP bP .nil pass0 (pa_cons (pv 0) (pa_cons (pv 4) pa_nil)))))))))), ?rd⟩
    case lc1 =>
      refine pe_lc (own := [("house", 5)]) (g := gName 5) (tt := tYes) (te := tTup (tCons (tVar 5) (tCons (tC (.int 0)) tNil))) rfl scOL.nd (pi_list (pv 2))
        (blkOk_by (own := [("house", 5)]) (N := nmOL) (sc := defScope sOddL) (by decide +kernel)) (fun _ _ _ _ _ => pg_name (i := 5) scOL.nd rfl (.inl rfl)) (fun _ _ _ _ _ => pts_nil) ?_
      intro _ _ _ _ _
      exact pe_tup (pa_cons (pv 5) (pa_cons pe_int pa_nil))
    case lc2 =>
      refine pe_lc (own := [("house", 5)]) (g := gName 5) (tt := tYes) (te := tTup (tCons (tVar 5) (tCons (tIf (tTest (tOp rEq (tVar 5) (tOp (rIxL K) (tVar 2) (tUn (rU fun i => .int (-i)) (tC (.int 1)))))) (tVar 3) (tDGet (tVar 1) (tVar 5))) tNil))) rfl scOL.nd (pi_list (pv 2))
        (blkOk_by (own := [("house", 5)]) (N := nmOL) (sc := defScope sOddL) (by decide +kernel)) (fun _ _ _ _ _ => pg_name (i := 5) scOL.nd rfl (.inl rfl)) (fun _ _ _ _ _ => pts_nil) ?_
      intro _ _ _ _ _
      exact pe_tup (pa_cons (pv 5) (pa_cons (pe_ifExp (pt_cmpR op_eq (pv 5) (pe_ix ix_list (pv 2) (pe_un un_neg pe_int) (fun _ _ => rfl)) (nomark _)) (pv 3) (pe_dget (hu_of hr) (pv 1) (pv 5) (fun _ _ => rfl))) pa_nil))
    case rd =>
      have knd := L.nodup hnd
      have klen := L.len
      obtain ⟨hs', hpp, hks⟩ := L.ks
      obtain ⟨gp, gc⟩ := StrAt.neD hS hg
      have hl1 : 1 ≤ hs.length := List.length_pos_iff.mpr hne
      have M0 : W0 p c H n H := ⟨hS, Kp.refl H⟩
      refine ⟨_, rfl, g, kvs, hs', rfl, .inl hg, hks, by rw [hpp.length_eq]; omega, fun ys pl hys hsr hpl => ?_⟩
      have y1 := Evl.Ex.new (o := .lst (ys.map V.str)) hpl
      have M1 := M0.ex y1
      have pl1 := M0.at_ (o := .lst (ys.map V.str)) hpl
      have g1 := (ho_ex (p := p) (c := c) y1) _ _ (ho_at hg gp gc)
      show tSeq _ _ _ _ (upd H pl (.lst (ys.map V.str)))
      generalize upd H pl (.lst (ys.map V.str)) = H1 at M1 pl1 g1 ⊢
      clear y1
      -- what is odd
      refine ⟨_, rfl, _, rfl, by show 1 ≤ sizeLine; decide, fun t1 ht1 => ⟨by show 1 ≤ sizeLine; decide, fun a1 ha1 => fun d1 hd1 => ⟨by show 7 ≤ sizeLine; decide, fun l0 hl0 => ?_⟩⟩⟩
      have z1 := Evl.Ex.new (o := .tup [V.int 1]) ht1
      have z2 := Evl.Ex.new (o := .lst [V.int 2]) ha1
      have z3 := Evl.Ex.new (o := .dK []) hd1
      have z4 := Evl.Ex.new (o := .lst [V.int (-1), .non, .bl true, .str "1", .ref t1, .ref a1, .ref d1]) hl0
      have t1' := (ho_ex (p := p) (c := c) ((z2.trans z3).trans z4)) _ _ (M1.at_ (o := .tup [V.int 1]) ht1)
      have a1' := (ho_ex (p := p) (c := c) (z3.trans z4)) _ _ ((M1.ex z1).at_ (o := .lst [V.int 2]) ha1)
      have d1' := (ho_ex (p := p) (c := c) z4) _ _ ((M1.ex (z1.trans z2)).at_ (o := .dK []) hd1)
      have l0n := ((M1.ex (z1.trans z2)).ex z3).str.ne hl0
      have zz := ((z1.trans z2).trans z3).trans z4
      have M2 := M1.ex zz
      have g2 := (ho_ex (p := p) (c := c) zz) _ _ g1
      have pl2 := (ho_ex (p := p) (c := c) zz) _ _ pl1
      have l0' := upd_same (H := upd (upd (upd H1 t1 (.tup [V.int 1])) a1 (.lst [V.int 2])) d1 (.dK [])) (a := l0) (o := .lst [V.int (-1), .non, .bl true, .str "1", .ref t1, .ref a1, .ref d1])
      clear z1 z2 z3 z4 zz ht1 ha1 hd1 hl0 M1 g1 pl1
      generalize upd (upd (upd (upd H1 t1 (.tup [V.int 1])) a1 (.lst [V.int 2])) d1 (.dK [])) l0 (.lst [V.int (-1), .non, .bl true, .str "1", .ref t1, .ref a1, .ref d1]) = H2 at M2 t1' a1' d1' l0' g2 pl2 ⊢
      refine ⟨p, c, l0, n, _, rfl, M2.str, by omega, l0n.1, l0n.2, .inl l0', by show 1 ≤ 7; omega, by show 7 < 1000000; omega, fun odd j H3 hj kp3 s3 => ?_⟩
      have x3 := ho_kp kp3
      have odd3 : OddV (ho p c H3) odd := by
        have hm := List.mem_of_getElem? hj
        simp only [List.mem_cons, List.not_mem_nil, or_false] at hm
        rcases hm with rfl | rfl | rfl | rfl | rfl | rfl | rfl
        · exact ⟨rfl, ⟨_, .int _⟩, .inl rfl⟩
        · exact ⟨rfl, ⟨_, .non⟩, .inl rfl⟩
        · exact ⟨rfl, ⟨_, .bl _⟩, .inl rfl⟩
        · exact ⟨rfl, ⟨_, .str _⟩, .inl rfl⟩
        · exact ⟨rfl, ⟨_, .tup (x3 _ _ t1')⟩, .inr (.inr (.inr ⟨t1, _, rfl, x3 _ _ t1', (fun z hz => by rw [List.mem_singleton.mp hz]; rfl), by show 1 ≤ 1000; decide⟩))⟩
        · exact ⟨rfl, ⟨_, .lst (x3 _ _ a1')⟩, .inr (.inl ⟨a1, _, rfl, x3 _ _ a1', (fun z hz => by rw [List.mem_singleton.mp hz]; rfl), by show 1 ≤ 1000; decide⟩)⟩
        · exact ⟨rfl, ⟨_, .dic (x3 _ _ d1')⟩, .inr (.inr (.inl ⟨d1, rfl, x3 _ _ d1'⟩))⟩
      have M3 := M2.kp kp3 s3
      have F3 : FacL g pl kvs ys odd (ho p c H3) := ⟨x3 _ _ g2, x3 _ _ pl2, odd3⟩
      clear t1' a1' d1' l0' g2 pl2 M2 l0n hj x3 kp3 s3 odd3
      -- the first things
      refine ⟨Nat.zero_le _, fun b1 hb1 => ⟨Nat.zero_le _, fun b2 hb2 => fun d3 hd3 => ?_⟩⟩
      have z1 := Evl.Ex.new (o := .lst []) hb1
      have z2 := Evl.Ex.new (o := .tup []) hb2
      have z3 := Evl.Ex.new (o := .dK []) hd3
      have b1' := (ho_ex (p := p) (c := c) (z2.trans z3)) _ _ (M3.at_ (o := .lst []) hb1)
      have b2' := (ho_ex (p := p) (c := c) z3) _ _ ((M3.ex z1).at_ (o := .tup []) hb2)
      have d3' := (M3.ex (z1.trans z2)).at_ (o := .dK []) hd3
      have zz := (z1.trans z2).trans z3
      have M4 := M3.ex zz
      have F4 := F3.ex (ho_ex (p := p) (c := c) zz)
      clear z1 z2 z3 zz hb1 hb2 hd3 M3 F3
      generalize upd (upd (upd H3 b1 (.lst [])) b2 (.tup [])) d3 (.dK []) = H4 at b1' b2' d3' M4 F4 ⊢
      have kvf : ∀ q ∈ kvs, flatS q.2 = true ∧ ∃ m : Nat, q.2 = .int (m : Nat) := fun q hq => by
        obtain ⟨m, e⟩ := L.ns q hq
        exact ⟨by rw [e]; rfl, m, e⟩
      have k30 : kvs.length ≤ 30 := by omega
      refine ⟨_, rfl, g, kvs, rfl, ho_to _ _ F4.1, fun H5 La ts x5 hLa hts hLts hLa2 hP2 => ?_⟩
      have M5 := M4.ex x5
      have w5 := ho_ex (p := p) (c := c) x5
      have La5 := ho_at hLa2 (M4.str.ne hLa).1 (M4.str.ne hLa).2
      have P5 : Paired (fun (t : Addr) (q : Key × V) => ho p c H5 t = some (.tup [kV q.1, q.2])) ts kvs := Paired.mapP hP2 fun t q z => ho_at z (M5.str.neU z).1 (M5.str.neU z).2
      have F5 := F4.ex w5
      have b1' := w5 _ _ b1'
      have b2' := w5 _ _ b2'
      have d3' := w5 _ _ d3'
      clear hLa hts hLts hLa2 hP2 x5 w5 M4 F4
      refine ⟨_, rfl, g, kvs, rfl, ho_to _ _ F5.1, fun H6 Lb us x6 hLb hus hLus hLb2 hQ2 => ?_⟩
      refine ⟨_, rfl, Lb, _, rfl, SqL.of hLb2, fun cc hcc => ?_⟩
      have ulen : us.length = kvs.length := Paired.length hQ2
      rw [show cutV (us.map V.ref) (some 1) none = (us.drop 1).map V.ref by
        rw [List.map_drop]
        exact cutV_drop 1 (by rw [List.length_map]; omega)]
      have xc := Evl.Ex.new (o := .lst ((us.drop 1).map V.ref)) hcc
      have Q6 : Paired (fun t (q : Key × V) => SqT K (upd H6 cc (.lst ((us.drop 1).map V.ref))) t [kV q.1, q.2]) (us.drop 1) (kvs.drop 1) := paired_drop 1 (Paired.mapP hQ2 fun t q z => SqT.of (xc _ _ z))
      refine ⟨cc, us.drop 1, kvs.drop 1, rfl, SqL.of upd_same, Q6, fun d7 hd7 => ?_⟩
      rw [mergeK_new (kvs.drop 1) [] (by rw [List.nil_append, List.map_drop]; exact knd.sublist (List.drop_sublist _ _)), List.nil_append]
      have x67 := Evl.Ex.trans x6 xc
      have M6 := M5.ex x67
      have xd := Evl.Ex.new (o := .dK (kvs.drop 1)) hd7
      have d7' := M6.at_ (o := .dK (kvs.drop 1)) hd7
      have M7 := M6.ex xd
      have w7 := ho_ex (p := p) (c := c) (x67.trans xd)
      have F7 := F5.ex w7
      have b1' := w7 _ _ b1'
      have b2' := w7 _ _ b2'
      have d3' := w7 _ _ d3'
      have La5 := w7 _ _ La5
      have P5 := Paired.mapP P5 fun t q z => w7 _ _ z
      clear hLb hus hLus hLb2 hQ2 hcc xc Q6 hd7 x6 x67 xd w7 M5 M6 F5 ulen
      generalize upd (upd H6 cc (.lst ((us.drop 1).map V.ref))) d7 (.dK (kvs.drop 1)) = H7 at M7 F7 b1' b2' d3' La5 P5 d7' ⊢
      refine ⟨by show 9 ≤ sizeLine; decide, fun so hso => ?_⟩
      have son := M7.str.ne hso
      have sonH : H so = none := M7.k.fresh M7.str hso
      have wso := ho_wo (p := p) (c := c) (o := .lst [V.non, .int 5, .ref b1, .ref b2, .str "ab", .ref d3, .ref La, .ref d7, .bl true]) hso
      have G0 : GB (BadLt hs) (FacL g pl kvs ys odd) H p c so (n + 1) [V.non, .int 5, .ref b1, .ref b2, .str "ab", .ref d3, .ref La, .ref d7, .bl true] (upd H7 so (.lst [V.non, .int 5, .ref b1, .ref b2, .str "ab", .ref d3, .ref La, .ref d7, .bl true])) := by
        refine ⟨M7.str.new hso, M7.k.new hso, sonH, son.1, son.2, upd_same, fun x hx => ?_, F7.ex wso⟩
        refine BadLt.ex ?_ wso
        simp only [List.mem_cons, List.not_mem_nil, or_false] at hx
        rcases hx with rfl | rfl | rfl | rfl | rfl | rfl | rfl | rfl | rfl
        · exact badLt_flat .non rfl rfl
        · exact badLt_flat (.int _) rfl rfl
        · exact badLt_lst b1' (by show 0 ≤ 1000; decide) .nil
        · exact badLt_nilT b2'
        · exact badLt_flat (.str _) rfl rfl
        · exact badLt_dict d3' (fun q hq => absurd hq (by simp)) (by show 0 ≤ 1000; decide) (bentK_len (by show 0 ≠ hs.length; omega))
        · exact badLt_lst La5 (by rw [List.length_map, Paired.length P5]; omega) (items_sm (m := 5) (fun _ _ z => z) (fun q hq => .inl (kvf q hq).1) P5 P5)
        · refine badLt_dict d7' (fun q hq => ?_) (by rw [List.length_drop]; omega) (bentK_len (by rw [List.length_drop]; omega))
          obtain ⟨f1, m9, e9⟩ := kvf q (List.mem_of_mem_drop hq)
          exact ⟨⟨_, by rw [e9]; exact .int _⟩, (by rw [e9]; exact fun z => by cases z), .inl f1⟩
        · exact badLt_flat (.bl _) rfl rfl
      clear wso b1' b2' d3' La5 P5 d7' M7 F7 hso
      generalize upd H7 so (.lst [V.non, .int 5, .ref b1, .ref b2, .str "ab", .ref d3, .ref La, .ref d7, .bl true]) = H8 at G0 ⊢
      generalize hxs : [V.non, .int 5, .ref b1, .ref b2, .str "ab", .ref d3, .ref La, .ref d7, .bl true] = xs0 at G0
      have hxl : xs0.length = 9 := by rw [← hxs]; rfl
      clear hxs
      have yl : ys.length = hs.length := (hys.trans hpp).length_eq
      have ynd : ys.Nodup := (hys.trans hpp).nodup_iff.mpr hnd
      have yin : ∀ h ∈ ys, h ∈ hs := fun h hh => (hys.trans hpp).mem_iff.mp hh
      have vof : ∀ h ∈ ys, ∃ m : Nat, valV kvs (Sum.inr h) = some (.int (m : Nat)) := fun h hh => by
        have h1 : (valV kvs (Sum.inr h)).isSome = true := valk_some.mpr (by rw [hks]; exact List.mem_map.mpr ⟨h, hys.mem_iff.mp hh, rfl⟩)
        cases hv : valV kvs (Sum.inr h) with
        | none => rw [hv] at h1; cases h1
        | some x =>
          have hv' := hv
          unfold valV at hv'
          obtain ⟨q, hq, e⟩ := Option.map_eq_some_iff.mp hv'
          obtain ⟨_, m, e2⟩ := kvf q (List.mem_of_find?_eq_some hq)
          exact ⟨m, by rw [← e, e2]⟩
      have hB : ∀ (H H' : Hp) (x : V), BadLt hs H x → Evl.Ex H H' → BadLt hs H' x := fun _ _ _ h e => h.ex e
      have hF : ∀ (H H' : Hp), FacL g pl kvs ys odd H → Evl.Ex H H' → FacL g pl kvs ys odd H' := fun _ _ h e => h.ex e
      -- two more
      refine ⟨_, rfl, .inl ⟨rfl, _, SqL.of G0.at_⟩, ?_⟩
      refine ⟨_, rfl, g, kvs, rfl, wo_to _ _ G0.fac.1, fun H9 Lc vs x9 hLc hvs hLvs hLc2 hR2 => ?_⟩
      refine ⟨by show 2 ≤ sizeLine; decide, fun tn htn => ⟨by show 1 ≤ sizeLine; decide, fun ln hln => ?_⟩⟩
      have u1 := Evl.Ex.new (o := .tup [V.str "nowhere", .int 1]) htn
      have u2 := Evl.Ex.new (o := .lst [V.ref tn]) hln
      have tn' := u2 _ _ (upd_same (H := H9) (a := tn) (o := .tup [V.str "nowhere", .int 1]))
      have u12 := u1.trans u2
      refine ⟨Lc, ln, _, _, rfl, rfl, u12 _ _ hLc2, upd_same, by show (vs.map V.ref).length + 1 ≤ sizeLine; rw [List.length_map, Paired.length hR2, sizeLine_eq]; omega, fun cat hcat => ?_⟩
      have u3 := Evl.Ex.new (o := .lst (vs.map V.ref ++ [V.ref tn])) hcat
      have u13 := u12.trans u3
      refine ⟨cat, vs ++ [tn], kvs ++ [((Sum.inr ("nowhere" : Str) : Key), V.int 1)], rfl, SqL.of (by rw [upd_same, List.map_append]; rfl), paired_app (Paired.mapP hR2 fun t q z => SqT.of (u13 _ _ z)) (.cons (SqT.of (u3 _ _ tn')) .nil), fun da hda => ?_⟩
      have nw : (Sum.inr ("nowhere" : Str) : Key) ∉ kvs.map (·.1) := fun z => by
        rw [hks] at z
        obtain ⟨h9, hh9, e9⟩ := List.mem_map.mp z
        have e9 : h9 = "nowhere" := Sum.inr.inj e9
        exact absurd (hgd h9 (hpp.mem_iff.mp hh9)) (by rw [e9]; decide +kernel)
      have nd9 : ((kvs ++ [((Sum.inr ("nowhere" : Str) : Key), V.int 1)]).map (·.1)).Nodup := by
        rw [List.map_append]
        refine List.nodup_append.mpr ⟨knd, by simp, fun a ha b hb e => ?_⟩
        have hb : b = Sum.inr ("nowhere" : Str) := by simpa using hb
        rw [e, hb] at ha
        exact nw ha
      rw [mergeK_new _ [] (by rw [List.nil_append]; exact nd9), List.nil_append]
      have u9 : Evl.Ex H8 H9 := x9
      have G1 := GB.ex hB hF G0 (u9.trans u13)
      have u4 := Evl.Ex.new (o := .dK (kvs ++ [((Sum.inr ("nowhere" : Str) : Key), V.int 1)])) hda
      have da' := G1.wnew (o := .dK (kvs ++ [((Sum.inr ("nowhere" : Str) : Key), V.int 1)])) hda
      have G2 := GB.ex hB hF G1 u4
      clear hLc hvs hLvs hLc2 hR2 htn hln hcat u1 u2 tn' u12 u3 u13 u9 u4 x9 G1 hda G0
      generalize upd (upd (upd (upd H9 tn (.tup [V.str "nowhere", .int 1])) ln (.lst [V.ref tn])) cat (.lst (vs.map V.ref ++ [V.ref tn]))) da (.dK (kvs ++ [((Sum.inr ("nowhere" : Str) : Key), V.int 1)])) = H10 at G2 da' ⊢
      refine ⟨_, rfl, pl, rfl, ⟨_, SqL.of (wo_to _ _ G2.fac.2.1)⟩, fun D hD => ?_⟩
      refine lc_it (walk_list (xs := ys.map V.str)) (fun i H' => EIK H10 D (outZ (ys.take i)) H') ⟨Evl.Ex.new hD, [], upd_same, rfl, .nil⟩ (fun i H' _ hp => SqL.of (hp.1 _ _ (wo_to _ _ G2.fac.2.1))) (fun i y H5 H6 hi hp hy => ?_) (fun H5 hp => ?_)
      · obtain ⟨rfl, hy⟩ := hy
        rw [List.length_map] at hi
        obtain ⟨h, hh⟩ := getD_of hi
        rw [List.getElem?_map, hh] at hy
        cases hy
        have tk : outZ (ys.take (i + 1)) = outZ (ys.take i) ++ [(Sum.inr h, .int 0)] := by unfold outZ; rw [List.take_add_one, hh, List.map_append]; rfl
        rw [tk]
        exact ⟨rfl, _, rfl, by show 2 ≤ sizeLine; decide, fun u hu => hp.push (k := Sum.inr h) (v := .int 0) hD hu (by unfold outZ; rw [List.length_map, List.length_take]; omega)⟩
      obtain ⟨x5, us5, q1, ul, q2⟩ := hp
      rw [List.length_map, List.take_length] at q2 ul
      refine ⟨D, us5, _, rfl, SqL.of q1, Paired.mapP q2 fun t q z => SqT.of z, fun db hdb => ?_⟩
      have ndz : ((outZ ys).map (·.1)).Nodup := by unfold outZ; rw [List.map_map]; exact inr_nodup ynd
      rw [mergeK_new _ [] (by rw [List.nil_append]; exact ndz), List.nil_append]
      have x5 : Evl.Ex H10 H5 := x5
      have G3 := GB.ex hB hF G2 x5
      have u4 := Evl.Ex.new (o := .dK (outZ ys)) hdb
      have db' := G3.wnew (o := .dK (outZ ys)) hdb
      have da' := (wo_ex (p := p) (c := c) (T := so) (x5.trans u4)) _ _ da'
      have G4 := GB.ex hB hF G3 u4
      clear x5 us5 q1 ul q2 hD hdb u4 G3 G2
      generalize upd H5 db (.dK (outZ ys)) = H11 at G4 da' db' ⊢
      refine ⟨by show 2 ≤ sizeLine; decide, fun lx hlx => ?_⟩
      have u1 := Evl.Ex.new (o := .lst [V.ref da, .ref db]) hlx
      have G5 := GB.ex hB hF G4 u1
      refine ⟨so, lx, _, _, rfl, rfl, G5.at_, upd_same, by rw [hxl]; show 9 + 2 ≤ sizeLine; decide, ?_⟩
      have bb : ∀ v ∈ [V.ref da, .ref db], BadLt hs (wo p c so (upd H11 lx (.lst [V.ref da, .ref db]))) v := fun v hv => by
        refine BadLt.ex ?_ (wo_ex (p := p) (c := c) (T := so) u1)
        simp only [List.mem_cons, List.not_mem_nil, or_false] at hv
        rcases hv with rfl | rfl
        · refine badLt_dict da' (fun q hq => ?_) (by rw [List.length_append]; show kvs.length + 1 ≤ 1000; omega) (bentK_len (by rw [List.length_append]; show kvs.length + 1 ≠ _; omega))
          rcases List.mem_append.mp hq with hq | hq
          · obtain ⟨f1, m9, e9⟩ := kvf q hq
            exact ⟨⟨_, by rw [e9]; exact .int _⟩, (by rw [e9]; exact fun z => by cases z), .inl f1⟩
          · rw [List.mem_singleton.mp hq]
            exact ⟨⟨_, .int _⟩, (fun z => by cases z), .inl rfl⟩
        · refine badLt_dict db' (fun q hq => ?_) (by unfold outZ; rw [List.length_map]; omega) (bentK_zero fun q hq => ?_)
          · obtain ⟨h, _, rfl⟩ := List.mem_map.mp hq
            exact ⟨⟨_, .int _⟩, (fun z => by cases z), .inl rfl⟩
          · obtain ⟨h, _, rfl⟩ := List.mem_map.mp hq
            rfl
      have G6 := GB.ext G5 bb
      clear G5 bb u1 hlx G4 da' db'
      generalize upd (upd H11 lx (.lst [V.ref da, .ref db])) so (.lst (xs0 ++ [V.ref da, .ref db])) = H12 at G6 ⊢
      generalize hxs : xs0 ++ [V.ref da, .ref db] = xs1 at G6
      have hxl1 : xs1.length = 11 := by rw [← hxs, List.length_append, hxl]; rfl
      clear hxs hxl
      -- one odd value
      have yne : ys ≠ [] := fun z => by rw [z] at yl; exact hne (List.length_eq_zero_iff.mp yl.symm)
      obtain ⟨last, hlast⟩ : ∃ last, last = ys.getLast yne := ⟨_, rfl⟩
      have atl : atI (ys.map V.str) (-1) = some (V.str last) := by
        have e := (List.dropLast_concat_getLast (l := ys) yne).symm
        rw [← hlast] at e
        conv => lhs; arg 1; rw [e]
        rw [List.map_append]
        exact atI_last _ _
      have lastm : last ∈ ys := by rw [hlast]; exact List.getLast_mem yne
      refine ⟨_, rfl, .inl ⟨rfl, _, SqL.of G6.at_⟩, ?_⟩
      refine ⟨_, rfl, pl, rfl, ⟨_, SqL.of (wo_to _ _ G6.fac.2.1)⟩, fun D hD => ?_⟩
      refine lc_it (walk_list (xs := ys.map V.str)) (fun i H' => EIK H12 D (outO kvs last odd (ys.take i)) H') ⟨Evl.Ex.new hD, [], upd_same, rfl, .nil⟩ (fun i H' _ hp => SqL.of (hp.1 _ _ (wo_to _ _ G6.fac.2.1))) (fun i y H5 H6 hi hp hy => ?_) (fun H5 hp => ?_)
      · obtain ⟨rfl, hy⟩ := hy
        rw [List.length_map] at hi
        obtain ⟨h, hh⟩ := getD_of hi
        rw [List.getElem?_map, hh] at hy
        cases hy
        have hm := List.mem_of_getElem? hh
        have tk : outO kvs last odd (ys.take (i + 1)) = outO kvs last odd (ys.take i) ++ [(Sum.inr h, if h = last then odd else letOf kvs h)] := by unfold outO; rw [List.take_add_one, hh, List.map_append]; rfl
        rw [tk]
        have ol : (outO kvs last odd (ys.take i)).length ≤ 1000 := by unfold outO; rw [List.length_map, List.length_take]; omega
        refine ⟨rfl, _, rfl, _, rfl, _, rfl, _, rfl, pl, _, -1, _, rfl, rfl, SqL.of (hp.1 _ _ (wo_to _ _ G6.fac.2.1)), atl, rfl, _, rfl, ?_⟩
        by_cases hq : h = last
        · refine ite2 (fun _ => ?_) (fun z => absurd (decide_eq_true (by rw [hq])) z)
          rw [if_pos hq]
          exact ⟨_, rfl, by show 2 ≤ sizeLine; decide, fun u hu => hp.push (k := Sum.inr h) hD hu ol⟩
        · refine ite2 (fun z => absurd (V.str.inj (of_decide_eq_true z)) hq) (fun _ => ?_)
          rw [if_neg hq]
          obtain ⟨m9, e9⟩ := vof h hm
          have e8 : letOf kvs h = .int (m9 : Nat) := by unfold letOf; rw [e9]; rfl
          rw [e8]
          exact ⟨_, rfl, _, rfl, g, _, rfl, by rw [← e9]; exact DGet.k (k := Sum.inr h) (hp.1 _ _ (wo_to _ _ G6.fac.1)), by show 2 ≤ sizeLine; decide, fun u hu => hp.push (k := Sum.inr h) hD hu ol⟩
      obtain ⟨x5, us5, q1, ul, q2⟩ := hp
      rw [List.length_map, List.take_length] at q2 ul
      refine ⟨D, us5, _, rfl, SqL.of q1, Paired.mapP q2 fun t q z => SqT.of z, fun db hdb => ?_⟩
      have ndz : ((outO kvs last odd ys).map (·.1)).Nodup := by unfold outO; rw [List.map_map]; exact inr_nodup ynd
      rw [mergeK_new _ [] (by rw [List.nil_append]; exact ndz), List.nil_append]
      have x5 : Evl.Ex H12 H5 := x5
      have G3 := GB.ex hB hF G6 x5
      have u4 := Evl.Ex.new (o := .dK (outO kvs last odd ys)) hdb
      have db' := G3.wnew (o := .dK (outO kvs last odd ys)) hdb
      have odb : odd ≠ .ref db := Pl.ne_new (G3.fac.2.2.2.1.choose_spec.ext wo_to) hdb
      have G4 := GB.ex hB hF G3 u4
      clear x5 us5 q1 ul q2 hD hdb u4 G3 G6
      generalize upd H5 db (.dK (outO kvs last odd ys)) = H13 at G4 db' ⊢
      refine ⟨by show 1 ≤ sizeLine; decide, fun lx hlx => ?_⟩
      have u1 := Evl.Ex.new (o := .lst [V.ref db]) hlx
      refine ⟨lx, 3, _, rfl, rfl, upd_same, by decide, by decide, by show 1 * 3 ≤ sizeLine; decide, fun l3 hl3 => ?_⟩
      have u2 := Evl.Ex.new (o := .lst (List.replicate (Int.toNat 3) [V.ref db]).flatten) hl3
      have G5 := GB.ex hB hF G4 (u1.trans u2)
      refine ⟨so, l3, _, _, rfl, rfl, G5.at_, upd_same, by rw [hxl1]; show 11 + 3 ≤ sizeLine; decide, ?_⟩
      have bb : ∀ v ∈ (List.replicate (Int.toNat 3) [V.ref db]).flatten, BadLt hs (wo p c so (upd (upd H13 lx (.lst [V.ref db])) l3 (.lst (List.replicate (Int.toNat 3) [V.ref db]).flatten))) v := fun v hv => by
        have hv : v ∈ [V.ref db, .ref db, .ref db] := hv
        refine BadLt.ex ?_ (wo_ex (p := p) (c := c) (T := so) (u1.trans u2))
        have hv : v = .ref db := by simpa using hv
        subst hv
        refine badLt_dict db' (fun q hq => ?_) (by unfold outO; rw [List.length_map]; omega) (bentK_val (p := (Sum.inr last, odd)) (List.mem_map.mpr ⟨last, lastm, by rw [if_pos rfl]⟩) G4.fac.2.2.1)
        obtain ⟨h, hm, rfl⟩ := List.mem_map.mp hq
        by_cases hq : h = last
        · rw [if_pos hq]
          exact ⟨G4.fac.2.2.2.1, odb, G4.fac.2.2.2.2⟩
        · rw [if_neg hq]
          obtain ⟨m9, e9⟩ := vof h hm
          have e8 : letOf kvs h = .int (m9 : Nat) := by unfold letOf; rw [e9]; rfl
          rw [e8]
          exact ⟨⟨_, .int _⟩, (fun z => by cases z), .inl rfl⟩
      have G6 := GB.ext G5 bb
      refine ⟨_, rfl, _, rfl, p, c, so, n + 1, _, rfl, G6.str, by omega, G6.np, G6.nc, .inl G6.at_, by rw [List.length_append, hxl1]; omega, by rw [List.length_append, hxl1]; show 11 + 3 < 1000000; decide, fun x j H15 hx kp15 s15 => ?_⟩
      exact k x H15 (((G6.bad x (List.mem_of_getElem? hx)).ex wo_ho).ex (ho_kp kp15)) (G6.kp.trans kp15) s15
end
end K11

/-! sorted of a dict whose keys are pairs of texts. Law-independent. -/
namespace Sdt
open PySem PySem.Spec PyProof.Rows L2 Srs Dt SrtO Dk
def prA (H : Hp) (a : Addr) : Str × Str := match H a with
  | some (.tup [.str x, .str y]) => (x, y)
  | _ => (⟨#[]⟩, ⟨#[]⟩)
theorem prA_at {H : Hp} {a : Addr} {q : Str × Str} (h : TwoAt H a q) : prA H a = q := by
  unfold TwoAt at h
  unfold prA
  simp only [h]
theorem prA_all {H : Hp} : ∀ {bs : List Addr} {ks : List (Str × Str)}, Paired (TwoAt H) bs ks → bs.map (prA H) = ks
  | _, _, .nil => rfl
  | _, _, .cons a b => by rw [List.map_cons, prA_at a, prA_all b]
theorem two_mem {H : Hp} : ∀ {bs : List Addr} {ks : List (Str × Str)}, Paired (TwoAt H) bs ks → ∀ b ∈ bs, TwoAt H b (prA H b)
  | _, _, .nil, b, hb => absurd hb (by simp)
  | _, _, .cons a r, b, hb => by
    rcases List.mem_cons.mp hb with rfl | hb
    · rw [prA_at a]
      exact a
    · exact two_mem r b hb
theorem two_of {H : Hp} : ∀ {bs : List Addr}, (∀ b ∈ bs, TwoAt H b (prA H b)) → Paired (TwoAt H) bs (bs.map (prA H))
  | [], _ => .nil
  | b :: r, h => .cons (h b List.mem_cons_self) (two_of fun y hy => h y (List.mem_cons_of_mem _ hy))
theorem keys_two {H : Hp} : ∀ {kvs : List (List Key × V)} {bs : List Addr} {ps' : List (Str × Str)}, IsKeys H kvs bs → kvs.map (·.1) = ps'.map kp → Paired (TwoAt H) bs ps'
  | [], _, [], .nil, _ => .nil
  | [], _, _ :: _, _, h => by cases h
  | _ :: _, _, [], _, h => by cases h
  | p :: r, b :: bs, q :: ps', .cons h t, e => by
    rw [List.map_cons, List.map_cons] at e
    injection e with e1 e2
    refine .cons ?_ (keys_two t e2)
    have h : H b = some (.tup (p.1.map kV)) := h
    rw [e1] at h
    exact h
theorem perm_refs : ∀ {l k : List Value}, l.Perm k → ∀ m : List Addr, k = m.map Value.ref → ∃ m' : List Addr, m'.Perm m ∧ l = m'.map Value.ref := by
  intro l k h
  induction h with
  | nil => intro m e; exact ⟨[], by rw [List.map_eq_nil_iff.mp e.symm], rfl⟩
  | @cons x l1 l2 h ih =>
    intro m e
    cases m with
    | nil => cases e
    | cons a m =>
      rw [List.map_cons] at e
      injection e with e1 e2
      obtain ⟨m', p, e3⟩ := ih m e2
      exact ⟨a :: m', p.cons a, by rw [List.map_cons, e1, e3]⟩
  | @swap x y l =>
    intro m e
    cases m with
    | nil => cases e
    | cons a m =>
      rw [List.map_cons] at e
      injection e with e1 e2
      cases m with
      | nil => cases e2
      | cons b m =>
        rw [List.map_cons] at e2
        injection e2 with e3 e4
        exact ⟨b :: a :: m, List.Perm.swap a b m, by rw [List.map_cons, List.map_cons, e1, e3, e4]⟩
  | @trans l1 l2 l3 h1 h2 ih1 ih2 =>
    intro m e
    obtain ⟨m2, p2, e2⟩ := ih2 m e
    obtain ⟨m1, p1, e1⟩ := ih1 m2 e2
    exact ⟨m1, p1.trans p2, e1⟩
def kOf (H : Hp) : Value → Str × Str
  | .ref a => prA H a
  | _ => (⟨#[]⟩, ⟨#[]⟩)
/-- sorted(d), d a dict whose keys are pairs of texts -/
def rSortedDT : List V → Hp → VK → Prop := fun xs H Q => ∃ (d : Addr) (kvs : List (List Key × V)) (ks : List (Str × Str)), xs = [V.ref d] ∧ H d = some (.dT kvs) ∧ kvs.map (·.1) = ks.map kp ∧ kvs.length ≤ 1000 ∧
  ∀ (p : Addr) (bs : List Addr) (ys : List (Str × Str)), Paired (TwoAt H) bs ys → ys.Perm ks → ys.Pairwise (fun x y => lexT y x = false) → H p = none → Q (.ref p) (upd H p (.lst (bs.map V.ref)))
variable {X : Cx}
theorem cr_sortedDT (hc : X.calm = true) : CallR X (.builtin "sorted") rSortedDT := by
  intro pins s σ H xs us Q I r h
  obtain ⟨d, kvs, ks0, rfl, hd, hks, h1k, q⟩ := h
  obtain ⟨u, rfl, rx⟩ := r.one
  cases rx
  obtain ⟨z, hs, ks, pr, o, es, ep, ho, hx, hdt, he, hn⟩ := (show ObjOk X.prog X.w H s.heap d (.dT kvs) from I.hok _ _ hd)
  have l1 : es.size = ks.length := size_of_entries he
  have l2 : kvs.length = ks.length := Paired.length pr
  have hz0 : es.size ≤ sizeLine := by rw [l1, ← l2]; exact Nat.le_trans h1k (by decide)
  refine Calls.call_function_entry PyProof.Rows.kind_sorted PyProof.Rows.plain_sorted PyProof.Rows.entry_sorted (PyProof.Rows.args_sorted1 _) ?_
  unfold Builtin.«sorted»
  refine wpAny_bind (m := checkCount "sorted" 1 1 _) (wpAny_pure ?_)
  refine wpAny_bind (PySem.W.kdu_collect (A := X.A.in1) (kdl_raw hs hx hdt) (I.ok.hd hc) ho hz0 fun h' tk acc kp it => ?_)
  have ea : acc.toList = ks.map fun x => Value.ref x.2.1 := by
    have hl : acc.toList.length = ks.length := by rw [Array.length_toList, it.1]; exact l1
    apply List.ext_getElem?
    intro j
    rw [List.getElem?_map]
    cases hj : acc.toList[j]? with
    | none =>
      have h1 := List.getElem?_eq_none_iff.mp hj
      rw [List.getElem?_eq_none (by omega)]
      all_goals rfl
    | some v =>
      obtain ⟨en, hen, hv⟩ := it.2 j v (by rw [← Array.getElem?_toList]; exact hj)
      have qe := entry_at he j
      rw [hen] at qe
      cases hb : ks[j]? with
      | none =>
        rw [hb] at qe
        exact nomatch (show some en = none from qe)
      | some b =>
        rw [hb] at qe
        have e2 : en = entryOfKey (tupleKind (mixKind X.prog X.w)) b := Option.some.inj qe
        rw [hv, e2]
        all_goals rfl
  have eb : acc.toList = (ks.map fun x => x.2.1).map Value.ref := by rw [ea, List.map_map]; all_goals rfl
  have two := keys_two (isKeys_of pr) hks
  generalize (ks.map fun x => x.2.1) = bs at eb two
  have hbl : bs.length = kvs.length := by
    rw [Paired.length two]
    have := congrArg List.length hks
    rw [List.length_map, List.length_map] at this
    omega
  have hz : acc.toList.length ≤ sizeLine := by rw [eb, List.length_map, hbl]; exact Nat.le_trans h1k (by decide)
  have I1 : Inv X pins σ H { s with heap := h', toks := tk } := I.kept kp
  have pairs : ∀ v ∈ acc.toList, IsPr h' v (kOf H v).1 (kOf H v).2 := fun v hv => by
    rw [eb] at hv
    obtain ⟨b, hb, rfl⟩ := List.mem_map.mp hv
    have ht := two_mem two b hb
    obtain ⟨_, its2, r2, o, ho, hc, n, hd⟩ := I1.hok _ _ ht
    obtain ⟨u1, u2, rfl, ri, rj⟩ := vals2 r2
    obtain ⟨t1, rfl⟩ := ri
    obtain ⟨t2, rfl⟩ := rj
    exact ⟨b, o, t1, t2, n, rfl, ho, hc, hd⟩
  refine wpAny_bind (wpAny_newList ?_ hz)
  have hoL : (h'.push (seqObj "list" acc.toList.toArray 0)).get? h'.objs.size = some (seqObj "list" acc.toList.toArray 0) := Heap.get?_push_size _ rfl
  show wpAny _ _ _ _ _ { s with heap := h'.push (seqObj "list" acc.toList.toArray 0), toks := tk }
  refine wpAny_bind (wpAny_holding (wpAny_call_entry PyProof.Rows.slot_list_sort ⟨_, hoL, rfl⟩ PyProof.Rows.entry_list_sort
    (list_sort_ord (s := { s with heap := h'.push (seqObj "list" acc.toList.toArray 0), toks := tk }) (swo_k (kOf H)) hoL hz (fun h2 => ?_) fun out hs2 hb => ⟨_, rfl, ?_⟩) (PyProof.Rows.args_list_sort _)))
  · refine prs_sortable (by omega) (fun v hm => (pairs v hm).keeps fun b o e _ => Heap.get?_push_of_some _ e) fun o e => ?_
    have e' : some o = some (seqObj "list" acc.toList.toArray 0) := e.symm.trans hoL
    cases e'
    intro c
    exact absurd (Value.type.inj c) (by decide)
  · have hpm : out.Perm acc.toList := hb.perm
    rw [eb] at hpm
    obtain ⟨bs', hbs, rfl⟩ := perm_refs hpm bs rfl
    obtain ⟨e', he'⟩ := PyProof.Rows.sortedHeap_at (vs := acc.toList) (out := (bs'.map Value.ref).toArray) hoL
    have hlen : (bs'.map V.ref).length ≤ sizeLine := by
      rw [List.length_map, hbs.length_eq, hbl]
      exact Nat.le_trans h1k (by decide)
    refine wpAny_pure ⟨_, rfl, .ref h'.objs.size, upd H h'.objs.size (.lst (bs'.map V.ref)), I1.laid (t' := tk) (fun b u e => ?_) (Nat.le_refl _)
      (show ObjOk X.prog X.w _ _ _ (.lst (bs'.map V.ref)) from ⟨hlen, bs'.map Value.ref, e', vals_refs _, he'⟩), rfl, q _ bs' (bs'.map (prA H)) (two_of fun b hb' => two_mem two b (hbs.mem_iff.mp hb')) ?_ ?_ (I1.hok.fresh (Nat.le_refl _))⟩
    · have hb : b < h'.objs.size := Heap.lt_size e
      rw [PyProof.Rows.sortedHeap_old (Nat.ne_of_lt hb) (by rw [size_push']; exact Nat.lt_succ_of_lt hb)]
      exact Heap.get?_push_of_some _ e
    · rw [← prA_all two]
      exact hbs.map _
    · have hs2 : (bs'.map Value.ref).Pairwise fun x y => lexT (kOf H y) (kOf H x) = false := hs2
      exact List.pairwise_map.mpr (List.pairwise_map.mp hs2)
end Sdt

namespace K11
open PySem PySem.Spec PyProof.Rows L2 Tr Sq Dk Dt Exs
/-! ### _law_m_odd_ledger -/
abbrev sOddG : Stmt := top 54
def BadGt (ps : Prs) (H : Hp) (x : V) : Prop := ∃ o, DXT H x o ∧ isTabT ps o = false ∧ Sm H 8 x x
theorem BadGt.ex {ps : Prs} {H H' : Hp} {x : V} (h : BadGt ps H x) (e : Evl.Ex H H') : BadGt ps H' x := by
  obtain ⟨o, h1, h2, h3⟩ := h
  exact ⟨o, h1.ex e, h2, Sm.ex e _ _ _ h3⟩
theorem badGt_dict {ps : Prs} {H : Hp} {d : Addr} {out : List (List Key × V)} (h : H d = some (.dT out)) (hv : ∀ q ∈ out, (∃ nm, Pl H q.2 nm) ∧ q.2 ≠ .ref d ∧ Shv H q.2) (hk : ∀ q ∈ out, ∃ z, q.1 = kp z) (hl : out.length ≤ 1000) (hf : isTabT ps (some out) = false) : BadGt ps H (.ref d) :=
  ⟨_, .dct h (fun q hq => (hv q hq).1) (fun q hq => (hv q hq).2.1) hl, hf, .inr (.inr (.inr (.inr ⟨d, d, out, rfl, rfl, h, h, fun q hq => .inr ⟨by decide, (hv q hq).2.2⟩, fun q hq => (by
    obtain ⟨z, e⟩ := hk q hq
    rw [e]
    show 2 ≤ 1000
    decide), hl, by decide⟩)))⟩
theorem badGt_flat {ps : Prs} {H : Hp} {x : V} {n : String} (h : Pl H x n) (hn : isB n "dict" = false) (hf : flatS x = true) : BadGt ps H x := ⟨none, .not h hn, rfl, .inl ⟨hf, rfl⟩⟩
theorem badGt_lst {ps : Prs} {H : Hp} {a : Addr} {xs : List V} (h : H a = some (.lst xs)) (hl : xs.length ≤ 1000) (hp : Paired (Sm H 7) xs xs) : BadGt ps H (.ref a) := ⟨none, .not (.lst h) rfl, rfl, .inr (.inl ⟨a, a, xs, xs, rfl, rfl, h, h, hl, hp⟩)⟩
theorem badGt_nilT {ps : Prs} {H : Hp} {a : Addr} (h : H a = some (.tup [])) : BadGt ps H (.ref a) := ⟨none, .not (.tup h) rfl, rfl, .inr (.inr (.inl ⟨a, a, [], [], rfl, rfl, .inl h, h, by show 0 ≤ 1000; decide, .nil⟩))⟩
def FacT (g pl : Addr) (kvs : List (List Key × V)) (bs : List Addr) (ys : Prs) (odd : V) (H : Hp) : Prop := H g = some (.dT kvs) ∧ H pl = some (.lst (bs.map V.ref)) ∧ Paired (TwoAt H) bs ys ∧ OddV H odd
theorem FacT.ex {g pl : Addr} {kvs : List (List Key × V)} {bs : List Addr} {ys : Prs} {odd : V} {H H' : Hp} (h : FacT g pl kvs bs ys odd H) (e : Evl.Ex H H') : FacT g pl kvs bs ys odd H' := ⟨e _ _ h.1, e _ _ h.2.1, Paired.mapP h.2.2.1 fun _ _ z => e _ _ z, h.2.2.2.ex e⟩
def spOddG : Sp := fun vs H Q _ => ∃ (p c g : Addr) (n : Nat) (ps : Prs) (kvs : List (List Key × V)), vs = [.ref p, .ref g] ∧ StrAt H p c n ∧ n + 2 ≤ 1000000000 ∧ H g = some (.dT kvs) ∧ Led ps kvs ∧ ps.Nodup ∧ ps.length ≤ 30 ∧ (∀ q ∈ ps, ordP q = q) ∧ (∀ q ∈ ps, q.1 ≠ q.2 ∧ q.1 ∈ names12 ∧ q.2 ∈ names12) ∧
  ∀ (x : V) (H' : Hp), BadGt ps (ho p c H') x → Kp p c H H' → StrAt H' p c (n + 2) → Q x H'
abbrev nmOG : List Str := ["stream", "ledger", "keys", "odd", "some", "key"]
/-- the ledger's number of a path -/
def ledOf (kvs : List (List Key × V)) (q : Str × Str) : V := (valV kvs (kp q)).getD .non
def outR (kvs : List (List Key × V)) (ys : Prs) : List (List Key × V) := ys.map fun q => (kp (q.2, q.1), ledOf kvs q)
def outQ (kvs : List (List Key × V)) (last : Str × Str) (odd : V) (ys : Prs) : List (List Key × V) := ys.map fun q => (kp q, if q = last then odd else ledOf kvs q)
theorem ent_ho {p c : Addr} {H : Hp} {n : Nat} {t : Addr} {kv : List Key × V} (hS : StrAt H p c n) (h : EntT H t kv) : EntT (ho p c H) t kv := by
  obtain ⟨b, h1, h2⟩ := h
  exact ⟨b, ho_at h1 (hS.neU h1).1 (hS.neU h1).2, ho_at h2 (hS.neU h2).1 (hS.neU h2).2⟩
theorem ord_turn {q : Str × Str} (hn : q.1 ≠ q.2) (h1 : ordP q = q) (h2 : ordP (q.2, q.1) = (q.2, q.1)) : False := by
  obtain ⟨a, b⟩ := q
  have hn : a ≠ b := hn
  unfold ordP at h1 h2
  by_cases z : Srs.ltT a b = true
  · have z2 := Srs.ltT_asym z
    rw [show ((b, a) : Str × Str).1 = b from rfl, show ((b, a) : Str × Str).2 = a from rfl, z2] at h2
    simp at h2
    exact hn h2.1
  · rw [if_neg z] at h1
    injection h1 with e1 e2
    exact hn e2
theorem two_at {H : Hp} : ∀ {bs : List Addr} {ys : Prs}, Paired (TwoAt H) bs ys → ∀ {i : Nat} {q : Str × Str}, ys[i]? = some q → ∃ b, bs[i]? = some b ∧ TwoAt H b q
  | _, _, .nil, i, q, h => by simp at h
  | _, _, .cons a _, 0, q, h => by
    simp only [List.getElem?_cons_zero, Option.some.injEq] at h
    subst h
    exact ⟨_, rfl, a⟩
  | _, _, .cons _ b, i + 1, q, h => by
    rw [List.getElem?_cons_succ] at h
    obtain ⟨y, h1, h2⟩ := two_at b h
    exact ⟨y, by rw [List.getElem?_cons_succ]; exact h1, h2⟩
section
variable {P : Program} {w : World} {K : PySem.W.Frag} {mg : Str → Option Value} {base : Heap}
theorem scOG : FnScope nmOG ["stream", "ledger"] (defScope sOddG) := ⟨rfl, rfl, rfl, by decide +kernel, rfl, by decide +kernel, by decide +kernel⟩
theorem ok_oddG {f fP : Addr} {fd fdP : FuncData} (F : FnP K "_law_m_odd_ledger" sOddG f fd) (GP : FnOk P w K mg base CX0 2 fP fdP ["stream", "some"] (spPick K)) (bP : L2.Binds K fdP ["stream", "some"] []) (kP : PySem.W.keepIn K (.ref fP) = true) (gP : mg "_law_pick" = some (.ref fP)) (gL : mg "list" = none) (gD : mg "dict" = none) (gS : mg "sorted" = none) : FnOk P w K mg base CX0 3 f fd ["stream", "ledger"] spOddG := by
  refine F.ok scOG (fun vs H Q E h => ?_) (fun cdv A outer s H vs Q E hr h => ?_)
  · obtain ⟨p, c, g, n, ps, kvs, rfl, _⟩ := h
    rfl
  · obtain ⟨p, c, g, n, ps, kvs, rfl, hS, hn, hg, L, hnd, h30, hord, hpg, k⟩ := h
    have hr2 : _ + 2 < cLine := Nat.lt_of_le_of_lt (Nat.add_le_add_left (by decide : 2 ≤ 64) _) hr.units
    refine' ⟨_, PSs.nox (pss_cons (ps_asg (pe_tup (pa_cons (pe_callB (Sdt.cr_sortedDT (by rfl)) (by rfl) gS (by decide +kernel) (pa_cons (pv 1) pa_nil)) (pa_cons (pe_call GP hr rfl gP kP bP .nil pass0 (pa_cons (pv 0) (pa_cons (pe_lst (pa_cons (pe_un un_neg pe_int) (pa_cons pe_non (pa_cons pe_bl (pa_cons pe_str (pa_cons (pe_tup (pa_cons pe_int pa_nil)) (pa_cons (pe_lst (pa_cons pe_int pa_nil)) (pa_cons pe_dnewK pa_nil)))))))) pa_nil))) pa_nil))) (pg_tup (by rfl) (pgs_cons (pg_name (i := 2) scOG.nd rfl (.inr rfl)) (pgs_cons (pg_name (i := 3) scOG.nd rfl (.inr rfl)) pgs_nil))))
      (pss_cons (ps_set (i := 4) scOG.nd rfl (.inl rfl) (pe_lst (pa_cons pe_non (pa_cons pe_int (pa_cons (pe_lst pa_nil) (pa_cons pe_str (pa_cons pe_bl (pa_cons (pe_tup pa_nil) (pa_cons (pe_callTy (call_dictT rfl hr2) (by rfl) gD (by decide +kernel) (pa_cons (pe_op op_cat (pe_listItemsT (by rfl) (pv 1) (by rfl) gL (by decide +kernel)) (pe_lst (pa_cons (pe_tup (pa_cons (pe_tup (pa_cons pe_str (pa_cons pe_str pa_nil))) (pa_cons pe_int pa_nil))) pa_nil))) pa_nil)) pa_nil)))))))))
      (pss_cons (ps_if (pt_cmpR (op_neD hr.units) (pv 2) (pe_lst pa_nil) (nomark _))
        (pss_cons (ps_expr (pe_bm PySem.F.plainAttrs_list PySem.F.slot_list_extend PySem.F.type_list_extend mt_extend (pv 4) (pa_cons (pe_lst (pa_cons pe_dnewT (pa_cons (pe_callTy (call_dictT rfl hr2) (by rfl) gD (by decide +kernel) (pa_cons (pe_slice sl_list (pe_listItemsT (by rfl) (pv 1) (by rfl) gL (by decide +kernel)) (po_some pe_int) po_none) pa_nil)) (pa_cons (pe_listItemsT (by rfl) (pv 1) (by rfl) gL (by decide +kernel)) pa_nil)))) pa_nil)))
        (pss_cons (ps_expr (pe_bm PySem.F.plainAttrs_list PySem.F.slot_list_append PySem.F.type_list_append mt_append (pv 4) (pa_cons (pe_callTy (call_dictT rfl hr2) (by rfl) gD (by decide +kernel) (pa_cons ?lc1 pa_nil)) pa_nil)))
        (pss_one (ps_expr (pe_bm PySem.F.plainAttrs_list PySem.F.slot_list_extend PySem.F.type_list_extend mt_extend (pv 4) (pa_cons (pe_op op_rep (pe_lst (pa_cons (pe_callTy (call_dictT rfl hr2) (by rfl) gD (by decide +kernel) (pa_cons ?lc2 pa_nil)) pa_nil)) pe_int) pa_nil)))))) pss_nil)
      (pss_one (ps_ret (pe_call GP hr rfl gP kP bP .nil pass0 (pa_cons (pv 0) (pa_cons (pv 4) pa_nil)))))))), ?rd⟩
    case lc1 =>
      refine pe_lc (own := [("key", 5)]) (g := gName 5) (tt := tYes) (te := tTup (tCons (tRevT K (tVar 5)) (tCons (tDGet (tVar 1) (tVar 5)) tNil))) rfl scOG.nd (pi_list (pv 2))
        (blkOk_by (own := [("key", 5)]) (N := nmOG) (sc := defScope sOddG) (by decide +kernel)) (fun _ _ _ _ _ => pg_name (i := 5) scOG.nd rfl (.inl rfl)) (fun _ _ _ _ _ => pts_nil) ?_
      intro _ _ _ _ _
      exact pe_tup (pa_cons (pe_revT (pv 5)) (pa_cons (pe_dget (hu_of hr) (pv 1) (pv 5) (fun _ _ => rfl)) pa_nil))
    case lc2 =>
      refine pe_lc (own := [("key", 5)]) (g := gName 5) (tt := tYes) (te := tTup (tCons (tVar 5) (tCons (tIf (tTest (tOp (rEqD K) (tVar 5) (tOp (rIxL K) (tVar 2) (tUn (rU fun i => .int (-i)) (tC (.int 1)))))) (tVar 3) (tDGet (tVar 1) (tVar 5))) tNil))) rfl scOG.nd (pi_list (pv 2))
        (blkOk_by (own := [("key", 5)]) (N := nmOG) (sc := defScope sOddG) (by decide +kernel)) (fun _ _ _ _ _ => pg_name (i := 5) scOG.nd rfl (.inl rfl)) (fun _ _ _ _ _ => pts_nil) ?_
      intro _ _ _ _ _
      exact pe_tup (pa_cons (pv 5) (pa_cons (pe_ifExp (pt_cmpR (op_eqD hr.units) (pv 5) (pe_ix ix_list (pv 2) (pe_un un_neg pe_int) (fun _ _ => rfl)) (nomark _)) (pv 3) (pe_dget (hu_of hr) (pv 1) (pv 5) (fun _ _ => rfl))) pa_nil))
    case rd =>
      have knd := L.nodup hnd
      have klen := L.len
      obtain ⟨ps', hpp, hks⟩ := L.ks
      obtain ⟨gp, gc⟩ := StrAt.neT hS hg
      have M0 : W0 p c H n H := ⟨hS, Kp.refl H⟩
      have dpP : ∀ {Hc : Hp} {b : Addr} {q : Str × Str}, Hc b = some (.tup [.str q.1, .str q.2]) → Dp K Hc (.ref b) (pdPair q) := fun {Hc b q} h => .tup (SqT.of h) (.cons (.str _) (.cons (.str _) .nil))
      have kvf : ∀ q ∈ kvs, flatS q.2 = true ∧ ∃ m : Nat, q.2 = .int (m : Nat) := fun q hq => by
        obtain ⟨m, e⟩ := L.ns q hq
        exact ⟨by rw [e]; rfl, m, e⟩
      have kvk : ∀ q ∈ kvs, ∃ z ∈ ps, q.1 = kp z := fun q hq => by
        have : q.1 ∈ kvs.map (·.1) := List.mem_map.mpr ⟨q, hq, rfl⟩
        rw [hks] at this
        obtain ⟨z, hz, e⟩ := List.mem_map.mp this
        exact ⟨z, hpp.mem_iff.mp hz, e.symm⟩
      refine ⟨_, rfl, g, kvs, ps', rfl, hg, hks, by omega, fun pl bs ys htwo hys hsr hpl => ?_⟩
      have y1 := Evl.Ex.new (o := .lst (bs.map V.ref)) hpl
      have M1 := M0.ex y1
      have pl1 := M0.at_ (o := .lst (bs.map V.ref)) hpl
      have g1 := (ho_ex (p := p) (c := c) y1) _ _ (ho_at hg gp gc)
      have tw1 : Paired (TwoAt (ho p c (upd H pl (.lst (bs.map V.ref))))) bs ys := Paired.mapP htwo fun b q z => (ho_ex (p := p) (c := c) y1) _ _ (ho_at z (hS.neU z).1 (hS.neU z).2)
      clear y1 htwo hpl
      generalize upd H pl (.lst (bs.map V.ref)) = H1 at M1 pl1 g1 tw1 ⊢
      -- what is odd
      refine ⟨_, rfl, _, rfl, by show 1 ≤ sizeLine; decide, fun t1 ht1 => ⟨by show 1 ≤ sizeLine; decide, fun a1 ha1 => fun d1 hd1 => ⟨by show 7 ≤ sizeLine; decide, fun l0 hl0 => ?_⟩⟩⟩
      have z1 := Evl.Ex.new (o := .tup [V.int 1]) ht1
      have z2 := Evl.Ex.new (o := .lst [V.int 2]) ha1
      have z3 := Evl.Ex.new (o := .dK []) hd1
      have z4 := Evl.Ex.new (o := .lst [V.int (-1), .non, .bl true, .str "1", .ref t1, .ref a1, .ref d1]) hl0
      have t1' := (ho_ex (p := p) (c := c) ((z2.trans z3).trans z4)) _ _ (M1.at_ (o := .tup [V.int 1]) ht1)
      have a1' := (ho_ex (p := p) (c := c) (z3.trans z4)) _ _ ((M1.ex z1).at_ (o := .lst [V.int 2]) ha1)
      have d1' := (ho_ex (p := p) (c := c) z4) _ _ ((M1.ex (z1.trans z2)).at_ (o := .dK []) hd1)
      have l0n := ((M1.ex (z1.trans z2)).ex z3).str.ne hl0
      have zz := ((z1.trans z2).trans z3).trans z4
      have M2 := M1.ex zz
      have g2 := (ho_ex (p := p) (c := c) zz) _ _ g1
      have pl2 := (ho_ex (p := p) (c := c) zz) _ _ pl1
      have tw2 := Paired.mapP tw1 fun b q z => (ho_ex (p := p) (c := c) zz) _ _ z
      have l0' := upd_same (H := upd (upd (upd H1 t1 (.tup [V.int 1])) a1 (.lst [V.int 2])) d1 (.dK [])) (a := l0) (o := .lst [V.int (-1), .non, .bl true, .str "1", .ref t1, .ref a1, .ref d1])
      clear z1 z2 z3 z4 zz ht1 ha1 hd1 hl0 M1 g1 pl1 tw1
      generalize upd (upd (upd (upd H1 t1 (.tup [V.int 1])) a1 (.lst [V.int 2])) d1 (.dK [])) l0 (.lst [V.int (-1), .non, .bl true, .str "1", .ref t1, .ref a1, .ref d1]) = H2 at M2 t1' a1' d1' l0' g2 pl2 tw2 ⊢
      refine ⟨p, c, l0, n, _, rfl, M2.str, by omega, l0n.1, l0n.2, .inl l0', by show 1 ≤ 7; omega, by show 7 < 1000000; omega, fun odd j H3 hj kp3 s3 => ?_⟩
      have x3 := ho_kp kp3
      have odd3 : OddV (ho p c H3) odd := by
        have hm := List.mem_of_getElem? hj
        simp only [List.mem_cons, List.not_mem_nil, or_false] at hm
        rcases hm with rfl | rfl | rfl | rfl | rfl | rfl | rfl
        · exact ⟨rfl, ⟨_, .int _⟩, .inl rfl⟩
        · exact ⟨rfl, ⟨_, .non⟩, .inl rfl⟩
        · exact ⟨rfl, ⟨_, .bl _⟩, .inl rfl⟩
        · exact ⟨rfl, ⟨_, .str _⟩, .inl rfl⟩
        · exact ⟨rfl, ⟨_, .tup (x3 _ _ t1')⟩, .inr (.inr (.inr ⟨t1, _, rfl, x3 _ _ t1', (fun z hz => by rw [List.mem_singleton.mp hz]; rfl), by show 1 ≤ 1000; decide⟩))⟩
        · exact ⟨rfl, ⟨_, .lst (x3 _ _ a1')⟩, .inr (.inl ⟨a1, _, rfl, x3 _ _ a1', (fun z hz => by rw [List.mem_singleton.mp hz]; rfl), by show 1 ≤ 1000; decide⟩)⟩
        · exact ⟨rfl, ⟨_, .dic (x3 _ _ d1')⟩, .inr (.inr (.inl ⟨d1, rfl, x3 _ _ d1'⟩))⟩
      have M3 := M2.kp kp3 s3
      have F3 : FacT g pl kvs bs ys odd (ho p c H3) := ⟨x3 _ _ g2, x3 _ _ pl2, Paired.mapP tw2 fun b q z => x3 _ _ z, odd3⟩
      clear t1' a1' d1' l0' g2 pl2 tw2 M2 l0n hj x3 kp3 s3 odd3
      refine ⟨by show 2 ≤ sizeLine; decide, fun tp htp => ?_⟩
      have xt := Evl.Ex.new (o := .tup [V.ref pl, odd]) htp
      refine ⟨tp, _, rfl, SqT.of upd_same, rfl, _, _, rfl, _, _, rfl, rfl, ?_⟩
      have M3 := M3.ex xt
      have F3 := F3.ex (ho_ex (p := p) (c := c) xt)
      clear xt htp
      generalize upd H3 tp (.tup [V.ref pl, odd]) = H3 at M3 F3 ⊢
      -- the first things
      refine ⟨Nat.zero_le _, fun b1 hb1 => ⟨Nat.zero_le _, fun b2 hb2 => ?_⟩⟩
      have z1 := Evl.Ex.new (o := .lst []) hb1
      have z2 := Evl.Ex.new (o := .tup []) hb2
      have b1' := (ho_ex (p := p) (c := c) z2) _ _ (M3.at_ (o := .lst []) hb1)
      have b2' := (M3.ex z1).at_ (o := .tup []) hb2
      have zz := z1.trans z2
      have M4 := M3.ex zz
      have F4 := F3.ex (ho_ex (p := p) (c := c) zz)
      clear z1 z2 zz hb1 hb2 M3 F3
      generalize upd (upd H3 b1 (.lst [])) b2 (.tup []) = H4 at b1' b2' M4 F4 ⊢
      refine ⟨_, rfl, g, kvs, rfl, ho_to _ _ F4.1, fun H9 Lc vs x9 hLc hvs hLvs hLc2 hR2 => ?_⟩
      refine ⟨by show 2 ≤ sizeLine; decide, fun kn hkn => ⟨by show 2 ≤ sizeLine; decide, fun tn htn => ⟨by show 1 ≤ sizeLine; decide, fun ln hln => ?_⟩⟩⟩
      have u0 := Evl.Ex.new (o := .tup [V.str "a", .str "nowhere"]) hkn
      have u1 := Evl.Ex.new (o := .tup [V.ref kn, .int 1]) htn
      have u2 := Evl.Ex.new (o := .lst [V.ref tn]) hln
      have kn' := (u1.trans u2) _ _ (upd_same (H := H9) (a := kn) (o := .tup [V.str "a", .str "nowhere"]))
      have tn' := u2 _ _ (upd_same (H := upd H9 kn (.tup [V.str "a", .str "nowhere"])) (a := tn) (o := .tup [V.ref kn, .int 1]))
      have u12 := (u0.trans u1).trans u2
      refine ⟨Lc, ln, _, _, rfl, rfl, u12 _ _ hLc2, upd_same, by show (vs.map V.ref).length + 1 ≤ sizeLine; rw [List.length_map, Paired.length hR2, sizeLine_eq]; omega, fun cat hcat => ?_⟩
      have u3 := Evl.Ex.new (o := .lst (vs.map V.ref ++ [V.ref tn])) hcat
      have u13 := u12.trans u3
      refine ⟨cat, vs ++ [tn], kvs ++ [(kp (("a" : Str), ("nowhere" : Str)), V.int 1)], rfl, SqL.of (by rw [upd_same, List.map_append]; rfl), paired_app (Paired.mapP hR2 fun t q z => EntT.ex' u13 z) (.cons ⟨kn, u3 _ _ tn', u3 _ _ kn'⟩ .nil), fun da hda => ?_⟩
      have nw : kp (("a" : Str), ("nowhere" : Str)) ∉ kvs.map (·.1) := fun z => by
        obtain ⟨q9, hq9, e9⟩ := List.mem_map.mp z
        obtain ⟨z9, hz9, e8⟩ := kvk q9 hq9
        have e7 := kp_inj.mp (e8.symm.trans e9)
        have := (hpg z9 hz9).2.2
        rw [e7] at this
        exact absurd this (by decide +kernel)
      have nd9 : ((kvs ++ [(kp (("a" : Str), ("nowhere" : Str)), V.int 1)]).map (·.1)).Nodup := by
        rw [List.map_append]
        refine List.nodup_append.mpr ⟨knd, by simp, fun a ha b hb e => ?_⟩
        have hb : b = kp (("a" : Str), ("nowhere" : Str)) := by simpa using hb
        rw [e, hb] at ha
        exact nw ha
      rw [mergeT_new _ [] (by rw [List.nil_append]; exact nd9), List.nil_append]
      have u9 : Evl.Ex H4 H9 := x9
      have M5 := M4.ex (u9.trans u13)
      have da' := M5.at_ (o := .dT (kvs ++ [(kp (("a" : Str), ("nowhere" : Str)), V.int 1)])) hda
      have u4 := Evl.Ex.new (o := .dT (kvs ++ [(kp (("a" : Str), ("nowhere" : Str)), V.int 1)])) hda
      have w6 := ho_ex (p := p) (c := c) ((u9.trans u13).trans u4)
      have M6 := M5.ex u4
      have F6 := F4.ex w6
      have b1' := w6 _ _ b1'
      have b2' := w6 _ _ b2'
      clear hLc hvs hLvs hLc2 hR2 hkn htn hln hcat u0 u1 u2 tn' kn' u12 u3 u13 u9 u4 x9 hda M4 M5 F4 w6
      generalize upd (upd (upd (upd (upd H9 kn (.tup [V.str "a", .str "nowhere"])) tn (.tup [V.ref kn, .int 1])) ln (.lst [V.ref tn])) cat (.lst (vs.map V.ref ++ [V.ref tn]))) da (.dT (kvs ++ [(kp (("a" : Str), ("nowhere" : Str)), V.int 1)])) = H7 at M6 F6 b1' b2' da' ⊢
      refine ⟨by show 7 ≤ sizeLine; decide, fun so hso => ?_⟩
      have son := M6.str.ne hso
      have sonH : H so = none := M6.k.fresh M6.str hso
      have wso := ho_wo (p := p) (c := c) (o := .lst [V.non, .int 5, .ref b1, .str "ab", .bl true, .ref b2, .ref da]) hso
      have G0 : GB (BadGt ps) (FacT g pl kvs bs ys odd) H p c so (n + 1) [V.non, .int 5, .ref b1, .str "ab", .bl true, .ref b2, .ref da] (upd H7 so (.lst [V.non, .int 5, .ref b1, .str "ab", .bl true, .ref b2, .ref da])) := by
        refine ⟨M6.str.new hso, M6.k.new hso, sonH, son.1, son.2, upd_same, fun x hx => ?_, F6.ex wso⟩
        refine BadGt.ex ?_ wso
        simp only [List.mem_cons, List.not_mem_nil, or_false] at hx
        rcases hx with rfl | rfl | rfl | rfl | rfl | rfl | rfl
        · exact badGt_flat .non rfl rfl
        · exact badGt_flat (.int _) rfl rfl
        · exact badGt_lst b1' (by show 0 ≤ 1000; decide) .nil
        · exact badGt_flat (.str _) rfl rfl
        · exact badGt_flat (.bl _) rfl rfl
        · exact badGt_nilT b2'
        · refine badGt_dict da' (fun q hq => ?_) (fun q hq => ?_) (by rw [List.length_append]; show kvs.length + 1 ≤ 1000; omega) (bent_len (by rw [List.length_append]; show kvs.length + 1 ≠ _; omega))
          · rcases List.mem_append.mp hq with hq | hq
            · obtain ⟨f1, m9, e9⟩ := kvf q hq
              exact ⟨⟨_, by rw [e9]; exact .int _⟩, (by rw [e9]; exact fun z => by cases z), .inl f1⟩
            · rw [List.mem_singleton.mp hq]
              exact ⟨⟨_, .int _⟩, (fun z => by cases z), .inl rfl⟩
          · rcases List.mem_append.mp hq with hq | hq
            · obtain ⟨z9, _, e9⟩ := kvk q hq
              exact ⟨z9, e9⟩
            · rw [List.mem_singleton.mp hq]
              exact ⟨_, rfl⟩
      clear wso b1' b2' da' M6 F6 hso
      generalize upd H7 so (.lst [V.non, .int 5, .ref b1, .str "ab", .bl true, .ref b2, .ref da]) = H8 at G0 ⊢
      generalize hxs : [V.non, .int 5, .ref b1, .str "ab", .bl true, .ref b2, .ref da] = xs0 at G0
      have hxl : xs0.length = 7 := by rw [← hxs]; rfl
      clear hxs
      have yl : ys.length = ps.length := (hys.trans hpp).length_eq
      have bl : bs.length = ys.length := Paired.length G0.fac.2.2.1
      have ynd : ys.Nodup := (hys.trans hpp).nodup_iff.mpr hnd
      have yin : ∀ h ∈ ys, h ∈ ps := fun h hh => (hys.trans hpp).mem_iff.mp hh
      have pok : ∀ q ∈ ys, PyData.strOk q.1 = true ∧ PyData.strOk q.2 = true := fun q hq => let z := hpg q (yin q hq); ⟨good_ok _ z.2.1, good_ok _ z.2.2⟩
      have vof : ∀ h ∈ ys, ∃ m : Nat, valV kvs (kp h) = some (.int (m : Nat)) := fun h hh => by
        have h1 : (valV kvs (kp h)).isSome = true := val_some.mpr (by rw [hks]; exact List.mem_map.mpr ⟨h, hys.mem_iff.mp hh, rfl⟩)
        cases hv : valV kvs (kp h) with
        | none => rw [hv] at h1; cases h1
        | some x =>
          have hv' := hv
          unfold valV at hv'
          obtain ⟨q, hq, e⟩ := Option.map_eq_some_iff.mp hv'
          obtain ⟨_, m, e2⟩ := kvf q (List.mem_of_find?_eq_some hq)
          exact ⟨m, by rw [← e, e2]⟩
      have hB : ∀ (H H' : Hp) (x : V), BadGt ps H x → Evl.Ex H H' → BadGt ps H' x := fun _ _ _ h e => h.ex e
      have hF : ∀ (H H' : Hp), FacT g pl kvs bs ys odd H → Evl.Ex H H' → FacT g pl kvs bs ys odd H' := fun _ _ h e => h.ex e
      -- whether there is a path
      refine ⟨_, rfl, Nat.zero_le _, fun q0 hq0 => ?_⟩
      have xq := Evl.Ex.new (o := .lst []) hq0
      have w1 := (wo_to (p := p) (c := c) (T := so) (H := H8)).trans xq
      refine ⟨.list (ys.map pdPair), .list [], .lst (SqL.of (w1 _ _ G0.fac.2.1)) (dp_pairs (Paired.mapP G0.fac.2.2.1 fun t q z => w1 _ _ z)), .lst (SqL.of upd_same) .nil, shaped_pairs ys pok, shaped_pairs [] (fun t ht => by cases ht), _, rfl, ?_⟩
      rw [eqv_pairs_nil]
      have G0 := GB.ex hB hF G0 xq
      clear xq w1 hq0
      generalize upd H8 q0 (.lst []) = H8 at G0 ⊢
      have fin : ∀ (Hc : Hp) (xs : List V), GB (BadGt ps) (FacT g pl kvs bs ys odd) H p c so (n + 1) xs Hc → 1 ≤ xs.length → xs.length ≤ 100 → spPick K [.ref p, .ref so] Hc Q E0 := fun Hc xs G h1 h2 =>
        ⟨p, c, so, n + 1, _, rfl, G.str, by omega, G.np, G.nc, .inl G.at_, h1, by omega, fun x j H15 hx kp15 s15 => k x H15 (((G.bad x (List.mem_of_getElem? hx)).ex wo_ho).ex (ho_kp kp15)) (G.kp.trans kp15) s15⟩
      by_cases hy0 : ys = []
      · rw [hy0]
        exact iteF ⟨_, rfl, _, rfl, fin _ _ G0 (by omega) (by omega)⟩
      have hyf : ys.isEmpty = false := by simpa using hy0
      rw [hyf]
      refine iteT ?_
      have yp : 1 ≤ ps.length := by rw [← yl]; exact List.length_pos_iff.mpr hy0
      -- three more
      refine ⟨_, rfl, .inl ⟨rfl, _, SqL.of G0.at_⟩, fun d3 hd3 => ?_⟩
      have u1 := Evl.Ex.new (o := .dT []) hd3
      have d3' := G0.wnew (o := .dT []) hd3
      have G1 := GB.ex hB hF G0 u1
      clear u1 hd3 G0
      generalize upd H8 d3 (.dT []) = H9 at G1 d3' ⊢
      refine ⟨_, rfl, g, kvs, rfl, wo_to _ _ G1.fac.1, fun H6 Lb us x6 hLb hus hLus hLb2 hQ2 => ?_⟩
      refine ⟨_, rfl, Lb, _, rfl, SqL.of hLb2, fun cc hcc => ?_⟩
      have ulen : us.length = kvs.length := Paired.length hQ2
      rw [show cutV (us.map V.ref) (some 1) none = (us.drop 1).map V.ref by
        rw [List.map_drop]
        exact cutV_drop 1 (by rw [List.length_map]; omega)]
      have xc := Evl.Ex.new (o := .lst ((us.drop 1).map V.ref)) hcc
      refine ⟨cc, us.drop 1, kvs.drop 1, rfl, SqL.of upd_same, paired_drop 1 (Paired.mapP hQ2 fun t q z => EntT.ex' xc z), fun d7 hd7 => ?_⟩
      rw [mergeT_new (kvs.drop 1) [] (by rw [List.nil_append, List.map_drop]; exact knd.sublist (List.drop_sublist _ _)), List.nil_append]
      have x67 := Evl.Ex.trans x6 xc
      have G2 := GB.ex hB hF G1 x67
      have xd := Evl.Ex.new (o := .dT (kvs.drop 1)) hd7
      have d7' := G2.wnew (o := .dT (kvs.drop 1)) hd7
      have G3 := GB.ex hB hF G2 xd
      have d3' := wo_ex (p := p) (c := c) (T := so) (x67.trans xd) _ _ d3'
      clear hLb hus hLus hLb2 hQ2 hcc xc hd7 x6 x67 xd ulen G1 G2
      generalize upd (upd H6 cc (.lst ((us.drop 1).map V.ref))) d7 (.dT (kvs.drop 1)) = H10 at G3 d3' d7' ⊢
      refine ⟨_, rfl, g, kvs, rfl, wo_to _ _ G3.fac.1, fun H11 La ts x5 hLa hts hLts hLa2 hP2 => ?_⟩
      have x5 : Evl.Ex H10 H11 := x5
      have G4 := GB.ex hB hF G3 x5
      have La5 := G3.wat x5 hLa hLa2
      have wT : ∀ {b : Addr} {vs : List V}, H11 b = some (.tup vs) → wo p c so H11 b = some (.tup vs) := fun {b vs} z => wo_at z (G4.str.neU z).1 (G4.str.neU z).2 (fun q9 => by rw [q9, G4.at_] at z; cases z)
      have P5 : Paired (EntT (wo p c so H11)) ts kvs := Paired.mapP hP2 fun t q ⟨b, z1, z2⟩ => ⟨b, wT z1, wT z2⟩
      have d3' := wo_ex (p := p) (c := c) (T := so) x5 _ _ d3'
      have d7' := wo_ex (p := p) (c := c) (T := so) x5 _ _ d7'
      clear x5 hLa hts hLts hLa2 hP2 wT G3
      refine ⟨by show 3 ≤ sizeLine; decide, fun lx hlx => ?_⟩
      have u1 := Evl.Ex.new (o := .lst [V.ref d3, .ref d7, .ref La]) hlx
      have G5 := GB.ex hB hF G4 u1
      refine ⟨so, lx, _, _, rfl, rfl, G5.at_, upd_same, by rw [hxl]; show 7 + 3 ≤ sizeLine; decide, ?_⟩
      have bb : ∀ v ∈ [V.ref d3, .ref d7, .ref La], BadGt ps (wo p c so (upd H11 lx (.lst [V.ref d3, .ref d7, .ref La]))) v := fun v hv => by
        refine BadGt.ex ?_ (wo_ex (p := p) (c := c) (T := so) u1)
        simp only [List.mem_cons, List.not_mem_nil, or_false] at hv
        rcases hv with rfl | rfl | rfl
        · exact badGt_dict d3' (fun q hq => absurd hq (by simp)) (fun q hq => absurd hq (by simp)) (by show 0 ≤ 1000; decide) (bent_len (by show 0 ≠ ps.length; omega))
        · refine badGt_dict d7' (fun q hq => ?_) (fun q hq => ?_) (by rw [List.length_drop]; omega) (bent_len (by rw [List.length_drop]; omega))
          · obtain ⟨f1, m9, e9⟩ := kvf q (List.mem_of_mem_drop hq)
            exact ⟨⟨_, by rw [e9]; exact .int _⟩, (by rw [e9]; exact fun z => by cases z), .inl f1⟩
          · obtain ⟨z9, _, e9⟩ := kvk q (List.mem_of_mem_drop hq)
            exact ⟨z9, e9⟩
        · refine badGt_lst La5 (by rw [List.length_map, Paired.length P5]; omega) (itemsT_sm (m := 4) (fun _ _ z => z) (fun q hq => .inl (kvf q hq).1) (fun q hq => ?_) P5 P5)
          obtain ⟨z9, _, e9⟩ := kvk q hq
          rw [e9]
          show 2 ≤ 1000
          decide
      have G6 := GB.ext G5 bb
      clear G5 bb u1 hlx G4 d3' d7' La5 P5
      generalize upd (upd H11 lx (.lst [V.ref d3, .ref d7, .ref La])) so (.lst (xs0 ++ [V.ref d3, .ref d7, .ref La])) = H12 at G6 ⊢
      generalize hxs : xs0 ++ [V.ref d3, .ref d7, .ref La] = xs1 at G6
      have hxl1 : xs1.length = 10 := by rw [← hxs, List.length_append, hxl]; rfl
      clear hxs hxl
      have dgT : ∀ {Hx : Hp} {b : Addr} {q : Str × Str} {m : Nat}, Hx g = some (.dT kvs) → Hx b = some (.tup [.str q.1, .str q.2]) → valV kvs (kp q) = some (.int (m : Nat)) → DGet Hx g (.ref b) (some (.int (m : Nat))) := fun {Hx b q m} h1 h2 h3 => by
        rw [← h3]
        exact .inr ⟨kvs, kp q, b, .inl h1, rfl, h2, rfl⟩
      -- the paths turned
      refine ⟨_, rfl, .inl ⟨rfl, _, SqL.of G6.at_⟩, ?_⟩
      refine ⟨_, rfl, pl, rfl, ⟨_, SqL.of (wo_to _ _ G6.fac.2.1)⟩, fun D hD => ?_⟩
      refine lc_it (walk_list (xs := bs.map V.ref)) (fun i H' => EI H12 D (outR kvs (ys.take i)) H') ⟨Evl.Ex.new hD, [], upd_same, rfl, .nil⟩ (fun i H' _ hp => SqL.of (hp.1 _ _ (wo_to _ _ G6.fac.2.1))) (fun i y H5 H6 hi hp hy => ?_) (fun H5 hp => ?_)
      · obtain ⟨rfl, hy⟩ := hy
        rw [List.length_map] at hi
        obtain ⟨q, hh⟩ := getD_of (show i < ys.length by omega)
        obtain ⟨b, hb, hbt⟩ := two_at G6.fac.2.2.1 hh
        rw [List.getElem?_map, hb] at hy
        cases hy
        have hm := List.mem_of_getElem? hh
        obtain ⟨m9, e9⟩ := vof q hm
        have e8 : ledOf kvs q = .int (m9 : Nat) := by unfold ledOf; rw [e9]; rfl
        have tk : outR kvs (ys.take (i + 1)) = outR kvs (ys.take i) ++ [(kp (q.2, q.1), .int (m9 : Nat))] := by unfold outR; rw [List.take_add_one, hh, List.map_append, ← e8]; rfl
        rw [tk]
        have bt := hp.1 _ _ (wo_to _ _ hbt)
        have gt := hp.1 _ _ (wo_to _ _ G6.fac.1)
        refine ⟨rfl, _, rfl, b, _, _, rfl, SqT.of bt, fun r7 hr7 => ?_⟩
        have xr := Evl.Ex.new (o := .tup [V.str q.2, V.str q.1]) hr7
        exact ⟨_, rfl, _, rfl, g, _, rfl, dgT (xr _ _ gt) (xr _ _ bt) e9, by show 2 ≤ sizeLine; decide, fun u hu => hp.push (k := kp (q.2, q.1)) xr hD (by rw [upd_same]; rfl) hu (by unfold outR; rw [List.length_map, List.length_take]; omega)⟩
      obtain ⟨x5, us5, q1, ul, q2⟩ := hp
      rw [List.length_map, bl, List.take_length] at q2 ul
      have ndz : ((outR kvs ys).map (·.1)).Nodup := by
        unfold outR
        rw [List.map_map]
        refine List.pairwise_map.mpr (List.Pairwise.imp (fun {a b} hn e => hn ?_) ynd)
        have := kp_inj.mp e
        injection this with e1 e2
        exact Prod.ext e2 e1
      refine ⟨D, us5, _, rfl, SqL.of q1, q2, fun db hdb => ?_⟩
      rw [mergeT_new _ [] (by rw [List.nil_append]; exact ndz), List.nil_append]
      have x5 : Evl.Ex H12 H5 := x5
      have G3 := GB.ex hB hF G6 x5
      have u4 := Evl.Ex.new (o := .dT (outR kvs ys)) hdb
      have db' := G3.wnew (o := .dT (outR kvs ys)) hdb
      have G4 := GB.ex hB hF G3 u4
      clear x5 us5 q1 ul q2 hD hdb u4 G3 G6
      generalize upd H5 db (.dT (outR kvs ys)) = H13 at G4 db' ⊢
      refine ⟨so, _, .ref db, rfl, rfl, G4.at_, by rw [hxl1]; show 10 < sizeLine; decide, ?_⟩
      have bR : ∀ v ∈ [V.ref db], BadGt ps (wo p c so H13) v := fun v hv => by
        rw [List.mem_singleton.mp hv]
        obtain ⟨k0, hk0⟩ : ∃ k0, k0 ∈ ys := List.exists_mem_of_ne_nil _ hy0
        refine badGt_dict db' (fun q hq => ?_) (fun q hq => ?_) (by unfold outR; rw [List.length_map]; omega) (bent_key (yin k0 hk0) fun hm => ?_)
        · obtain ⟨h, hm, rfl⟩ := List.mem_map.mp hq
          obtain ⟨m9, e9⟩ := vof h hm
          have e8 : ledOf kvs h = .int (m9 : Nat) := by unfold ledOf; rw [e9]; rfl
          rw [e8]
          exact ⟨⟨_, .int _⟩, (fun z => by cases z), .inl rfl⟩
        · obtain ⟨h, hm, rfl⟩ := List.mem_map.mp hq
          exact ⟨_, rfl⟩
        · unfold outR at hm
          rw [List.map_map] at hm
          obtain ⟨h, hh, e⟩ := List.mem_map.mp hm
          have e := kp_inj.mp e
          have o1 := hord h (yin h hh)
          have o2 := hord k0 (yin k0 hk0)
          rw [← e] at o2
          exact ord_turn (hpg h (yin h hh)).1 o1 o2
      have G6 := GB.ext G4 bR
      clear G4 bR db'
      generalize upd H13 so (.lst (xs1 ++ [V.ref db])) = H14 at G6 ⊢
      generalize hxs : xs1 ++ [V.ref db] = xs2 at G6
      have hxl2 : xs2.length = 11 := by rw [← hxs, List.length_append, hxl1]; rfl
      clear hxs hxl1
      -- one odd value
      obtain ⟨last, hlast⟩ : ∃ last, last = ys.getLast hy0 := ⟨_, rfl⟩
      have lastm : last ∈ ys := by rw [hlast]; exact List.getLast_mem hy0
      have lasti : ys[ys.length - 1]? = some last := by rw [hlast, List.getLast_eq_getElem]; exact List.getElem?_eq_getElem _
      obtain ⟨lb, hlb, hlbt⟩ := two_at G6.fac.2.2.1 lasti
      have atl : atI (bs.map V.ref) (-1) = some (V.ref lb) := by
        have hbn : bs ≠ [] := fun z => by rw [z] at bl; exact hy0 (List.length_eq_zero_iff.mp bl.symm)
        have e := (List.dropLast_concat_getLast (l := bs) hbn).symm
        have e2 : bs.getLast hbn = lb := by
          have := List.getLast_eq_getElem hbn
          rw [← bl, List.getElem?_eq_getElem (by have := List.length_pos_iff.mpr hbn; omega)] at hlb
          rw [this]
          exact Option.some.inj hlb
        rw [e2] at e
        conv => lhs; arg 1; rw [e]
        rw [List.map_append]
        exact atI_last _ _
      refine ⟨_, rfl, .inl ⟨rfl, _, SqL.of G6.at_⟩, ?_⟩
      refine ⟨_, rfl, pl, rfl, ⟨_, SqL.of (wo_to _ _ G6.fac.2.1)⟩, fun D hD => ?_⟩
      refine lc_it (walk_list (xs := bs.map V.ref)) (fun i H' => EI H14 D (outQ kvs last odd (ys.take i)) H') ⟨Evl.Ex.new hD, [], upd_same, rfl, .nil⟩ (fun i H' _ hp => SqL.of (hp.1 _ _ (wo_to _ _ G6.fac.2.1))) (fun i y H5 H6 hi hp hy => ?_) (fun H5 hp => ?_)
      · obtain ⟨rfl, hy⟩ := hy
        rw [List.length_map] at hi
        obtain ⟨q, hh⟩ := getD_of (show i < ys.length by omega)
        obtain ⟨b, hb, hbt⟩ := two_at G6.fac.2.2.1 hh
        rw [List.getElem?_map, hb] at hy
        cases hy
        have hm := List.mem_of_getElem? hh
        have tk : outQ kvs last odd (ys.take (i + 1)) = outQ kvs last odd (ys.take i) ++ [(kp q, if q = last then odd else ledOf kvs q)] := by unfold outQ; rw [List.take_add_one, hh, List.map_append]; rfl
        rw [tk]
        have bt := hp.1 _ _ (wo_to _ _ hbt)
        have lt := hp.1 _ _ (wo_to _ _ hlbt)
        have gt := hp.1 _ _ (wo_to _ _ G6.fac.1)
        have ol : (outQ kvs last odd (ys.take i)).length ≤ 1000 := by unfold outQ; rw [List.length_map, List.length_take]; omega
        refine ⟨rfl, _, rfl, _, rfl, _, rfl, _, rfl, pl, _, -1, _, rfl, rfl, SqL.of (hp.1 _ _ (wo_to _ _ G6.fac.2.1)), atl, _, _, dpP bt, dpP lt, shaped_pair (pok q hm), shaped_pair (pok last lastm), _, rfl, ?_⟩
        rw [eqv_pair]
        by_cases hq : q = last
        · refine ite2 (fun _ => ?_) (fun z => absurd (decide_eq_true hq) z)
          rw [if_pos hq]
          exact ⟨_, rfl, by show 2 ≤ sizeLine; decide, fun u hu => hp.push (k := kp q) (fun _ _ z => z) hD bt hu ol⟩
        · refine ite2 (fun z => absurd (of_decide_eq_true z) hq) (fun _ => ?_)
          rw [if_neg hq]
          obtain ⟨m9, e9⟩ := vof q hm
          have e8 : ledOf kvs q = .int (m9 : Nat) := by unfold ledOf; rw [e9]; rfl
          rw [e8]
          exact ⟨_, rfl, _, rfl, g, _, rfl, dgT gt bt e9, by show 2 ≤ sizeLine; decide, fun u hu => hp.push (k := kp q) (fun _ _ z => z) hD bt hu ol⟩
      obtain ⟨x5, us5, q1, ul, q2⟩ := hp
      rw [List.length_map, bl, List.take_length] at q2 ul
      have ndz : ((outQ kvs last odd ys).map (·.1)).Nodup := by unfold outQ; rw [List.map_map]; exact kp_map_nodup ynd
      refine ⟨D, us5, _, rfl, SqL.of q1, q2, fun db hdb => ?_⟩
      rw [mergeT_new _ [] (by rw [List.nil_append]; exact ndz), List.nil_append]
      have x5 : Evl.Ex H14 H5 := x5
      have G3 := GB.ex hB hF G6 x5
      have u4 := Evl.Ex.new (o := .dT (outQ kvs last odd ys)) hdb
      have db' := G3.wnew (o := .dT (outQ kvs last odd ys)) hdb
      have odb : odd ≠ .ref db := Pl.ne_new (G3.fac.2.2.2.2.1.choose_spec.ext wo_to) hdb
      have G4 := GB.ex hB hF G3 u4
      clear x5 us5 q1 ul q2 hD hdb u4 G3 G6 hlbt
      generalize upd H5 db (.dT (outQ kvs last odd ys)) = H15 at G4 db' ⊢
      refine ⟨by show 1 ≤ sizeLine; decide, fun lx hlx => ?_⟩
      have u1 := Evl.Ex.new (o := .lst [V.ref db]) hlx
      refine ⟨lx, 3, _, rfl, rfl, upd_same, by decide, by decide, by show 1 * 3 ≤ sizeLine; decide, fun l3 hl3 => ?_⟩
      have u2 := Evl.Ex.new (o := .lst (List.replicate (Int.toNat 3) [V.ref db]).flatten) hl3
      have G5 := GB.ex hB hF G4 (u1.trans u2)
      refine ⟨so, l3, _, _, rfl, rfl, G5.at_, upd_same, by rw [hxl2]; show 11 + 3 ≤ sizeLine; decide, ?_⟩
      have bb : ∀ v ∈ (List.replicate (Int.toNat 3) [V.ref db]).flatten, BadGt ps (wo p c so (upd (upd H15 lx (.lst [V.ref db])) l3 (.lst (List.replicate (Int.toNat 3) [V.ref db]).flatten))) v := fun v hv => by
        have hv : v ∈ [V.ref db, .ref db, .ref db] := hv
        refine BadGt.ex ?_ (wo_ex (p := p) (c := c) (T := so) (u1.trans u2))
        have hv : v = .ref db := by simpa using hv
        subst hv
        refine badGt_dict db' (fun q hq => ?_) (fun q hq => ?_) (by unfold outQ; rw [List.length_map]; omega) (bent_val (p := (kp last, odd)) (List.mem_map.mpr ⟨last, lastm, by rw [if_pos rfl]⟩) G4.fac.2.2.2.1)
        · obtain ⟨h, hm, rfl⟩ := List.mem_map.mp hq
          by_cases hq : h = last
          · rw [if_pos hq]
            exact ⟨G4.fac.2.2.2.2.1, odb, G4.fac.2.2.2.2.2⟩
          · rw [if_neg hq]
            obtain ⟨m9, e9⟩ := vof h hm
            have e8 : ledOf kvs h = .int (m9 : Nat) := by unfold ledOf; rw [e9]; rfl
            rw [e8]
            exact ⟨⟨_, .int _⟩, (fun z => by cases z), .inl rfl⟩
        · obtain ⟨h, hm, rfl⟩ := List.mem_map.mp hq
          exact ⟨_, rfl⟩
      have G6 := GB.ext G5 bb
      exact ⟨_, rfl, _, rfl, fin _ _ G6 (by rw [List.length_append, hxl2]; omega) (by rw [List.length_append, hxl2]; show 11 + 3 ≤ 100; decide)⟩
end
end K11

namespace K11
open PySem PySem.Spec PyProof.Rows L2 Tr Sq Dk Exs
/-! ### letters_of, has_letters, is_round -/
abbrev sLetOf : Stmt := top 37
def spLetOf (C CR : Addr) : Sp := fun vs H Q E => ∃ (v : Addr) (x : V) (o : Option (List V)) (hs : List Str) (ps : Prs) (m : VilD), vs = [.ref v, x] ∧ Vil H C v hs ps m ∧ RX H x o ∧ hs.Nodup ∧ hs.length ≤ 1000 ∧
  (∀ rs : List Str, o = some (rs.map V.str) → rs ≠ [] → (∀ r ∈ rs, r ∈ hs) → ∀ D H', Evl.Ex H H' → H D = none → H' D = some (.dK (tab hs (cntV rs))) → Q (.ref D) H') ∧
  (flawV hs o ≠ .non → ∀ H' d, Evl.Ex H H' → H' d = none → E (.ref CR) (some d) (upd H' d (.xd [("index", flawV hs o)])))
section
variable {P : Program} {w : World} {K : PySem.W.Frag} {mg : Str → Option Value} {base : Heap}
theorem scLetOf : FnScope ["village", "row", "letters", "house"] ["village", "row"] (defScope sLetOf) := ⟨rfl, rfl, rfl, by decide +kernel, rfl, by decide +kernel, by decide +kernel⟩
theorem ok_letOf {C CR f fA : Addr} {fd fdA : FuncData} (F : FnP K "letters_of" sLetOf f fd) (c : VC P w K mg base C) (GA : FnOk P w K mg base (L2.CX P w) 5 fA fdA ["village", "row"] (spAskR C CR)) (bA : L2.Binds K fdA ["village", "row"] []) (kA : PySem.W.keepIn K (.ref fA) = true) (gA : mg "ask_round" = some (.ref fA)) :
    FnOk P w K mg base (L2.CX P w) 6 f fd ["village", "row"] (spLetOf C CR) := by
  obtain ⟨fH, fdH, mH, GH, bH⟩ := c.hs
  refine F.ok scLetOf (fun vs H Q E h => ?_) (fun cdv A outer s H vs Q E hr h => ?_)
  · obtain ⟨v, x, o, hs, ps, m, rfl, _⟩ := h
    rfl
  · obtain ⟨v, x, o, hs, ps, m, rfl, Vh, hx, hnd, h1k, k1, k2⟩ := h
    refine' ⟨_, pss_cons (ps_expr (pe_callS GA hr rfl gA kA bA (fun σ => passAt (takes_of rfl rfl rfl rfl) σ) (pa_cons (pv 0) (pa_cons (pv 1) pa_nil))))
      (pss_cons ?dc
      (pss_cons (ps_for (PassesOwn.leaving) rfl (pi_sq (pv 1)) (pg_name (i := 3) scLetOf.nd rfl (.inl rfl)) (pss_one (ps_daug (hu_of hr) (pv 2) (pv 3) pe_int iop_add (fun _ _ _ => rfl))))
      (pss_one (ps_ret (pv 2))))), ?rd⟩
    case dc =>
      exact ps_setDc (i := 2) (own := [("house", 3)]) (g := gName 3) (tt := tYes) (tk := tVar 3) (tv := tC (.int 0)) rfl scLetOf.nd rfl rfl (sw_trueD rfl rfl rfl (by decide +kernel)) (pi_list (pe_meth0 (pv 0) c.cl mH GH (hr.mono (by decide)) bH .nil pass0))
        (blkOk_by (own := [("house", 3)]) (N := ["village", "row", "letters", "house"]) (sc := defScope sLetOf) (by decide +kernel)) (fun _ _ _ _ _ => pg_name (i := 3) scLetOf.nd rfl (.inl rfl)) (fun _ _ _ _ _ => pts_nil) (fun _ _ _ _ _ => pv 3) (fun _ _ _ _ _ => pe_int)
    refine ⟨_, rfl, _, rfl, v, x, o, hs, ps, m, rfl, Vh, hx, fun hf H1 x1 => ?_, fun hf H1 d x1 hd => k2 hf H1 d x1 hd⟩
    obtain ⟨rs, rfl, hne, hin⟩ := flaw_none hf
    obtain ⟨t, a, rfl, hq, hpl, hl1⟩ := hx.sq (K := K)
    have V1 := Vh.ex x1
    refine ⟨_, rfl, v, m.dx, _, rfl, V1.at_, rfl, v, C, hs, ps, m, rfl, c.cl, c.n1, V1, fun l hl => ?_⟩
    refine ⟨l, rfl, ⟨_, SqL.of upd_same⟩, fun D hD => ?_⟩
    have hlD : l ≠ D := ne_of_none upd_same hD
    have hDH : H D = none := by
      cases q1 : H D with
      | none => rfl
      | some o => rw [upd_ne hlD.symm, x1 _ _ q1] at hD; cases hD
    have xl : Evl.Ex H (upd H1 l (.lst (hs.map V.str))) := x1.trans (Evl.Ex.new hl)
    have hl2 : upd H1 l (.lst (hs.map V.str)) l = some (.lst (hs.map V.str)) := upd_same
    generalize upd H1 l (.lst (hs.map V.str)) = H2 at xl hl2 hD
    refine dc_it (walk_list (xs := hs.map V.str)) (fun i H' => Evl.Ex H2 H' ∧ H' D = some (.dK (tab (hs.take i) fun _ => .int 0))) ?_ ?_ ?_ ?_
    · exact ⟨Evl.Ex.new hD, upd_same⟩
    · intro i H' _ hp
      exact SqL.of (hp.1 _ _ hl2)
    · rintro i y H3 H4 hi ⟨e1, e2⟩ ⟨rfl, hy⟩
      rw [List.length_map] at hi
      obtain ⟨h, hh⟩ := getD_of hi
      rw [List.getElem?_map, hh] at hy
      cases hy
      have hni : h ∉ hs.take i := fun z => by
        obtain ⟨j, hj⟩ := List.mem_iff_getElem?.mp z
        have lt : j < i := by
          have := (List.getElem?_eq_some_iff.mp hj).1
          rw [List.length_take] at this
          omega
        rw [List.getElem?_take_of_lt lt] at hj
        have := (List.getElem?_inj (by omega) hnd).mp (hj.trans hh.symm)
        omega
      refine ⟨rfl, _, rfl, _, Sum.inr h, rfl, e2, ?_, ex_upd e1 hD, ?_⟩
      · rw [tab_length, List.length_take]
        exact Nat.lt_of_le_of_lt (show min i hs.length ≤ 1000 by omega) (by decide)
      · rw [upd_same, put_new hni, List.take_add_one, hh]
        congr 2
        exact tab_congr fun x _ => by split <;> rfl
    · rintro H3 ⟨x3, e2⟩
      rw [List.length_map, List.take_length] at e2
      refine ⟨_, rfl, t, a, _, rfl, hq _ (xl.trans x3), ?_⟩
      refine for_it (walk_sq (xs := rs.map V.str)) (fun i σ H' => ∃ v3, σ = [some (.ref v), some (.ref a), some (.ref D), v3] ∧ Evl.Ex H H' ∧ H' D = some (.dK (tab hs (cntV (rs.take i))))) ?_ ?_ ?_ ?_
      · refine ⟨_, rfl, xl.trans x3, ?_⟩
        rw [e2]
        congr 2
      · rintro i σ H' _ ⟨v3, rfl, x4, e4⟩
        exact hq _ x4
      · rintro i y σ H4 H5 hi ⟨v3, rfl, x4, e4⟩ ⟨rfl, hy⟩
        rw [List.length_map] at hi
        obtain ⟨h, hh⟩ := getD_of hi
        rw [List.getElem?_map, hh] at hy
        cases hy
        have hm : h ∈ hs := hin h (List.mem_of_getElem? hh)
        have g1 : DGet H5 D (kV (Sum.inr h)) (some (cntV (rs.take i) h)) := by have := DGet.k (k := Sum.inr h) e4; rw [val_in hm] at this; exact this
        refine ⟨_, rfl, _, rfl, D, _, rfl, g1, _, _, rfl, rfl, _, DPut.k (k := Sum.inr h) e4 ?_, _, rfl, ex_upd x4 hDH, ?_⟩
        · rw [tab_length]
          exact Nat.lt_of_le_of_lt h1k (by decide)
        · rw [upd_same, put_old hm]
          congr 2
          refine tab_congr fun y _ => ?_
          show (if y = h then V.int ((((rs.take i).count h : Nat) : Int) + 1) else V.int ((rs.take i).count y : Nat)) = V.int ((rs.take (i + 1)).count y : Nat)
          rw [List.take_add_one, hh]
          rw [show (some h).toList = [h] from rfl, List.count_append, List.count_singleton]
          by_cases e : y = h
          · subst e
            simp
          · have e2 : ¬ h = y := fun z => e z.symm
            simp [e, e2]
      · rintro σ H4 ⟨v3, rfl, x4, e4⟩
        rw [List.length_map, List.take_length] at e4
        exact ⟨_, rfl, k1 rs rfl hne hin D H4 x4 hDH e4⟩
end
end K11

namespace K11
open PySem PySem.Spec PyProof.Rows L2 Tr Sq Dk Exs
/-! ### walked, walk_of -/
abbrev sWalked : Stmt := top 39
abbrev sWalkOf : Stmt := top 41
/-- the ways that are known: to which houses, where -/
def TwAt (H : Hp) (D : Addr) (hs : List Str) (fr : Str → Str → Option Str) (ks : List Str) (ad : Str → Addr) : Prop := H D = some (.dK (tab ks fun h => .ref (ad h))) ∧ ∀ h ∈ ks, ∃ k2 : List Str, H (ad h) = some (.dK (tab k2 fun x => optV (fr h x))) ∧ ∀ x ∈ hs, x ∈ k2
def spWalked (C : Addr) : Sp := fun vs H Q E => ∃ (v l : Addr) (r0 : Str) (rs hs : List Str) (ps : Prs) (m : VilD) (fr : Str → Str → Option Str) (way : Str → Str → List Str), vs = [.ref v, .ref l] ∧ Vil H C v hs ps m ∧ Tree hs ps ∧ Ways hs ps fr way ∧ hs.length ≤ 30 ∧ H l = some (.lst ((r0 :: rs).map V.str)) ∧ (∀ r ∈ r0 :: rs, r ∈ hs) ∧ rs.length ≤ 200 ∧
  ∀ q H', Evl.Ex H H' → H q = none → H' q = some (.lst ((r0 :: wkFrom way r0 rs).map V.str)) → Q (.ref q) H'
section
variable {P : Program} {w : World} {K : PySem.W.Frag} {mg : Str → Option Value} {base : Heap}
theorem scWalked : FnScope ["village", "row", "towards", "steps", "house"] ["village", "row"] (defScope sWalked) := ⟨rfl, rfl, rfl, by decide +kernel, rfl, by decide +kernel, by decide +kernel⟩
/-- so far gone, on the way to h: the rest -/
def wWalk (H : Hp) (v l D st : Addr) (h : Str) (hs : List Str) (fr : Str → Str → Option Str) (tgt : List Str) (ks : List Str) (ad : Str → Addr) (mm : Nat) (σ : L2.St) (H' : Hp) : Prop := ∃ (Y : List Str) (cur : Str) (rest : List Str), σ = [some (.ref v), some (.ref l), some (.ref D), some (.ref st), some (.str h)] ∧ rest.length = mm ∧ Evl.Ex H H' ∧ TwAt H' D hs fr ks ad ∧ h ∈ ks ∧ cur ∈ hs ∧ H' st = some (.lst ((Y ++ [cur]).map V.str)) ∧ Pth (fr h) h cur (cur :: rest) ∧ Y ++ (cur :: rest) = tgt
theorem ok_walked {C f fS : Addr} {fd fdS : FuncData} (F : FnP K "walked" sWalked f fd) (GS : FnOk P w K mg base CX0 3 fS fdS ["village", "root"] (spSteps C)) (bS : L2.Binds K fdS ["village", "root"] []) (kS : PySem.W.keepIn K (.ref fS) = true) (gS : mg "steps_towards" = some (.ref fS)) :
    FnOk P w K mg base CX0 4 f fd ["village", "row"] (spWalked C) := by
  refine F.ok scWalked (fun vs H Q E h => ?_) (fun cdv A outer s H vs Q E hr h => ?_)
  · obtain ⟨v, l, r0, rs, hs, ps, m, fr, way, rfl, _⟩ := h
    rfl
  · obtain ⟨v, l, r0, rs, hs, ps, m, fr, way, rfl, Vh, T, W, h30, hl, hin, h200, k⟩ := h
    refine ⟨_, PSs.nox (pss_cons (ps_set (i := 2) scWalked.nd rfl (.inl rfl) pe_dnewK)
      (pss_cons (ps_set (i := 3) scWalked.nd rfl (.inl rfl) (pe_lst (pa_cons (pe_ix ix_list (pv 1) pe_int (fun _ _ => rfl)) pa_nil)))
      (pss_cons (ps_for PassesOwn.never rfl (pi_list (pv 1)) (pg_name (i := 4) scWalked.nd rfl (.inl rfl))
        (Evl.pss_cut (ps_if (pt_cmp (pc_dnotin (hu_of hr) (pv 4) (pv 2)) rfl) (pss_one (ps_dput (hu_of hr) (pv 2) (pv 4) (pe_call GS hr rfl gS kS bS .nil pass0 (pa_cons (pv 0) (pa_cons (pv 4) pa_nil))) rfl)) pss_nil)
          (pss_one (ps_while PassesOwn.never (pt_cmpR op_ne (pe_ix ix_list (pv 3) (pe_un un_neg pe_int) (fun _ _ => rfl)) (pv 4) (nomark _))
            (pss_one (ps_expr (pe_bm PySem.F.plainAttrs_list PySem.F.slot_list_append PySem.F.type_list_append mt_append (pv 3) (pa_cons (pe_dget (hu_of hr) (pe_dget (hu_of hr) (pv 2) (pv 4) (fun _ _ => rfl)) (pe_ix ix_list (pv 3) (pe_un un_neg pe_int) (fun _ _ => rfl)) (fun _ _ => rfl)) pa_nil))))))))
      (pss_one (ps_ret (pv 3)))))), ?_⟩
    refine fun D hD => ⟨_, rfl, l, _, _, _, rfl, rfl, SqL.of (by rw [upd_ne (ne_of_none hl hD)]; exact hl), atI_nat (j := 0) rfl, by show 1 ≤ sizeLine; decide, fun st hst => ?_⟩
    have hDst : D ≠ st := ne_of_none upd_same hst
    have hstH : H st = none := by rw [upd_ne hDst.symm] at hst; exact hst
    have x0 : Evl.Ex H (upd (upd H D (.dK [])) st (.lst [.str r0])) := (Evl.Ex.new hD).trans (Evl.Ex.new hst)
    have hr0 : r0 ∈ hs := hin r0 List.mem_cons_self
    have hrs : ∀ r ∈ rs, r ∈ hs := fun r hr => hin r (List.mem_cons_of_mem _ hr)
    refine ⟨_, rfl, l, rfl, ⟨_, SqL.of (x0 _ _ hl)⟩, ?_⟩
    refine for_it (walk_list (xs := (r0 :: rs).map V.str)) (fun i σ H' => ∃ (v4 : Option V) (ks : List Str) (ad : Str → Addr), σ = [some (.ref v), some (.ref l), some (.ref D), some (.ref st), v4] ∧ Evl.Ex H H' ∧ TwAt H' D hs fr ks ad ∧ ks.length ≤ i ∧ H' st = some (.lst ((r0 :: wkFrom way r0 ((r0 :: rs).take i)).map V.str))) ?_ ?_ ?_ ?_
    · exact ⟨none, [], fun _ => 0, rfl, x0, ⟨by rw [upd_ne hDst]; exact upd_same, fun h hh => absurd hh (by simp)⟩, Nat.le_refl _, upd_same⟩
    · rintro i σ H' _ ⟨v4, ks, ad, rfl, x1, _⟩
      exact SqL.of (x1 _ _ hl)
    · rintro i y σ H1 H2 hi ⟨v4, ks, ad, rfl, x1, tw, kl, e1⟩ ⟨rfl, hy⟩
      rw [List.length_map] at hi
      obtain ⟨h, hh⟩ := getD_of hi
      rw [List.getElem?_map, hh] at hy
      cases hy
      have hm : h ∈ hs := hin h (List.mem_of_getElem? hh)
      have tk : (r0 :: rs).take (i + 1) = (r0 :: rs).take i ++ [h] := by rw [List.take_add_one, hh]; rfl
      have pin : ∀ x ∈ (r0 :: rs).take i, x ∈ hs := fun x hx => hin x (List.mem_of_mem_take hx)
      have plen := W.wk_len T _ r0 hr0 pin
      have plast := W.wk_last _ r0 hr0 pin
      rw [tk, wkFrom_snoc]
      generalize hP : (r0 :: rs).take i = pre at e1 pin plen plast ⊢
      have prl : pre.length ≤ 201 := by rw [← hP, List.length_take, List.length_cons]; omega
      have lm : pre.getLastD r0 ∈ hs := by
        have := List.mem_of_getLast? plast
        rcases List.mem_cons.mp this with e | e
        · rw [e]; exact hr0
        · exact W.wk_mem T _ _ hr0 pin _ e
      obtain ⟨w1, ew, _⟩ := W.tail_last lm hm
      have wl := W.len T lm hm
      have pw := W.pth _ lm h hm
      rw [ew] at wl pw ⊢
      rw [List.tail_cons]
      have eY : ∃ Y, r0 :: wkFrom way r0 pre = Y ++ [pre.getLastD r0] := by
        rw [List.getLast?_eq_some_iff] at plast
        exact plast
      obtain ⟨Y, eY⟩ := eY
      rw [show r0 :: (wkFrom way r0 pre ++ w1) = (r0 :: wkFrom way r0 pre) ++ w1 from rfl, eY]
      rw [eY] at e1
      have tl : (Y ++ [pre.getLastD r0] ++ w1).length < 100000 := by
        rw [← eY, List.length_append, List.length_cons]
        rw [List.length_cons] at wl
        have : hs.length * pre.length ≤ 30 * 201 := Nat.mul_le_mul h30 prl
        omega
      have key : ∀ ks ad σ' H', σ' = [some (.ref v), some (.ref l), some (.ref D), some (.ref st), some (.str h)] → Evl.Ex H H' → TwAt H' D hs fr ks ad → h ∈ ks → ks.length ≤ i + 1 → H' st = some (.lst ((Y ++ [pre.getLastD r0]).map V.str)) →
          wWalk H v l D st h hs fr (Y ++ [pre.getLastD r0] ++ w1) ks ad w1.length σ' H' := fun ks ad σ' H' e x2 t2 hk kl2 e2 => ⟨Y, pre.getLastD r0, w1, e, rfl, x2, t2, hk, lm, e2, pw, by rw [List.append_assoc]; rfl⟩
      refine ⟨fun σ' H' => ∃ ks ad, ks.length ≤ i + 1 ∧ wWalk H v l D st h hs fr (Y ++ [pre.getLastD r0] ++ w1) ks ad w1.length σ' H', ?_, ?_⟩
      · refine ⟨_, rfl, _, rfl, D, _, rfl, DGet.k (k := Sum.inr h) tw.1, _, rfl, ?_⟩
        rw [val_tab]
        by_cases hk : h ∈ ks
        · rw [if_pos hk]
          exact iteF ⟨ks, ad, by omega, key ks ad _ _ rfl x1 tw hk (by omega) e1⟩
        · rw [if_neg hk]
          refine iteT ⟨_, rfl, _, rfl, v, h, hs, ps, m, fr h, rfl, Vh.ex x1, T, hm, h30, W.rt h hm, fun d k2 H3 x3 hd hd3 hk2 => ?_⟩
          have hD3 : H3 D = some (.dK (tab ks fun h => .ref (ad h))) := x3 _ _ tw.1
          have hdD : d ≠ D := fun z => by rw [z, tw.1] at hd; cases hd
          have hst3 := x3 _ _ e1
          have hstD : st ≠ D := hDst.symm
          refine ⟨_, rfl, _, rfl, D, _, rfl, DPut.k (k := Sum.inr h) hD3 ?_, ?_⟩
          · rw [tab_length]
            rw [List.length_cons] at hi
            exact Nat.lt_of_le_of_lt (show ks.length ≤ 1000 by omega) (by decide)
          · refine ⟨ks ++ [h], fun y => if y = h then d else ad y, by rw [List.length_append]; simp; exact kl, key _ _ _ _ rfl (ex_upd (x1.trans x3) hD) ⟨?_, fun y hy => ?_⟩ (by simp) (by rw [List.length_append]; simp; exact kl) (by rw [upd_ne hstD]; exact hst3)⟩
            · rw [upd_same, put_new hk]
              congr 2
              exact tab_congr fun x _ => by
                show (if x = h then V.ref d else V.ref (ad x)) = V.ref (if x = h then d else ad x)
                split <;> rfl
            · rcases List.mem_append.mp hy with hy | hy
              · have hne : y ≠ h := fun z => hk (by rw [← z]; exact hy)
                obtain ⟨k3, q1, q2⟩ := tw.2 y hy
                have q1' := x3 _ _ q1
                refine ⟨k3, ?_, q2⟩
                simp only [if_neg hne]
                rw [upd_ne (fun z => by
                  rw [z, hD3] at q1'
                  injection q1' with q1'
                  injection q1' with q1'
                  have hmem : (Sum.inr y, V.ref (ad y)) ∈ tab ks fun h => V.ref (ad h) := List.mem_map.mpr ⟨y, hy, rfl⟩
                  rw [q1'] at hmem
                  obtain ⟨z2, _, e9⟩ := List.mem_map.mp hmem
                  have e10 : optV (fr y z2) = V.ref (ad y) := congrArg Prod.snd e9
                  cases hf9 : fr y z2 <;> rw [hf9] at e10 <;> cases e10)]
                exact q1'
              · simp only [List.mem_singleton] at hy
                subst hy
                refine ⟨k2, ?_, hk2⟩
                simp only [if_true]
                rw [upd_ne hdD]
                exact hd3
      · rintro σ' H3 ⟨ks2, ad2, kl2, hw⟩
        refine ⟨wWalk H v l D st h hs fr (Y ++ [pre.getLastD r0] ++ w1) ks2 ad2, ⟨_, hw⟩, ?_⟩
        rintro mm σ4 H4 ⟨Y4, cur, rest, rfl, hml, x4, t4, hk4, hc4, e4, p4, q4⟩
        have e4' : H4 st = some (.lst (Y4.map V.str ++ [.str cur])) := by rw [e4, List.map_append]; rfl
        refine ⟨_, rfl, _, rfl, st, _, -1, _, rfl, rfl, SqL.of e4', atI_last _ _, _, rfl, rfl, _, rfl, ?_⟩
        by_cases hch : cur = h
        · subst hch
          have : rest = [] := by
            have := p4.uniq (W.rt cur hm).none .nil
            simpa using this
          subst this
          refine ite2 (fun q => absurd q (by simp)) (fun _ => ⟨_, ks2, ad2, rfl, x4, t4, kl2, ?_⟩)
          rw [← q4]
          exact e4
        · refine ite2 (fun _ => ?_) (fun q => absurd ?_ q)
          · cases p4 with
            | nil => exact absurd rfl hch
            | @cons _ y _ hf p5 =>
              obtain ⟨l5, rfl⟩ := p5.head
              obtain ⟨k3, g1, g2⟩ := t4.2 h hk4
              have ym : y ∈ hs := (T.mem ((W.rt h hm).adj _ _ hf)).2
              have d1 : DGet H4 D (kV (Sum.inr h)) (some (.ref (ad2 h))) := by have := DGet.k (k := Sum.inr h) t4.1; rw [val_in hk4] at this; exact this
              have d2 : DGet H4 (ad2 h) (kV (Sum.inr cur)) (some (.str y)) := by
                have := DGet.k (k := Sum.inr cur) g1
                rw [val_in (g2 cur hc4)] at this
                rw [hf] at this
                exact this
              have ylen : Y4.length + 1 + (y :: l5).length < 100000 := by
                have := congrArg List.length q4
                rw [List.length_append] at this
                rw [← this] at tl
                simp only [List.length_cons] at tl ⊢
                omega
              refine ⟨fun σ5 H5 => wWalk H v l D st h hs fr (Y ++ [pre.getLastD r0] ++ w1) ks2 ad2 l5.length σ5 H5, fun σ5 H5 q => ⟨l5.length, by rw [← hml]; exact Nat.lt_succ_self _, q⟩, ?_⟩
              refine ⟨_, rfl, .inl ⟨rfl, _, SqL.of e4'⟩, _, rfl, _, rfl, D, _, rfl, d1, _, rfl, _, rfl, st, _, -1, _, rfl, rfl, SqL.of e4', atI_last _ _, ad2 h, _, rfl, d2, st, _, _, rfl, rfl, e4', ?_, ?_⟩
              · rw [List.length_append, List.length_map]
                simp only [List.length_cons] at ylen
                exact Nat.lt_of_lt_of_le (show Y4.length + 1 < 100000 by omega) (by decide)
              · refine ⟨Y4 ++ [cur], y, l5, rfl, rfl, ex_upd x4 hstH, ⟨?_, fun z hz => ?_⟩, hk4, ym, ?_, p5, by rw [← q4, List.append_assoc]; rfl⟩
                · rw [upd_ne hDst]
                  exact t4.1
                · obtain ⟨k6, q1, q2⟩ := t4.2 z hz
                  refine ⟨k6, ?_, q2⟩
                  rw [upd_ne (fun zz => by rw [zz, e4] at q1; cases q1)]
                  exact q1
                · rw [upd_same, List.map_append, List.map_append]
                  rfl
          · simp [hch]
    · rintro σ H1 ⟨v4, ks, ad, rfl, x1, tw, kl, e1⟩
      rw [List.length_map, List.take_length] at e1
      have e2 : wkFrom way r0 (r0 :: rs) = wkFrom way r0 rs := by
        show (way r0 r0).tail ++ wkFrom way r0 rs = _
        rw [W.same hr0]
        rfl
      rw [e2] at e1
      exact ⟨_, rfl, k st H1 x1 hstH e1⟩
end
end K11

namespace K11
open PySem PySem.Spec PyProof.Rows L2 Tr Sq Dk Exs
def walkL (way : Str → Str → List Str) : List Str → List Str
  | [] => []
  | r0 :: rt => r0 :: wkFrom way r0 (rt ++ [r0])
def spWalkOf (C CR : Addr) : Sp := fun vs H Q E => ∃ (v : Addr) (x : V) (o : Option (List V)) (hs : List Str) (ps : Prs) (m : VilD) (fr : Str → Str → Option Str) (way : Str → Str → List Str), vs = [.ref v, x] ∧ Vil H C v hs ps m ∧ Tree hs ps ∧ Ways hs ps fr way ∧ hs.length ≤ 30 ∧ RX H x o ∧ (∀ xs, o = some xs → xs.length ≤ 100) ∧
  (∀ rs : List Str, o = some (rs.map V.str) → rs ≠ [] → (∀ r ∈ rs, r ∈ hs) → ∀ q H', Evl.Ex H H' → H q = none → H' q = some (.lst ((walkL way rs).map V.str)) → Q (.ref q) H') ∧
  (flawV hs o ≠ .non → ∀ H' d, Evl.Ex H H' → H' d = none → E (.ref CR) (some d) (upd H' d (.xd [("index", flawV hs o)])))
section
variable {P : Program} {w : World} {K : PySem.W.Frag} {mg : Str → Option Value} {base : Heap}
theorem scWalkOf : FnScope ["village", "row"] ["village", "row"] (defScope sWalkOf) := ⟨rfl, rfl, rfl, by decide +kernel, rfl, by decide +kernel, by decide +kernel⟩
theorem sqk_swap {K : PySem.W.Frag} {H : Hp} {t : Bool} {a : Addr} {xs : List V} (h : SqK K H t a xs) : SqT K H a xs ∨ SqL K H a xs := (sqk_or h).symm
theorem ok_walkOf {C CR f fA fW : Addr} {fd fdA fdW : FuncData} (F : FnP K "walk_of" sWalkOf f fd) (GA : FnOk P w K mg base (L2.CX P w) 5 fA fdA ["village", "row"] (spAskR C CR)) (bA : L2.Binds K fdA ["village", "row"] []) (kA : PySem.W.keepIn K (.ref fA) = true) (gA : mg "ask_round" = some (.ref fA))
    (GW : FnOk P w K mg base CX0 4 fW fdW ["village", "row"] (spWalked C)) (bW : L2.Binds K fdW ["village", "row"] []) (kW : PySem.W.keepIn K (.ref fW) = true) (gW : mg "walked" = some (.ref fW)) : FnOk P w K mg base (L2.CX P w) 6 f fd ["village", "row"] (spWalkOf C CR) := by
  refine F.ok scWalkOf (fun vs H Q E h => ?_) (fun cdv A outer s H vs Q E hr h => ?_)
  · obtain ⟨v, x, o, hs, ps, m, fr, way, rfl, _⟩ := h
    rfl
  · obtain ⟨v, x, o, hs, ps, m, fr, way, rfl, Vh, T, W, h30, hx, h100, k1, k2⟩ := h
    refine ⟨_, pss_cons (ps_expr (pe_callS GA hr rfl gA kA bA (fun σ => passAt (takes_of rfl rfl rfl rfl) σ) (pa_cons (pv 0) (pa_cons (pv 1) pa_nil))))
      (pss_one (ps_ret (pe_call GW (hr.mono (by decide)) rfl gW kW bW .nil pass0 (pa_cons (pv 0) (pa_cons (pe_lst (StX.pa_star (pv 1) (pa_cons (pe_ix ix_seq (pv 1) pe_int (fun _ _ => rfl)) pa_nil))) pa_nil))))), ?_⟩
    refine ⟨_, rfl, _, rfl, v, x, o, hs, ps, m, rfl, Vh, hx, fun hf H1 x1 => ?_, fun hf H1 d x1 hd => k2 hf H1 d x1 hd⟩
    obtain ⟨rs, rfl, hne, hin⟩ := flaw_none hf
    have hlen := h100 _ rfl
    rw [List.length_map] at hlen
    obtain ⟨t, a, rfl, hq, hpl, hl1⟩ := hx.sq (K := K)
    cases rs with
    | nil => exact absurd rfl hne
    | cons r0 rt =>
      have fin : ∀ l, H1 l = none → spWalked C [.ref v, .ref l] (upd H1 l (.lst ((r0 :: rt).map V.str ++ [.str r0]))) Q E0 := fun l hl => by
        have x2 : Evl.Ex H (upd H1 l (.lst ((r0 :: rt).map V.str ++ [.str r0]))) := x1.trans (Evl.Ex.new hl)
        refine ⟨v, l, r0, rt ++ [r0], hs, ps, m, fr, way, rfl, Vh.ex x2, T, W, h30, ?_, fun r hr => ?_, ?_, fun q H2 x3 hq2 hq3 => ?_⟩
        · rw [upd_same]
          simp
        · simp only [List.mem_cons, List.mem_append] at hr
          rcases hr with rfl | hr | rfl | hr
          · exact hin _ List.mem_cons_self
          · exact hin _ (List.mem_cons_of_mem _ hr)
          · exact hin _ List.mem_cons_self
          · cases hr
        · rw [List.length_append]
          simp only [List.length_cons, List.length_nil] at hlen ⊢
          omega
        · refine k1 _ rfl hne hin q H2 (x2.trans x3) ?_ hq3
          cases q1 : H q with
          | none => rfl
          | some o => rw [x2 _ _ q1] at hq2; cases hq2
      have e0 : atI ((r0 :: rt).map V.str) (0 : Int) = some (.str r0) := atI_nat (j := 0) rfl
      have s1 := hq H1 x1
      refine ⟨_, rfl, _, rfl, a, _, rfl, sqk_swap s1, _, rfl, ?_⟩
      cases t with
      | true => exact .inr (.inl ⟨a, _, 0, _, rfl, rfl, s1, e0, by rw [List.length_append, List.length_map]; exact Nat.le_trans (show _ ≤ 101 by simp only [List.length_cons, List.length_nil] at hlen ⊢; omega) (by decide), fun l hl => fin l hl⟩)
      | false => exact .inl ⟨a, _, 0, _, rfl, rfl, s1, e0, by rw [List.length_append, List.length_map]; exact Nat.le_trans (show _ ≤ 101 by simp only [List.length_cons, List.length_nil] at hlen ⊢; omega) (by decide), fun l hl => fin l hl⟩
end
end K11

namespace K11
open PySem PySem.Spec PyProof.Rows L2 Tr Sq Dk Exs
/-! ### ledger_of -/
abbrev sLedger : Stmt := top 42
/-- the ledger of a walk -/
def ledV (st : Prs) (q : Str × Str) : V := .int (st.count q : Nat)
def spLedger (C CR : Addr) : Sp := fun vs H Q E => ∃ (v : Addr) (x : V) (o : Option (List V)) (hs : List Str) (ps : Prs) (m : VilD) (fr : Str → Str → Option Str) (way : Str → Str → List Str), vs = [.ref v, x] ∧ Vil H C v hs ps m ∧ Tree hs ps ∧ Ways hs ps fr way ∧ hs.length ≤ 30 ∧ (∀ q ∈ ps, ordP q = q) ∧ ps.length ≤ 30 ∧ RX H x o ∧ (∀ xs, o = some xs → xs.length ≤ 100) ∧
  (∀ rs : List Str, o = some (rs.map V.str) → rs ≠ [] → (∀ r ∈ rs, r ∈ hs) → ∀ D H', Evl.Ex H H' → H D = none → H' D = some (.dT (tabP ps (ledV (stp (walkL way rs))))) → Q (.ref D) H') ∧
  (flawV hs o ≠ .non → ∀ H' d, Evl.Ex H H' → H' d = none → E (.ref CR) (some d) (upd H' d (.xd [("index", flawV hs o)])))
theorem unlockD {H H' : Hp} {d : Addr} {u : HO} {od : Obj} (hd : H d = some u) (x : Evl.Ex (upd H d (.frz od u)) H') : Evl.Ex H (upd H' d u) := fun b o e => by
  by_cases hb : b = d
  · rw [hb] at e ⊢
    rw [upd_same, ← e, hd]
  · rw [upd_ne hb]
    exact x b o (by rw [upd_ne hb]; exact e)
section
variable {P : Program} {w : World} {K : PySem.W.Frag} {mg : Str → Option Value} {base : Heap}
theorem scLedger : FnScope ["village", "row", "gone", "path"] ["village", "row"] (defScope sLedger) := ⟨rfl, rfl, rfl, by decide +kernel, rfl, by decide +kernel, by decide +kernel⟩
theorem ok_ledger {C CR f fT fW : Addr} {fd fdT fdW : FuncData} (F : FnP K "ledger_of" sLedger f fd) (GT : FnOk P w K mg base CX0 2 fT fdT ["village", "steps"] (spTimes C)) (bT : L2.Binds K fdT ["village", "steps"] []) (kT : PySem.W.keepIn K (.ref fT) = true) (gT : mg "times_gone" = some (.ref fT))
    (GW : FnOk P w K mg base (L2.CX P w) 6 fW fdW ["village", "row"] (spWalkOf C CR)) (bW : L2.Binds K fdW ["village", "row"] []) (kW : PySem.W.keepIn K (.ref fW) = true) (gW : mg "walk_of" = some (.ref fW)) : FnOk P w K mg base (L2.CX P w) 7 f fd ["village", "row"] (spLedger C CR) := by
  refine F.ok scLedger (fun vs H Q E h => ?_) (fun cdv A outer s H vs Q E hr h => ?_)
  · obtain ⟨v, x, o, hs, ps, m, fr, way, rfl, _⟩ := h
    rfl
  · obtain ⟨v, x, o, hs, ps, m, fr, way, rfl, Vh, T, W, h30, hord, p30, hx, h100, k1, k2⟩ := h
    refine ⟨_, pss_cons (ps_set (i := 2) scLedger.nd rfl (.inr rfl) (pe_call GT (hr.mono (by decide)) rfl gT kT bT .nil pass0 (pa_cons (pv 0) (pa_cons (pe_callS GW hr rfl gW kW bW (fun σ => passAt (takes_of rfl rfl rfl rfl) σ) (pa_cons (pv 0) (pa_cons (pv 1) pa_nil))) pa_nil))))
      (pss_one (ps_ret (pe_lock (pe_dcT (own := [("path", 3)]) (g := gName 3) (tt := tYes) (tk := tVar 3) (tv := tOp (rIxL K) (tDGet (tVar 2) (tVar 3)) (tC (.int 0))) (Nat.lt_of_succ_lt (hu_of hr)) rfl scLedger.nd (pi_keys (pv 2))
        (blkOk_by (own := [("path", 3)]) (N := ["village", "row", "gone", "path"]) (sc := defScope sLedger) (by decide +kernel)) (fun _ _ _ _ _ => pg_name (i := 3) scLedger.nd rfl (.inl rfl)) (fun _ _ _ _ _ => pts_nil) (fun _ _ _ _ _ => pv 3) (fun _ _ _ _ _ => pe_ix ix_list (pe_dget (hu_of hr) (pv 2) (pv 3) (fun _ _ => rfl)) pe_int (fun _ _ => rfl)))))), ?_⟩
    refine ⟨_, rfl, _, rfl, _, rfl, v, x, o, hs, ps, m, fr, way, rfl, Vh, T, W, h30, hx, h100, fun rs eo hne hin q H1 x1 hq hq1 => ?_, fun hf H1 d x1 hd => k2 hf H1 d x1 hd⟩
    have hadj : ∀ p ∈ stp (walkL way rs), Adj ps p.1 p.2 := by
      cases rs with
      | nil => exact absurd rfl hne
      | cons r0 rt =>
        refine W.wk_row T _ _ (hin r0 List.mem_cons_self) (fun y hy => ?_)
        rcases List.mem_append.mp hy with hy | hy
        · exact hin y (List.mem_cons_of_mem _ hy)
        · rw [List.mem_singleton.mp hy]; exact hin r0 List.mem_cons_self
    refine ⟨v, q, _, hs, ps, m, rfl, Vh.ex x1, T, hord, hq1, hadj, p30, fun D ad H2 x2 hD hD2 had => ?_⟩
    refine ⟨D, _, hD2, trivial, fun od => ?_⟩
    refine ⟨_, rfl, D, od, rfl, .inr ⟨_, upd_same, fun L hL => ?_⟩⟩
    have hDL : D ≠ L := ne_of_none upd_same hL
    have adD : ∀ p ∈ ps, ad p ≠ D := fun p hp z => by
      have := had p hp
      rw [z, hD2] at this
      cases this
    have hL2 : H2 L = none := by rw [upd_ne hDL.symm] at hL; exact hL
    have hLH : H L = none := none_of (fun o z => x2 _ _ (x1 _ _ z)) hL2
    have d3 : upd H2 D (.frz od (.dT (tabP ps fun q => .ref (ad q)))) D = some (.frz od (.dT (tabP ps fun q => .ref (ad q)))) := upd_same
    have a3 : ∀ p ∈ ps, upd H2 D (.frz od (.dT (tabP ps fun q => .ref (ad q)))) (ad p) = some (.lst (goneV (stp (walkL way rs)) p)) := fun p hp => by rw [upd_ne (adD p hp)]; exact had p hp
    refine dcT_it (walk_keysT (kvs := tabP ps fun q => .ref (ad q))) (fun i H' => Evl.Ex (upd H2 D (.frz od (.dT (tabP ps fun q => .ref (ad q))))) H' ∧ H' L = some (.dT (tabP (ps.take i) (ledV (stp (walkL way rs)))))) ⟨Evl.Ex.new hL, upd_same⟩ (fun i H' _ hp => hp.1 _ _ d3) (fun i y H3 H4 hi hp hy => ?_) (fun H3 hp => ?_)
    · obtain ⟨x3, e3⟩ := hp
      obtain ⟨rfl, k', v', b, hk, rfl, hb⟩ := hy
      rw [tabP_length] at hi
      obtain ⟨p, hp⟩ := getD_of hi
      have hm : p ∈ ps := List.mem_of_getElem? hp
      unfold tabP at hk
      rw [List.getElem?_map, hp] at hk
      cases hk
      have g : DGet H4 D (.ref b) (some (.ref (ad p))) := by
        have e4 : DGet H4 D (.ref b) (valV (tabP ps fun q => .ref (ad q)) (kp p)) := .inr ⟨_, _, b, .inr ⟨_, x3 _ _ d3⟩, rfl, hb, rfl⟩
        rw [valP_in hm] at e4
        exact e4
      have tk : ps.take (i + 1) = ps.take i ++ [p] := by rw [List.take_add_one, hp]; rfl
      have hni : p ∉ ps.take i := fun z => by
        obtain ⟨j, hj⟩ := List.mem_iff_getElem?.mp z
        have lt : j < i := by
          have := (List.getElem?_eq_some_iff.mp hj).1
          rw [List.length_take] at this
          omega
        rw [List.getElem?_take_of_lt lt] at hj
        have := (List.getElem?_inj (List.getElem?_eq_some_iff.mp hj).1 T.np).mp (hj.trans hp.symm)
        omega
      refine ⟨rfl, _, rfl, _, rfl, _, rfl, D, _, rfl, g, ad p, _, _, _, rfl, rfl, SqL.of (x3 _ _ (a3 p hm)), atI_nat (j := 0) rfl, _, kp p, b, rfl, hb, e3, ?_, ex_upd x3 hL, ?_⟩
      · rw [tabP_length, List.length_take]
        exact Nat.lt_of_le_of_lt (show min i ps.length ≤ 30 by omega) (by decide)
      · rw [upd_same, tk]
        exact congrArg (fun z => some (HO.dT z)) (putP_new hni rfl)
    · obtain ⟨x3, e3⟩ := hp
      rw [tabP_length, List.take_length] at e3
      refine ⟨x3 _ _ d3, k1 rs eo hne hin L _ ((x1.trans x2).trans (unlockD hD2 x3)) hLH ?_⟩
      rw [upd_ne hDL.symm]
      exact e3
end
end K11

namespace K11
open PySem PySem.Spec PyProof.Rows L2 Tr Sq Dk Dt Exs
/-! ### ask_letters, ask_ledger, ask_both, round_fault -/
abbrev sAskL : Stmt := top 33
abbrev sAskG : Stmt := top 44
abbrev sAskB : Stmt := top 46
abbrev sRFlt : Stmt := top 47
def lcnt (kvs : List (Key × V)) (h : Str) : Int := match valV kvs (Sum.inr h) with
  | some (.int i) => i
  | _ => 0
theorem let_at {hs : List Str} {kvs : List (Key × V)} (h : isLet hs (some kvs) = true) {z : Str} (hz : z ∈ hs) : valV kvs (Sum.inr z) = some (.int (lcnt kvs z)) := by
  have h1 : (isTab hs (some kvs) && kvs.any fun p => posV p.2) = true := h
  rw [Bool.and_eq_true] at h1
  have h2 : (hasJ hs (some kvs) && kvs.all fun p => numV p.2) = true := h1.1
  rw [Bool.and_eq_true] at h2
  have h3 : (decide (kvs.length = hs.length) && hs.all fun h => (valV kvs (Sum.inr h)).isSome) = true := h2.1
  rw [Bool.and_eq_true] at h3
  have h4 := List.all_eq_true.mp h3.2 z hz
  unfold lcnt
  cases hv : valV kvs (Sum.inr z) with
  | none => rw [hv] at h4; cases h4
  | some x =>
    have hm : ∃ p ∈ kvs, p.2 = x := by
      unfold valV at hv
      obtain ⟨p, hp, e⟩ := Option.map_eq_some_iff.mp hv
      exact ⟨p, List.mem_of_find?_eq_some hp, e⟩
    obtain ⟨p, hp, e⟩ := hm
    have h5 := List.all_eq_true.mp h2.2 p hp
    rw [e] at h5
    cases x with
    | int i => rfl
    | _ => cases h5
def gcnt (kvs : List (List Key × V)) (q : Str × Str) : Int := match valV kvs (kp q) with
  | some (.int i) => i
  | _ => 0
theorem led_at {ps : Prs} {kvs : List (List Key × V)} (h : isTabT ps (some kvs) = true) {z : Str × Str} (hz : z ∈ ps) : valV kvs (kp z) = some (.int (gcnt kvs z)) := by
  have h2 : ((decide (kvs.length = ps.length) && ps.all fun q => (valV kvs (kp q)).isSome) && kvs.all fun p => numV p.2) = true := h
  rw [Bool.and_eq_true] at h2
  have h3 := h2.1
  rw [Bool.and_eq_true] at h3
  have h4 := List.all_eq_true.mp h3.2 z hz
  unfold gcnt
  cases hv : valV kvs (kp z) with
  | none => rw [hv] at h4; cases h4
  | some x =>
    have hm : ∃ p ∈ kvs, p.2 = x := by
      unfold valV at hv
      obtain ⟨p, hp, e⟩ := Option.map_eq_some_iff.mp hv
      exact ⟨p, List.mem_of_find?_eq_some hp, e⟩
    obtain ⟨p, hp, e⟩ := hm
    have h5 := List.all_eq_true.mp h2.2 p hp
    rw [e] at h5
    cases x with
    | int i => rfl
    | _ => cases h5
theorem dx_some {H : Hp} {x : V} {kvs : List (Key × V)} (h : DX H x (some kvs)) : ∃ a, x = .ref a ∧ H a = some (.dK kvs) := by
  cases h with
  | dic h _ _ _ => exact ⟨_, rfl, h⟩
theorem dxt_some {H : Hp} {x : V} {kvs : List (List Key × V)} (h : DXT H x (some kvs)) : ∃ a, x = .ref a ∧ H a = some (.dT kvs) := by
  cases h with
  | dct h _ _ _ => exact ⟨_, rfl, h⟩
def spAskL (C CL : Addr) : Sp := fun vs H Q E => ∃ (v : Addr) (x : V) (o : Option (List (Key × V))) (hs : List Str) (ps : Prs) (m : VilD), vs = [.ref v, x] ∧ Vil H C v hs ps m ∧ DX H x o ∧ hs.length ≤ 1000 ∧ (isLet hs o = true → ∀ H', Evl.Ex H H' → Q .non H') ∧ (isLet hs o = false → ∀ H' d, Evl.Ex H H' → H' d = none → E (.ref CL) (some d) (upd H' d (.xd [("thing", x)])))
def spAskG (C CG : Addr) : Sp := fun vs H Q E => ∃ (v : Addr) (x : V) (o : Option (List (List Key × V))) (hs : List Str) (ps : Prs) (m : VilD), vs = [.ref v, x] ∧ Vil H C v hs ps m ∧ DXT H x o ∧ ps.length ≤ 1000 ∧ (isTabT ps o = true → ∀ H', Evl.Ex H H' → Q .non H') ∧ (isTabT ps o = false → ∀ H' d, Evl.Ex H H' → H' d = none → E (.ref CG) (some d) (upd H' d (.xd [("thing", x)])))
def spAskB (C CL CG : Addr) : Sp := fun vs H Q E => ∃ (v : Addr) (x y : V) (oL : Option (List (Key × V))) (oG : Option (List (List Key × V))) (hs : List Str) (ps : Prs) (m : VilD), vs = [.ref v, x, y] ∧ Vil H C v hs ps m ∧ DX H x oL ∧ DXT H y oG ∧ hs.length ≤ 1000 ∧ ps.length ≤ 1000 ∧
  (isLet hs oL = true → isTabT ps oG = true → ∀ H', Evl.Ex H H' → Q .non H') ∧ (isLet hs oL = false → ∀ H' d, Evl.Ex H H' → H' d = none → E (.ref CL) (some d) (upd H' d (.xd [("thing", x)]))) ∧
  (isLet hs oL = true → isTabT ps oG = false → ∀ H' d, Evl.Ex H H' → H' d = none → E (.ref CG) (some d) (upd H' d (.xd [("thing", y)])))
/-- what is told of a round -/
def faultO (way : Str → Str → List Str) (hs : List Str) (ps : Prs) (L : Str → Int) (G : Str × Str → Int) (o : Option (List V)) : Option (List V) :=
  if flawV hs o = .non then match o with
    | none => none
    | some xs => match hs.find? (fun h => decide (((xs.map strV).count h : Int) ≠ L h)) with
      | some h => some [.str "letters", .str h]
      | none => match ps.find? (fun q => decide (((stp (walkL way (xs.map strV))).count q : Int) ≠ G q)) with
        | some q => some [.str "path", .str q.1, .str q.2]
        | none => none
  else some [.str "round", flawV hs o]
def Gives (u : Option (List V)) (H : Hp) (Q : VK) : Prop := ∀ H', Evl.Ex H H' → match u with
  | none => Q .non H'
  | some l => ∀ t, H' t = none → Q (.ref t) (upd H' t (.tup l))
theorem find_at {α : Type} {P : α → Bool} : ∀ {l : List α} {i : Nat} {x : α}, (∀ y ∈ l.take i, P y = false) → l[i]? = some x → P x = true → l.find? P = some x
  | [], i, x, _, h, _ => by simp at h
  | a :: l, 0, x, _, h, k => by
    simp only [List.getElem?_cons_zero, Option.some.injEq] at h
    subst h
    rw [List.find?_cons, k]
  | a :: l, i + 1, x, hl, h, k => by
    rw [List.getElem?_cons_succ] at h
    rw [List.find?_cons, hl a (by simp)]
    exact find_at (fun y hy => hl y (by rw [List.take_succ_cons]; exact List.mem_cons_of_mem _ hy)) h k
theorem strV_map (rs : List Str) : (rs.map V.str).map strV = rs := by
  rw [List.map_map]
  exact List.map_id'' (fun _ => rfl) rs
def spRFlt (C CL CG : Addr) : Sp := fun vs H Q E => ∃ (v : Addr) (x y z : V) (oL : Option (List (Key × V))) (oG : Option (List (List Key × V))) (o : Option (List V)) (hs : List Str) (ps : Prs) (m : VilD) (fr : Str → Str → Option Str) (way : Str → Str → List Str), vs = [.ref v, x, y, z] ∧ Vil H C v hs ps m ∧ Tree hs ps ∧ Ways hs ps fr way ∧ hs.length ≤ 30 ∧ (∀ q ∈ ps, ordP q = q) ∧ ps.length ≤ 30 ∧ DX H x oL ∧ DXT H y oG ∧ RX H z o ∧ (∀ xs, o = some xs → xs.length ≤ 100) ∧
  (∀ kl kg, oL = some kl → oG = some kg → isLet hs oL = true → isTabT ps oG = true → Gives (faultO way hs ps (lcnt kl) (gcnt kg) o) H Q) ∧ (isLet hs oL = false → ∀ H' d, Evl.Ex H H' → H' d = none → E (.ref CL) (some d) (upd H' d (.xd [("thing", x)]))) ∧
  (isLet hs oL = true → isTabT ps oG = false → ∀ H' d, Evl.Ex H H' → H' d = none → E (.ref CG) (some d) (upd H' d (.xd [("thing", y)])))
abbrev nmRF : List Str := ["village", "letters", "ledger", "thing", "index", "brought", "house", "gone", "path"]
section
variable {P : Program} {w : World} {K : PySem.W.Frag} {mg : Str → Option Value} {base : Heap}
theorem scAskL : FnScope ["village", "letters"] ["village", "letters"] (defScope sAskL) := ⟨rfl, rfl, rfl, by decide +kernel, rfl, by decide +kernel, by decide +kernel⟩
theorem ok_askL {C CL f f1 fL : Addr} {fd fdL : FuncData} (F : FnP K "ask_letters" sAskL f fd) (T1 : Err P w K mg base "BadLetters" "thing" CL f1) (GL : FnOk P w K mg base CX0 4 fL fdL ["village", "thing"] (spIsLet C)) (bL : L2.Binds K fdL ["village", "thing"] []) (kL : PySem.W.keepIn K (.ref fL) = true) (gL : mg "is_letters" = some (.ref fL)) :
    FnOk P w K mg base (L2.CX P w) 5 f fd ["village", "letters"] (spAskL C CL) := by
  refine F.ok scAskL (fun vs H Q E h => ?_) (fun cdv A outer s H vs Q E hr h => ?_)
  · obtain ⟨v, x, o, hs, ps, m, rfl, _⟩ := h
    rfl
  · obtain ⟨v, x, o, hs, ps, m, rfl, Vh, hx, h1k, k1, k2⟩ := h
    refine ⟨_, pss_one (ps_if (pt_not (pt_val (pe_call GL hr rfl gL kL bL .nil pass0 (pa_cons (pv 0) (pa_cons (pv 1) pa_nil))))) (pss_one (ps_raise1 rfl T1 (hr.mono (by decide)) (takes_of rfl rfl rfl rfl) rfl (pv 1))) pss_nil), ?_⟩
    refine ⟨_, rfl, _, rfl, v, x, o, hs, ps, m, rfl, Vh, hx, h1k, fun H1 x1 => ⟨_, rfl, ?_⟩⟩
    cases hi : isLet hs o with
    | true => exact iteF (k1 hi H1 x1)
    | false => exact iteT ⟨_, rfl, raiseP fun d hd => k2 hi H1 d x1 hd⟩
theorem scAskG : FnScope ["village", "ledger"] ["village", "ledger"] (defScope sAskG) := ⟨rfl, rfl, rfl, by decide +kernel, rfl, by decide +kernel, by decide +kernel⟩
theorem ok_askG {C CG f f1 fL : Addr} {fd fdL : FuncData} (F : FnP K "ask_ledger" sAskG f fd) (T1 : Err P w K mg base "BadLedger" "thing" CG f1) (GL : FnOk P w K mg base CX0 4 fL fdL ["village", "thing"] (spIsLed C)) (bL : L2.Binds K fdL ["village", "thing"] []) (kL : PySem.W.keepIn K (.ref fL) = true) (gL : mg "is_ledger" = some (.ref fL)) :
    FnOk P w K mg base (L2.CX P w) 5 f fd ["village", "ledger"] (spAskG C CG) := by
  refine F.ok scAskG (fun vs H Q E h => ?_) (fun cdv A outer s H vs Q E hr h => ?_)
  · obtain ⟨v, x, o, hs, ps, m, rfl, _⟩ := h
    rfl
  · obtain ⟨v, x, o, hs, ps, m, rfl, Vh, hx, h1k, k1, k2⟩ := h
    refine ⟨_, pss_one (ps_if (pt_not (pt_val (pe_call GL hr rfl gL kL bL .nil pass0 (pa_cons (pv 0) (pa_cons (pv 1) pa_nil))))) (pss_one (ps_raise1 rfl T1 (hr.mono (by decide)) (takes_of rfl rfl rfl rfl) rfl (pv 1))) pss_nil), ?_⟩
    refine ⟨_, rfl, _, rfl, v, x, o, hs, ps, m, rfl, Vh, hx, h1k, fun H1 x1 => ⟨_, rfl, ?_⟩⟩
    cases hi : isTabT ps o with
    | true => exact iteF (k1 hi H1 x1)
    | false => exact iteT ⟨_, rfl, raiseP fun d hd => k2 hi H1 d x1 hd⟩
theorem scAskB : FnScope ["village", "letters", "ledger"] ["village", "letters", "ledger"] (defScope sAskB) := ⟨rfl, rfl, rfl, by decide +kernel, rfl, by decide +kernel, by decide +kernel⟩
theorem ok_askB {C CL CG f fL fG : Addr} {fd fdL fdG : FuncData} (F : FnP K "ask_both" sAskB f fd) (GL : FnOk P w K mg base (L2.CX P w) 5 fL fdL ["village", "letters"] (spAskL C CL)) (bL : L2.Binds K fdL ["village", "letters"] []) (kL : PySem.W.keepIn K (.ref fL) = true) (gL : mg "ask_letters" = some (.ref fL))
    (GG : FnOk P w K mg base (L2.CX P w) 5 fG fdG ["village", "ledger"] (spAskG C CG)) (bG : L2.Binds K fdG ["village", "ledger"] []) (kG : PySem.W.keepIn K (.ref fG) = true) (gG : mg "ask_ledger" = some (.ref fG)) : FnOk P w K mg base (L2.CX P w) 6 f fd ["village", "letters", "ledger"] (spAskB C CL CG) := by
  refine F.ok scAskB (fun vs H Q E h => ?_) (fun cdv A outer s H vs Q E hr h => ?_)
  · obtain ⟨v, x, y, oL, oG, hs, ps, m, rfl, _⟩ := h
    rfl
  · obtain ⟨v, x, y, oL, oG, hs, ps, m, rfl, Vh, hx, hy, h1, h2, k1, k2, k3⟩ := h
    refine ⟨_, pss_cons (ps_expr (pe_callS GL hr rfl gL kL bL (fun σ => passAt (takes_of rfl rfl rfl rfl) σ) (pa_cons (pv 0) (pa_cons (pv 1) pa_nil))))
      (pss_one (ps_expr (pe_callS GG hr rfl gG kG bG (fun σ => passAt (takes_of rfl rfl rfl rfl) σ) (pa_cons (pv 0) (pa_cons (pv 2) pa_nil))))), ?_⟩
    refine ⟨_, rfl, _, rfl, v, x, oL, hs, ps, m, rfl, Vh, hx, h1, fun hi H1 x1 => ?_, fun hi H1 d x1 hd => k2 hi H1 d x1 hd⟩
    refine ⟨_, rfl, _, rfl, v, y, oG, hs, ps, m, rfl, Vh.ex x1, hy.ex x1, h2, fun hj H2 x2 => k1 hi hj H2 (x1.trans x2), fun hj H2 d x2 hd => k3 hi hj H2 d (x1.trans x2) hd⟩
theorem scRF : FnScope nmRF ["village", "letters", "ledger", "thing"] (defScope sRFlt) := ⟨rfl, rfl, rfl, by decide +kernel, rfl, by decide +kernel, by decide +kernel⟩
theorem ok_rFlt {C CR CL CG f fA fF fL fG : Addr} {fd fdA fdF fdL fdG : FuncData} (F : FnP K "round_fault" sRFlt f fd) (c : VC P w K mg base C) (cp : VP P w K mg base C)
    (GA : FnOk P w K mg base (L2.CX P w) 6 fA fdA ["village", "letters", "ledger"] (spAskB C CL CG)) (bA : L2.Binds K fdA ["village", "letters", "ledger"] []) (kA : PySem.W.keepIn K (.ref fA) = true) (gA : mg "ask_both" = some (.ref fA))
    (GF : FnOk P w K mg base CX0 4 fF fdF ["village", "thing"] (spFlaw C)) (bF : L2.Binds K fdF ["village", "thing"] []) (kF : PySem.W.keepIn K (.ref fF) = true) (gF : mg "round_flaw" = some (.ref fF))
    (GL : FnOk P w K mg base (L2.CX P w) 6 fL fdL ["village", "row"] (spLetOf C CR)) (bL : L2.Binds K fdL ["village", "row"] []) (kL : PySem.W.keepIn K (.ref fL) = true) (gL : mg "letters_of" = some (.ref fL))
    (GG : FnOk P w K mg base (L2.CX P w) 7 fG fdG ["village", "row"] (spLedger C CR)) (bG : L2.Binds K fdG ["village", "row"] []) (kG : PySem.W.keepIn K (.ref fG) = true) (gG : mg "ledger_of" = some (.ref fG)) :
    FnOk P w K mg base (L2.CX P w) 8 f fd ["village", "letters", "ledger", "thing"] (spRFlt C CL CG) := by
  obtain ⟨fH, fdH, mH, GH, bH⟩ := c.hs
  obtain ⟨fP, fdP, mP, GP, bP⟩ := cp.pt
  refine F.ok scRF (fun vs H Q E h => ?_) (fun cdv A outer s H vs Q E hr h => ?_)
  · obtain ⟨v, x, y, z, oL, oG, o, hs, ps, m, fr, way, rfl, _⟩ := h
    rfl
  · obtain ⟨v, x, y, z, oL, oG, o, hs, ps, m, fr, way, rfl, Vh, T, W, h30, hord, p30, hx, hy, hz, h100, k1, k2, k3⟩ := h
    refine ⟨_, pss_cons (ps_expr (pe_callS GA (hr.mono (by decide)) rfl gA kA bA (fun σ => passAt (takes_of rfl rfl rfl rfl) σ) (pa_cons (pv 0) (pa_cons (pv 1) (pa_cons (pv 2) pa_nil)))))
      (pss_cons (ps_set (i := 4) scRF.nd rfl (.inl rfl) (pe_call GF (hr.mono (by decide)) rfl gF kF bF .nil pass0 (pa_cons (pv 0) (pa_cons (pv 3) pa_nil))))
      (pss_cons (ps_if (pt_cmpR op_notN (pv 4) pe_non (nomark _)) (pss_one (ps_ret (pe_tup (pa_cons pe_str (pa_cons (pv 4) pa_nil))))) pss_nil)
      (pss_cons (ps_set (i := 5) scRF.nd rfl (.inl rfl) (pe_callS GL (hr.mono (by decide)) rfl gL kL bL (fun σ => passAt (takes_of rfl rfl rfl rfl) σ) (pa_cons (pv 0) (pa_cons (pv 3) pa_nil))))
      (pss_cons (ps_for (PassesOwn.leaving) rfl (pi_list (pe_meth0 (pv 0) c.cl mH GH (hr.mono (by decide)) bH .nil pass0)) (pg_name (i := 6) scRF.nd rfl (.inl rfl))
        (pss_one (ps_if (pt_cmpR op_ne (pe_dget (hu_of hr) (pv 5) (pv 6) (fun _ _ => rfl)) (pe_dget (hu_of hr) (pv 1) (pv 6) (fun _ _ => rfl)) (nomark _)) (pss_one (ps_ret (pe_tup (pa_cons pe_str (pa_cons (pv 6) pa_nil))))) pss_nil)))
      (pss_cons (ps_set (i := 7) scRF.nd rfl (.inl rfl) (pe_callS GG hr rfl gG kG bG (fun σ => passAt (takes_of rfl rfl rfl rfl) σ) (pa_cons (pv 0) (pa_cons (pv 3) pa_nil))))
      (pss_cons (ps_for (PassesOwn.leaving) rfl (pi_list (pe_meth0 (pv 0) c.cl mP GP (hr.mono (by decide)) bP .nil pass0)) (pg_name (i := 8) scRF.nd rfl (.inl rfl))
        (pss_one (ps_if (pt_cmpR op_ne (pe_dget (hu_of hr) (pv 7) (pv 8) (fun _ _ => rfl)) (pe_dget (hu_of hr) (pv 2) (pv 8) (fun _ _ => rfl)) (nomark _)) (pss_one (ps_ret (pe_tup (pa_cons pe_str (StX.pa_star (pv 8) pa_nil))))) pss_nil)))
      (pss_one (ps_ret pe_non)))))))), ?_⟩
    refine ⟨_, rfl, _, rfl, _, rfl, v, x, y, oL, oG, hs, ps, m, rfl, Vh, hx, hy, by omega, by omega, fun hi hj H1 x1 => ?_, fun hi H1 d x1 hd => k2 hi H1 d x1 hd, fun hi hj H1 d x1 hd => k3 hi hj H1 d x1 hd⟩
    cases oL with
    | none => cases hi
    | some kl =>
    cases oG with
    | none => cases hj
    | some kg =>
    have k := k1 kl kg rfl rfl hi hj
    obtain ⟨la, rfl, hla⟩ := dx_some hx
    obtain ⟨ga, rfl, hga⟩ := dxt_some hy
    clear k1 k2 k3
    refine ⟨_, rfl, _, rfl, v, z, o, hs, ps, m, rfl, Vh.ex x1, hz.ex x1, fun H2 x2 => ?_⟩
    have x12 := x1.trans x2
    refine ⟨_, rfl, rfl, _, rfl, ?_⟩
    by_cases hf : flawV hs o = .non
    · rw [hf]
      refine iteF ?_
      obtain ⟨rs, rfl, hne, hin⟩ := flaw_none hf
      have hnd := T.nd
      refine ⟨_, rfl, _, rfl, v, z, _, hs, ps, m, rfl, Vh.ex x12, hz.ex x12, hnd, by omega, fun rs2 e hne2 hin2 D H3 x3 hD hD3 => ?_, fun hf2 => absurd hf hf2⟩
      obtain rfl : rs = rs2 := by
        have := congrArg (fun o : Option (List V) => (o.getD []).map strV) e
        simp only [Option.getD_some, strV_map] at this
        exact this
      have x13 := x12.trans x3
      have V3 := Vh.ex x13
      refine ⟨_, rfl, v, m.dx, _, rfl, V3.at_, rfl, v, C, hs, ps, m, rfl, c.cl, c.n1, V3, fun l hl => ?_⟩
      have xl := Evl.Ex.new (o := .lst (hs.map V.str)) hl
      refine ⟨l, rfl, ⟨_, SqL.of upd_same⟩, ?_⟩
      have hl4 : upd H3 l (.lst (hs.map V.str)) l = some (.lst (hs.map V.str)) := upd_same
      have hD4 := xl _ _ hD3
      have x14 := x13.trans xl
      generalize upd H3 l (.lst (hs.map V.str)) = H4 at hl4 hD4 x14 ⊢
      clear hD hD3 x3 x13 V3 hl xl x1 x2 x12 H3 H1 H2
      refine for_it (walk_list (xs := hs.map V.str)) (fun i σ H' => ∃ v6, σ = [some (.ref v), some (.ref la), some (.ref ga), some z, some .non, some (.ref D), v6, none, none] ∧ Evl.Ex H4 H' ∧ ∀ h ∈ hs.take i, decide (((rs.count h : Nat) : Int) ≠ lcnt kl h) = false) ⟨none, rfl, fun _ _ z => z, fun h hh => absurd hh (by simp)⟩ ?_ ?_ ?_
      · rintro i σ H' _ ⟨v6, rfl, x5, _⟩
        exact SqL.of (x5 _ _ hl4)
      · rintro i u σ H' H5 hi2 ⟨v6, rfl, x5, hb⟩ ⟨rfl, hu⟩
        rw [List.length_map] at hi2
        obtain ⟨h, hh⟩ := getD_of hi2
        rw [List.getElem?_map, hh] at hu
        cases hu
        have hm := List.mem_of_getElem? hh
        have g1 : DGet H5 D (kV (Sum.inr h)) (some (.int (rs.count h : Nat))) := by have := DGet.k (k := Sum.inr h) (x5 _ _ hD4); rw [val_in hm] at this; exact this
        have g2 : DGet H5 la (kV (Sum.inr h)) (some (.int (lcnt kl h))) := by have := DGet.k (k := Sum.inr h) ((x14.trans x5) _ _ hla); rw [let_at hi hm] at this; exact this
        refine ⟨_, rfl, _, rfl, D, _, rfl, g1, _, rfl, _, rfl, la, _, rfl, g2, rfl, _, rfl, ?_⟩
        by_cases hq : ((rs.count h : Nat) : Int) = lcnt kl h
        · refine ite2 (fun w => ?_) (fun _ => ⟨_, rfl, x5, fun h2 hh2 => ?_⟩)
          · rw [hq] at w
            simp at w
          · rw [List.take_add_one, hh] at hh2
            rcases List.mem_append.mp hh2 with hh2 | hh2
            · exact hb h2 hh2
            · have hh2 : h2 = h := by simpa using hh2
              rw [hh2]
              simpa using hq
        · refine ite2 (fun _ => ⟨_, rfl, by show 2 ≤ sizeLine; decide, fun t ht => ?_⟩) (fun w => absurd ?_ w)
          · have e : faultO way hs ps (lcnt kl) (gcnt kg) (some (rs.map V.str)) = some [.str "letters", .str h] := by
              unfold faultO
              rw [if_pos hf]
              simp only [strV_map]
              rw [find_at hb hh (by simpa using hq)]
            rw [e] at k
            exact k H5 (x14.trans x5) t ht
          · simpa using hq
      · rintro σ H5 ⟨v6, rfl, x5, hb⟩
        rw [List.length_map, List.take_length] at hb
        have x15 := x14.trans x5
        have fN : hs.find? (fun h => decide (((rs.count h : Nat) : Int) ≠ lcnt kl h)) = none := List.find?_eq_none.mpr fun h hh => by rw [hb h hh]; decide
        refine ⟨_, rfl, _, rfl, v, z, _, hs, ps, m, fr, way, rfl, Vh.ex x15, T, W, h30, hord, p30, hz.ex x15, h100, fun rs2 e hne2 hin2 Dg H6 x6 hDg hDg6 => ?_, fun hf2 => absurd hf hf2⟩
        obtain rfl : rs = rs2 := by
          have := congrArg (fun o : Option (List V) => (o.getD []).map strV) e
          simp only [Option.getD_some, strV_map] at this
          exact this
        have x16 := x15.trans x6
        have V6 := Vh.ex x16
        refine ⟨_, rfl, v, m.dx, _, rfl, V6.at_, rfl, v, C, hs, ps, m, rfl, c.cl, c.n2, V6, fun l2 hl2 => ?_⟩
        have xl := Evl.Ex.new (o := .lst (refsL m.zs)) hl2
        refine ⟨l2, rfl, ⟨_, SqL.of upd_same⟩, ?_⟩
        have hl7 : upd H6 l2 (.lst (refsL m.zs)) l2 = some (.lst (refsL m.zs)) := upd_same
        have hDg7 := xl _ _ hDg6
        have x17 := x16.trans xl
        have P7 : PrsAt (upd H6 l2 (.lst (refsL m.zs))) m.zs := Vh.pr.ex x17
        generalize upd H6 l2 (.lst (refsL m.zs)) = H7 at hl7 hDg7 x17 P7 ⊢
        clear hDg hDg6 x6 x16 V6 hl2 xl
        have zl : m.zs.length = ps.length := by rw [← Vh.eq, List.length_map]
        refine for_it (walk_list (xs := refsL m.zs)) (fun i σ H' => ∃ v8, σ = [some (.ref v), some (.ref la), some (.ref ga), some z, some .non, some (.ref D), v6, some (.ref Dg), v8] ∧ Evl.Ex H7 H' ∧ ∀ q ∈ ps.take i, decide ((((stp (walkL way rs)).count q : Nat) : Int) ≠ gcnt kg q) = false) ⟨none, rfl, fun _ _ z => z, fun h hh => absurd hh (by simp)⟩ ?_ ?_ ?_
        · rintro i σ H' _ ⟨v8, rfl, x8, _⟩
          exact SqL.of (x8 _ _ hl7)
        · rintro i u σ H' H8 hi2 ⟨v8, rfl, x8, hb2⟩ ⟨rfl, hu⟩
          unfold refsL at hi2 hu
          rw [List.length_map] at hi2
          obtain ⟨t0, ht0⟩ := getD_of hi2
          rw [List.getElem?_map, ht0] at hu
          cases hu
          obtain ⟨tb, q⟩ := t0
          have tm := List.mem_of_getElem? ht0
          have hh : ps[i]? = some q := by rw [← Vh.eq, List.getElem?_map, ht0]; rfl
          have hm := List.mem_of_getElem? hh
          have tq : H8 tb = some (.tup [.str q.1, .str q.2]) := x8 _ _ (P7 _ tm)
          have g1 : DGet H8 Dg (.ref tb) (some (.int ((stp (walkL way rs)).count q : Nat))) := by
            have e4 : DGet H8 Dg (.ref tb) (valV (tabP ps (ledV (stp (walkL way rs)))) (kp q)) := .inr ⟨_, kp q, tb, .inl (x8 _ _ hDg7), rfl, tq, rfl⟩
            rw [valP_in hm] at e4
            exact e4
          have g2 : DGet H8 ga (.ref tb) (some (.int (gcnt kg q))) := by
            have e4 : DGet H8 ga (.ref tb) (valV kg (kp q)) := .inr ⟨_, kp q, tb, .inl ((x17.trans x8) _ _ hga), rfl, tq, rfl⟩
            rw [led_at hj hm] at e4
            exact e4
          refine ⟨_, rfl, _, rfl, Dg, _, rfl, g1, _, rfl, _, rfl, ga, _, rfl, g2, rfl, _, rfl, ?_⟩
          by_cases hq : (((stp (walkL way rs)).count q : Nat) : Int) = gcnt kg q
          · refine ite2 (fun w => ?_) (fun _ => ⟨_, rfl, x8, fun h2 hh2 => ?_⟩)
            · rw [hq] at w
              simp at w
            · rw [List.take_add_one, hh] at hh2
              rcases List.mem_append.mp hh2 with hh2 | hh2
              · exact hb2 h2 hh2
              · have hh2 : h2 = q := by simpa using hh2
                rw [hh2]
                simpa using hq
          · refine ite2 (fun _ => ⟨_, rfl, tb, _, rfl, .inl (SqT.of tq), by show 3 ≤ sizeLine; decide, fun t ht => ?_⟩) (fun w => absurd ?_ w)
            · have e : faultO way hs ps (lcnt kl) (gcnt kg) (some (rs.map V.str)) = some [.str "path", .str q.1, .str q.2] := by
                unfold faultO
                rw [if_pos hf]
                simp only [strV_map]
                rw [fN]
                simp only []
                rw [find_at hb2 hh (by simpa using hq)]
              rw [e] at k
              exact k H8 (x17.trans x8) t ht
            · simpa using hq
        · rintro σ H8 ⟨v8, rfl, x8, hb2⟩
          rw [show (refsL m.zs).length = ps.length by unfold refsL; rw [List.length_map, zl], List.take_length] at hb2
          have e : faultO way hs ps (lcnt kl) (gcnt kg) (some (rs.map V.str)) = none := by
            unfold faultO
            rw [if_pos hf]
            simp only [strV_map]
            rw [fN]
            simp only []
            rw [List.find?_eq_none.mpr fun q hq => by rw [hb2 q hq]; decide]
          rw [e] at k
          exact k H8 (x17.trans x8)
    · have e : faultO way hs ps (lcnt kl) (gcnt kg) o = some [.str "round", flawV hs o] := by
        unfold faultO
        rw [if_neg hf]
      rw [e] at k
      refine ite2 (fun _ => ⟨_, rfl, by show 2 ≤ sizeLine; decide, fun t ht => k H2 x12 t ht⟩) (fun w => absurd ?_ w)
      rcases flaw_or hs o with e | ⟨i, e⟩
      · exact absurd e hf
      · rw [e]
        rfl
end
end K11

namespace K11
open PySem PySem.Spec PyProof.Rows L2 Tr Sq Dk
/-! ### _law_v_walk -/
abbrev sVWalk : Stmt := top 70
theorem cutV_tl {x : V} {xs : List V} : cutV (x :: xs) (some 1) none = xs := by
  unfold cutV
  rw [show (1 : Int) = ((1 : Nat) : Int) from rfl, HT.sIx_nat, HT.sIx_none, show min 1 (x :: xs).length = 1 by rw [List.length_cons]; omega]
  show (List.drop 1 (x :: xs)).take _ = xs
  rw [List.drop_one, List.tail_cons, List.take_of_length_le (by rw [List.length_cons]; omega)]
theorem cutV_hd {x : V} {xs : List V} : cutV (x :: xs) none (some 1) = [x] := cutV_take 1
def spVWalk : Sp := fun vs H Q _ => ∃ (q l : Addr) (qs : PrL) (hs : List Str) (r0 : Str) (rt : List Str) (fr : Str → Str → Option Str) (way : Str → Str → List Str), vs = [.ref q, .ref l] ∧ H q = some (.lst (refsL qs)) ∧ PrsAt H qs ∧ Tree hs (qs.map (·.2)) ∧ Ways hs (qs.map (·.2)) fr way ∧ hs.length ≤ 30 ∧ qs.length ≤ 30 ∧ (∀ h ∈ hs, h ∈ names12) ∧ H l = some (.lst ((r0 :: rt).map V.str)) ∧ (∀ r ∈ r0 :: rt, r ∈ hs) ∧ rt.length ≤ 100 ∧
  ∀ (r : Addr) (H' : Hp), Evl.Ex H H' → H r = none → H' r = some (.lst ((walkL way (r0 :: rt)).map V.str)) → Q (.ref r) H'
section
variable {P : Program} {w : World} {K : PySem.W.Frag} {mg : Str → Option Value} {base : Heap}
theorem scVWalk : FnScope ["paths", "row", "found", "house"] ["paths", "row"] (defScope sVWalk) := ⟨rfl, rfl, rfl, by decide +kernel, rfl, by decide +kernel, by decide +kernel⟩
theorem ok_vWalk {f fW : Addr} {fd fdW : FuncData} (F : FnP K "_law_v_walk" sVWalk f fd) (GW : FnOk P w K mg base CX0 2 fW fdW ["paths", "one", "other"] spWay) (bW : L2.Binds K fdW ["paths", "one", "other"] []) (kW : PySem.W.keepIn K (.ref fW) = true) (gW : mg "_law_v_way" = some (.ref fW)) : FnOk P w K mg base CX0 3 f fd ["paths", "row"] spVWalk := by
  refine F.ok scVWalk (fun vs H Q E h => ?_) (fun cdv A outer s H vs Q E hr h => ?_)
  · obtain ⟨q, l, qs, hs, r0, rt, fr, way, rfl, _⟩ := h
    rfl
  · obtain ⟨q, l, qs, hs, r0, rt, fr, way, rfl, hq, hP, T, W, h30, q30, hgood, hl, hin, h100, k⟩ := h
    refine ⟨_, PSs.nox (pss_cons (ps_set (i := 2) scVWalk.nd rfl (.inl rfl) (pe_lst (pa_cons (pe_ix ix_list (pv 1) pe_int (fun _ _ => rfl)) pa_nil)))
      (pss_cons (ps_for PassesOwn.never rfl (pi_list (pe_op op_cat (pe_slice sl_list (pv 1) (po_some pe_int) po_none) (pe_slice sl_list (pv 1) po_none (po_some pe_int)))) (pg_name (i := 3) scVWalk.nd rfl (.inl rfl))
        (pss_one (ps_expr (pe_bm PySem.F.plainAttrs_list PySem.F.slot_list_extend PySem.F.type_list_extend mt_extend (pv 2) (pa_cons (pe_slice sl_list (pe_call GW hr rfl gW kW bW .nil pass0 (pa_cons (pv 0) (pa_cons (pe_ix ix_list (pv 2) (pe_un un_neg pe_int) (fun _ _ => rfl)) (pa_cons (pv 3) pa_nil)))) (po_some pe_int) po_none) pa_nil)))))
      (pss_one (ps_ret (pv 2))))), ?_⟩
    refine ⟨_, rfl, l, _, _, _, rfl, rfl, SqL.of hl, atI_nat (j := 0) rfl, by show 1 ≤ sizeLine; decide, fun fo hfo => ?_⟩
    have x1 : Evl.Ex H (upd H fo (.lst [.str r0])) := Evl.Ex.new hfo
    have f1 : upd H fo (.lst [.str r0]) fo = some (.lst [.str r0]) := upd_same
    generalize upd H fo (.lst [.str r0]) = H1 at x1 f1
    have hl1 := x1 _ _ hl
    refine ⟨_, rfl, _, rfl, l, _, rfl, SqL.of hl1, fun a1 ha1 => ?_⟩
    rw [show cutV (List.map V.str (r0 :: rt)) (some 1) none = rt.map V.str from cutV_tl]
    refine ⟨_, rfl, _, rfl, l, _, rfl, SqL.of ((Evl.Ex.new ha1) _ _ hl1), fun a2 ha2 => ?_⟩
    rw [show cutV (List.map V.str (r0 :: rt)) none (some 1) = [V.str r0] from cutV_hd]
    have n12 : a1 ≠ a2 := ne_of_none upd_same ha2
    refine ⟨a1, a2, _, _, rfl, rfl, by rw [upd_ne n12]; exact upd_same, upd_same, ?_, fun a3 ha3 => ?_⟩
    · rw [List.length_map]
      exact Nat.le_trans (show rt.length + 1 ≤ 101 by omega) (by decide)
    · have e9 : rt.map V.str ++ [V.str r0] = (rt ++ [r0]).map V.str := by rw [List.map_append]; rfl
      rw [e9]
      have x2 : Evl.Ex H1 (upd (upd (upd H1 a1 (.lst (rt.map V.str))) a2 (.lst [.str r0])) a3 (.lst ((rt ++ [r0]).map V.str))) := ((Evl.Ex.new ha1).trans (Evl.Ex.new ha2)).trans (Evl.Ex.new ha3)
      have f3 : upd (upd (upd H1 a1 (.lst (rt.map V.str))) a2 (.lst [.str r0])) a3 (.lst ((rt ++ [r0]).map V.str)) a3 = some (.lst ((rt ++ [r0]).map V.str)) := upd_same
      have n3' : fo ≠ a3 := ne_of_none (show upd (upd H1 a1 (.lst (rt.map V.str))) a2 (.lst [.str r0]) fo = some (.lst [.str r0]) from (Evl.Ex.new ha2) _ _ ((Evl.Ex.new ha1) _ _ f1)) ha3
      generalize upd (upd (upd H1 a1 (.lst (rt.map V.str))) a2 (.lst [.str r0])) a3 (.lst ((rt ++ [r0]).map V.str)) = H2 at x2 f3
      have n3 : a3 ≠ fo := n3'.symm
      have f2 := x2 _ _ f1
      have hr0 : r0 ∈ hs := hin r0 List.mem_cons_self
      have hrs : ∀ r ∈ rt ++ [r0], r ∈ hs := fun r hr => by
        rcases List.mem_append.mp hr with hr | hr
        · exact hin r (List.mem_cons_of_mem _ hr)
        · simp only [List.mem_singleton] at hr
          rw [hr]; exact hr0
      refine ⟨a3, rfl, ⟨_, SqL.of f3⟩, ?_⟩
      refine for_it (walk_list (xs := (rt ++ [r0]).map V.str)) (fun i σ H' => ∃ v3, σ = [some (.ref q), some (.ref l), some (.ref fo), v3] ∧ Evl.Ex H H' ∧ H' a3 = some (.lst ((rt ++ [r0]).map V.str)) ∧ H' fo = some (.lst ((r0 :: wkFrom way r0 ((rt ++ [r0]).take i)).map V.str))) ?_ ?_ ?_ ?_
      · exact ⟨_, rfl, x1.trans x2, f3, f2⟩
      · rintro i σ H' _ ⟨v3, rfl, x4, e4, e5⟩
        exact SqL.of e4
      · rintro i y σ H4 H5 hi ⟨v3, rfl, x4, e4, e5⟩ ⟨rfl, hy⟩
        rw [List.length_map] at hi
        obtain ⟨h, hh⟩ := getD_of hi
        rw [List.getElem?_map, hh] at hy
        cases hy
        have hm : h ∈ hs := hrs h (List.mem_of_getElem? hh)
        have tk : (rt ++ [r0]).take (i + 1) = (rt ++ [r0]).take i ++ [h] := by rw [List.take_add_one, hh]; rfl
        have pin : ∀ x ∈ (rt ++ [r0]).take i, x ∈ hs := fun x hx => hrs x (List.mem_of_mem_take hx)
        have plen := W.wk_len T _ r0 hr0 pin
        have plast := W.wk_last _ r0 hr0 pin
        have prl : ((rt ++ [r0]).take i).length ≤ 101 := by rw [List.length_take, List.length_append, List.length_singleton]; omega
        have lm : ((rt ++ [r0]).take i).getLastD r0 ∈ hs := by
          have := List.mem_of_getLast? plast
          rcases List.mem_cons.mp this with e | e
          · rw [e]; exact hr0
          · exact W.wk_mem T _ _ hr0 pin _ e
        rw [tk, wkFrom_snoc]
        generalize (rt ++ [r0]).take i = pre at e5 pin plen plast prl lm ⊢
        obtain ⟨w1, ew, _⟩ := W.tail_last lm hm
        have wl := W.len T lm hm
        obtain ⟨Y, eY⟩ : ∃ Y, r0 :: wkFrom way r0 pre = Y ++ [pre.getLastD r0] := by
          rw [List.getLast?_eq_some_iff] at plast
          exact plast
        have e5' : H5 fo = some (.lst (Y.map V.str ++ [.str (pre.getLastD r0)])) := by rw [e5, eY, List.map_append]; rfl
        refine ⟨_, rfl, .inl ⟨rfl, _, SqL.of e5⟩, ?_⟩
        refine ⟨_, rfl, _, rfl, _, rfl, fo, _, -1, _, rfl, rfl, SqL.of e5', atI_last _ _, _, rfl, q, pre.getLastD r0, h, qs, hs, fr, way, rfl, x4 _ _ hq, hP.ex x4, T, W, lm, hm, h30, q30, hgood, fun r H6 x6 hr6 hr6' => ?_⟩
        refine ⟨_, rfl, r, _, rfl, SqL.of hr6', fun c hc => ?_⟩
        have ec : cutV ((way (pre.getLastD r0) h).map V.str) (some 1) none = w1.map V.str := by rw [ew, List.map_cons, cutV_tl]
        rw [ec]
        have n4 : fo ≠ c := ne_of_none (x6 _ _ e5) hc
        refine ⟨fo, c, _, _, rfl, rfl, by rw [upd_ne n4]; exact x6 _ _ e5, upd_same, ?_, ?_⟩
        · rw [List.length_map, List.length_map, List.length_cons]
          rw [ew, List.length_cons] at wl
          have : hs.length * pre.length ≤ 30 * 101 := Nat.mul_le_mul h30 prl
          exact Nat.le_trans (show _ ≤ 5000 by omega) (by decide)
        · refine ⟨_, rfl, ex_upd ((x4.trans x6).trans (Evl.Ex.new hc)) hfo, ?_, ?_⟩
          · rw [upd_ne n3]
            have := x6 _ _ e4
            rw [upd_ne (ne_of_none this hc)]
            exact this
          · rw [upd_same, ← List.map_append, ew]
            rfl
      · rintro σ H4 ⟨v3, rfl, x4, e4, e5⟩
        rw [List.length_map, List.take_length] at e5
        exact ⟨_, rfl, k fo H4 x4 hfo e5⟩
end
end K11

namespace K11
open PySem PySem.Spec PyProof.Rows L2 Tr Sq Dk
/-! ### _law_v_letters (beside vwk) -/
abbrev sVLet : Stmt := top 69
def spVLet : Sp := fun vs H Q _ => ∃ (l q : Addr) (hs rs : List Str), vs = [.ref l, .ref q] ∧ H l = some (.lst (hs.map V.str)) ∧ H q = some (.lst (rs.map V.str)) ∧ hs.Nodup ∧ hs.length ≤ 30 ∧
  ∀ (d : Addr) (ys : List Str) (H' : Hp), Evl.Ex H H' → H d = none → H' d = some (.dK (tab ys (cntV rs))) → ys.Perm hs → sortedS ys = true → Q (.ref d) H'
theorem strs_len {ys : List Str} : (ys.map V.str).length = ys.length := List.length_map _
section
variable {P : Program} {w : World} {K : PySem.W.Frag} {mg : Str → Option Value} {base : Heap}
theorem scVLet : FnScope ["houses", "row", "house"] ["houses", "row"] (defScope sVLet) := ⟨rfl, rfl, rfl, by decide +kernel, rfl, by decide +kernel, by decide +kernel⟩
theorem ok_vLet {f : Addr} {fd : FuncData} (F : FnP K "_law_v_letters" sVLet f fd) (gD : mg "dict" = none) (gS : mg "sorted" = none) : FnOk P w K mg base CX0 1 f fd ["houses", "row"] spVLet := by
  refine F.ok scVLet (fun vs H Q E h => ?_) (fun cdv A outer s H vs Q E hr h => ?_)
  · obtain ⟨l, q, hs, rs, rfl, _⟩ := h
    rfl
  · obtain ⟨l, q, hs, rs, rfl, hl, hq, hnd, h30, k⟩ := h
    refine' ⟨_, PSs.nox (pss_one (ps_ret (pe_callTy (call_dictP rfl) (by rfl) gD (by decide +kernel) (pa_cons ?lc pa_nil)))), ?rd⟩
    case lc =>
      refine pe_lc (own := [("house", 2)]) (g := gName 2) (tt := tYes) (te := tTup (tCons (tVar 2) (tCons (tBM K "list" (rCntS K) (tVar 1) (tCons (tVar 2) tNil)) tNil))) rfl scVLet.nd (pi_list (pe_callB cr_sortedS (by rfl) gS (by decide +kernel) (pa_cons (pv 0) pa_nil)))
        (blkOk_by (own := [("house", 2)]) (N := ["houses", "row", "house"]) (sc := defScope sVLet) (by decide +kernel)) (fun _ _ _ _ _ => pg_name (i := 2) scVLet.nd rfl (.inl rfl)) (fun _ _ _ _ _ => pts_nil) ?_
      intro _ _ _ _ _
      exact pe_tup (pa_cons (pv 2) (pa_cons (pe_bm PySem.F.plainAttrs_list PySem.F.slot_list_count PySem.F.type_list_count mt_lcountS (pv 1) (pa_cons (pv 2) pa_nil)) pa_nil))
    refine ⟨_, rfl, l, hs, rfl, SqL.of hl, by omega, fun ys p hys hsr hp => ?_⟩
    refine ⟨p, rfl, ⟨_, SqL.of upd_same⟩, fun D hD => ?_⟩
    have x1 : Evl.Ex H (upd H p (.lst (ys.map V.str))) := Evl.Ex.new hp
    have p1 : upd H p (.lst (ys.map V.str)) p = some (.lst (ys.map V.str)) := upd_same
    generalize upd H p (.lst (ys.map V.str)) = H1 at x1 p1 hD
    refine lc_it (walk_list (xs := ys.map V.str)) (fun i H' => Evl.Ex H1 H' ∧ ∃ ts : List Addr, H' D = some (.lst (ts.map V.ref)) ∧ Paired (fun t (kv : Key × V) => H' t = some (.tup [kV kv.1, kv.2])) ts (tab (ys.take i) (cntV rs))) ⟨Evl.Ex.new hD, [], upd_same, .nil⟩ (fun i H' _ hp => SqL.of (hp.1 _ _ p1)) (fun i x H2 H3 hi hp hy => ?_) (fun H2 hp => ?_)
    · obtain ⟨x2, ts, e1, e2⟩ := hp
      obtain ⟨rfl, hx⟩ := hy
      rw [List.length_map] at hi
      obtain ⟨h, hh⟩ := getD_of hi
      rw [List.getElem?_map, hh] at hx
      cases hx
      have tl : ts.length = i := by
        have := Paired.length e2
        rw [this, tab_length, List.length_take]
        omega
      have tk : ys.take (i + 1) = ys.take i ++ [h] := by rw [List.take_add_one, hh]; rfl
      refine ⟨rfl, _, rfl, _, rfl, .inl ⟨rfl, _, SqL.of (x2 _ _ (x1 _ _ hq))⟩, _, rfl, q, rs, h, rfl, rfl, SqL.of (x2 _ _ (x1 _ _ hq)), by show 2 ≤ sizeLine; decide, fun u hu => ?_⟩
      have hDu : D ≠ u := ne_of_none e1 hu
      refine ⟨_, by rw [upd_ne hDu]; exact e1, ?_, ex_upd (x2.trans (Evl.Ex.new hu)) hD, ts ++ [u], by rw [upd_same, List.map_append]; rfl, ?_⟩
      · rw [List.length_map, tl]
        have := hys.length_eq
        exact Nat.lt_of_le_of_lt (show i ≤ 30 by omega) (by decide)
      · rw [tk]
        unfold tab
        rw [List.map_append]
        refine paired_app (Paired.mapP e2 fun t kv z => ?_) (.cons ?_ .nil)
        · rw [upd_ne (fun q9 => by rw [q9, e1] at z; cases z), upd_ne (ne_of_none z hu)]
          exact z
        · rw [upd_ne hDu.symm]
          exact upd_same
    · obtain ⟨x2, ts, e1, e2⟩ := hp
      rw [List.length_map, List.take_length] at e2
      refine ⟨D, ts, tab ys (cntV rs), rfl, SqL.of e1, Paired.mapP e2 fun t kv z => SqT.of z, fun d hd => ?_⟩
      have nd : ys.Nodup := hys.nodup_iff.mpr hnd
      have em : mergeK [] (tab ys (cntV rs)) = tab ys (cntV rs) := merge_tab ys [] nd
      rw [em]
      have x3 := x1.trans x2
      refine k d ys _ (x3.trans (Evl.Ex.new hd)) ?_ upd_same hys hsr
      cases q1 : H d with
      | none => rfl
      | some o => rw [x3 _ _ q1] at hd; cases hd
end
end K11

namespace K11
open PySem PySem.Spec PyProof.Rows L2 Tr Sq Dk Dt
/-! ### _law_v_ledger -/
abbrev sVLed : Stmt := top 71
theorem mergeT_tab {g : Str × Str → V} : ∀ (l acc : Prs), (acc ++ l).Nodup → mergeT (tabP acc g) (tabP l g) = tabP (acc ++ l) g
  | [], acc, _ => by rw [List.append_nil]; rfl
  | a :: r, acc, h => by
    have ha : a ∉ acc := fun z => by
      have := (List.nodup_append.mp h).2.2 a z a List.mem_cons_self
      exact this rfl
    show mergeT (putK (tabP acc g) (kp a) (g a)) (tabP r g) = _
    rw [putP_new ha rfl, mergeT_tab r (acc ++ [a]) (by rw [List.append_assoc]; exact h), List.append_assoc]
    rfl
theorem zip_two {H : Hp} {ts : List Addr} : ∀ {l k : List Str} {ts : List Addr}, Paired (fun (t : Addr) (q : V × V) => H t = some (.tup [q.1, q.2])) ts ((l.map V.str).zip (k.map V.str)) → Paired (TwoAt H) ts (l.zip k)
  | [], _, _, h => by cases h; exact .nil
  | _ :: _, [], _, h => by cases h; exact .nil
  | x :: l, y :: k, _, h => by
    cases h with
    | cons a b => exact .cons a (zip_two (ts := []) b)
def spVLed : Sp := fun vs H Q _ => ∃ (q l : Addr) (qs : PrL) (hs : List Str) (ps : Prs) (r0 : Str) (rt : List Str) (fr : Str → Str → Option Str) (way : Str → Str → List Str), vs = [.ref q, .ref l] ∧ H q = some (.lst (refsL qs)) ∧ PrsAt H qs ∧ Tree hs (qs.map (·.2)) ∧ Ways hs (qs.map (·.2)) fr way ∧ hs.length ≤ 30 ∧ qs.length ≤ 30 ∧ (∀ h ∈ hs, h ∈ names12) ∧ H l = some (.lst ((r0 :: rt).map V.str)) ∧ (∀ r ∈ r0 :: rt, r ∈ hs) ∧ rt.length ≤ 100 ∧
  ps.Perm ((qs.map (·.2)).map ordP) ∧ ps.Pairwise (fun x y => Srs.lexT y x = false) ∧ ps.Nodup ∧
  ∀ (d : Addr) (H' : Hp), Evl.Ex H H' → H d = none → H' d = some (.dT (tabP ps (ledV (stp (walkL way (r0 :: rt)))))) → Q (.ref d) H'
section
variable {P : Program} {w : World} {K : PySem.W.Frag} {mg : Str → Option Value} {base : Heap}
theorem scVLed : FnScope ["paths", "row", "walk", "steps", "pair"] ["paths", "row"] (defScope sVLed) := ⟨rfl, rfl, rfl, by decide +kernel, rfl, by decide +kernel, by decide +kernel⟩
theorem ok_vLed {f fW fK : Addr} {fd fdW fdK : FuncData} (F : FnP K "_law_v_ledger" sVLed f fd) (GW : FnOk P w K mg base CX0 3 fW fdW ["paths", "row"] spVWalk) (bW : L2.Binds K fdW ["paths", "row"] []) (kW : PySem.W.keepIn K (.ref fW) = true) (gW : mg "_law_v_walk" = some (.ref fW))
    (GK : FnOk P w K mg base CX0 1 fK fdK ["paths"] spKeys) (bK : L2.Binds K fdK ["paths"] []) (kK : PySem.W.keepIn K (.ref fK) = true) (gK : mg "_law_v_keys" = some (.ref fK)) (gL : mg "list" = none) (gZ : mg "zip" = none) (gD : mg "dict" = none) : FnOk P w K mg base CX0 4 f fd ["paths", "row"] spVLed := by
  refine F.ok scVLed (fun vs H Q E h => ?_) (fun cdv A outer s H vs Q E hr h => ?_)
  · obtain ⟨q, l, qs, hs, ps, r0, rt, fr, way, rfl, _⟩ := h
    rfl
  · obtain ⟨q, l, qs, hs, ps, r0, rt, fr, way, rfl, hq, hP, T, W, h30, q30, hgood, hl, hin, h100, hpp, hpw, hpn, k⟩ := h
    refine' ⟨_, PSs.nox (pss_cons (ps_set (i := 2) scVLed.nd rfl (.inl rfl) (pe_call GW hr rfl gW kW bW .nil pass0 (pa_cons (pv 0) (pa_cons (pv 1) pa_nil))))
      (pss_cons (ps_set (i := 3) scVLed.nd rfl (.inr rfl) (pe_listZip (by rfl) (by rfl) gL (by decide +kernel) (by rfl) gZ (pa_cons (pv 2) (pa_cons (pe_slice sl_list (pv 2) (po_some pe_int) po_none) pa_nil))))
      (pss_one (ps_ret (pe_callTy (call_dictT rfl (Nat.lt_of_le_of_lt (Nat.add_le_add_left (by decide : 2 ≤ 64) _) hr.units)) (by rfl) gD (by decide +kernel) (pa_cons ?lc pa_nil)))))), ?rd⟩
    case lc =>
      refine pe_lc (own := [("pair", 4)]) (g := gName 4) (tt := tYes) (te := tTup (tCons (tVar 4) (tCons (tBM K "list" (rCntP K) (tVar 3) (tCons (tVar 4) tNil)) tNil))) rfl scVLed.nd (pi_list (pe_call GK (hr.mono (by decide)) rfl gK kK bK .nil pass0 (pa_cons (pv 0) pa_nil)))
        (blkOk_by (own := [("pair", 4)]) (N := ["paths", "row", "walk", "steps", "pair"]) (sc := defScope sVLed) (by decide +kernel)) (fun _ _ _ _ _ => pg_name (i := 4) scVLed.nd rfl (.inl rfl)) (fun _ _ _ _ _ => pts_nil) ?_
      intro _ _ _ _ _
      exact pe_tup (pa_cons (pv 4) (pa_cons (pe_bm PySem.F.plainAttrs_list PySem.F.slot_list_count PySem.F.type_list_count (mt_countP (Nat.lt_of_le_of_lt (Nat.add_le_add_left (by decide : 3 ≤ 64) _) hr.units)) (pv 3) (pa_cons (pv 4) pa_nil)) pa_nil))
    refine ⟨_, rfl, _, rfl, q, l, qs, hs, r0, rt, fr, way, rfl, hq, hP, T, W, h30, q30, hgood, hl, hin, h100, fun wa H1 x1 hw hw1 => ?_⟩
    have tl1 : cutV ((walkL way (r0 :: rt)).map V.str) (some 1) none = (walkL way (r0 :: rt)).tail.map V.str := by
      show cutV (V.str r0 :: (wkFrom way r0 (rt ++ [r0])).map V.str) (some 1) none = _
      rw [cutV_tl]
      rfl
    have hrr : ∀ r ∈ rt ++ [r0], r ∈ hs := fun r hr => by
      rcases List.mem_append.mp hr with hr | hr
      · exact hin r (List.mem_cons_of_mem _ hr)
      · rw [List.mem_singleton.mp hr]; exact hin r0 List.mem_cons_self
    refine ⟨_, rfl, _, rfl, _, rfl, wa, _, rfl, SqL.of hw1, fun c hc => ?_⟩
    rw [tl1]
    have xc := Evl.Ex.new (o := .lst ((walkL way (r0 :: rt)).tail.map V.str)) hc
    have c1 : upd H1 c (.lst ((walkL way (r0 :: rt)).tail.map V.str)) c = some (.lst ((walkL way (r0 :: rt)).tail.map V.str)) := upd_same
    generalize upd H1 c (.lst ((walkL way (r0 :: rt)).tail.map V.str)) = H2 at xc c1
    refine ⟨wa, c, _, _, rfl, SqL.of (xc _ _ hw1), SqL.of c1, fun H3 p ts x3 hp hts hpt hp3 hz => ?_⟩
    have two : Paired (TwoAt H3) ts (stp (walkL way (r0 :: rt))) := zip_two (ts := []) hz
    have x13 := (x1.trans xc).trans x3
    refine ⟨_, rfl, q, qs, ps, rfl, x13 _ _ hq, hP.ex x13, fun t ht => ?_, by omega, hpp, hpw, fun r zs H4 hr4 x4 hr4' hz4 hze => ?_⟩
    · intro z
      have hm : (t.2.1, t.2.2) ∈ qs.map (·.2) := List.mem_map.mpr ⟨t, ht, rfl⟩
      rw [z] at hm
      exact T.irr (.inl hm)
    have zl : zs.length = ps.length := by rw [← hze, List.length_map]
    have pl : ps.length ≤ 30 := by
      have := hpp.length_eq
      rw [List.length_map, List.length_map] at this
      omega
    have rl : (refsL zs).length = zs.length := by unfold refsL; rw [List.length_map]
    refine ⟨r, rfl, ⟨_, SqL.of hr4'⟩, fun D hD => ?_⟩
    refine lc_it (walk_list (xs := refsL zs)) (fun i H' => Evl.Ex H4 H' ∧ ∃ us : List Addr, H' D = some (.lst (us.map V.ref)) ∧ Paired (EntT H') us (tabP (ps.take i) (ledV (stp (walkL way (r0 :: rt)))))) ⟨Evl.Ex.new hD, [], upd_same, .nil⟩ (fun i H' _ hp => SqL.of (hp.1 _ _ hr4')) (fun i x H5 H6 hi hp hy => ?_) (fun H5 hp => ?_)
    · obtain ⟨x5, us, e1, e2⟩ := hp
      obtain ⟨rfl, hx⟩ := hy
      unfold refsL at hi hx
      rw [List.length_map] at hi
      obtain ⟨t, ht⟩ := getD_of hi
      rw [List.getElem?_map, ht] at hx
      cases hx
      have tm := List.mem_of_getElem? ht
      obtain ⟨T9, a9⟩ := t
      have pe9 : ps[i]? = some a9 := by rw [← hze, List.getElem?_map, ht]; rfl
      have hT := x5 _ _ (hz4 _ tm)
      have ul : us.length = i := by
        have := Paired.length e2
        rw [this, tabP_length, List.length_take]
        omega
      have tk : ps.take (i + 1) = ps.take i ++ [a9] := by rw [List.take_add_one, pe9]; rfl
      have x35 := x4.trans x5
      refine ⟨rfl, _, rfl, _, rfl, .inl ⟨rfl, _, SqL.of (x35 _ _ hp3)⟩, _, rfl, p, T9, ts, _, a9, rfl, rfl, SqL.of (x35 _ _ hp3), Paired.mapP two (fun t q z => x35 _ _ z), hT, by show 2 ≤ sizeLine; decide, fun u hu => ?_⟩
      have hDu : D ≠ u := ne_of_none e1 hu
      refine ⟨_, by rw [upd_ne hDu]; exact e1, ?_, ex_upd (x5.trans (Evl.Ex.new hu)) hD, us ++ [u], by rw [upd_same, List.map_append]; rfl, ?_⟩
      · rw [List.length_map, ul]
        exact Nat.lt_of_le_of_lt (show i ≤ 30 by omega) (by decide)
      · rw [tk]
        unfold tabP
        rw [List.map_append]
        have keep : ∀ {b : Addr} {vs : List V}, H6 b = some (.tup vs) → upd (upd H6 u (.tup [.ref T9, ledV (stp (walkL way (r0 :: rt))) a9])) D (.lst (us.map V.ref ++ [.ref u])) b = some (.tup vs) := fun {b vs} z => by
          rw [upd_ne (fun q9 => by rw [q9, e1] at z; cases z), upd_ne (ne_of_none z hu)]
          exact z
        refine paired_app (Paired.mapP e2 fun t kv z => ?_) (.cons ⟨T9, ?_, keep hT⟩ .nil)
        · obtain ⟨b, z1, z2⟩ := z
          exact ⟨b, keep z1, keep z2⟩
        · rw [upd_ne hDu.symm]
          exact upd_same
    · obtain ⟨x5, us, e1, e2⟩ := hp
      rw [rl, zl, List.take_length] at e2
      refine ⟨D, us, _, rfl, SqL.of e1, e2, fun d hd => ?_⟩
      have em := mergeT_tab (g := ledV (stp (walkL way (r0 :: rt)))) ps [] (by rw [List.nil_append]; exact hpn)
      rw [List.nil_append] at em
      rw [show mergeT [] (tabP ps (ledV (stp (walkL way (r0 :: rt))))) = _ from em]
      have x6 := (x13.trans x4).trans x5
      exact k d _ (x6.trans (Evl.Ex.new hd)) (none_of (fun o z => x6 _ _ z) hd) upd_same
end
end K11

namespace K11
open PySem PySem.Spec PyProof.Rows L2 Tr Sq Dk Dt Exs
/-! ### _law_fault -/
abbrev sFault : Stmt := top 73
theorem shaped_strs' (l : List Str) (h : ∀ z ∈ l, PyData.strOk z = true) : SeqAt.shaped (pdRow l) = true := by
  unfold SeqAt.shaped pdRow
  simp only [PyData.canLay0, PyData.depth, lay_strs l h, depth_strs l, Bool.true_and]
  exact decide_eq_true (by omega)
theorem eqv_row_nil (l : List Str) : PyData.eqv (pdRow l) (.list []) = l.isEmpty := by
  cases l <;> simp [pdRow, PyData.eqv, PyData.eqvAll]
theorem house_perm {hs hs0 : List Str} (h : hs.Perm hs0) (x : V) : isHouse hs x = isHouse hs0 x := by
  cases x with
  | str z =>
    show decide (z ∈ hs) = decide (z ∈ hs0)
    exact Bool.eq_iff_iff.mpr (by simp only [decide_eq_true_eq]; exact h.mem_iff)
  | _ => rfl
theorem dp_refs {K : PySem.W.Frag} {H : Hp} : ∀ {Z : PrL}, (∀ t ∈ Z, H t.1 = some (.tup [.str t.2.1, .str t.2.2])) → DpAll K H (refsL Z) ((Z.map (·.2)).map pdPair)
  | [], _ => .nil
  | t :: r, h => .cons (.tup (SqT.of (h t List.mem_cons_self)) (.cons (.str _) (.cons (.str _) .nil))) (dp_refs fun y hy => h y (List.mem_cons_of_mem _ hy))
def spFault : Sp := fun vs H Q _ => ∃ (l q la ga : Addr) (z : V) (o : Option (List V)) (hs0 hs : List Str) (qs : PrL) (ps : Prs) (kl : List (Key × V)) (kg : List (List Key × V)) (fr : Str → Str → Option Str) (way : Str → Str → List Str), vs = [.ref l, .ref q, .ref la, .ref ga, z] ∧ H l = some (.lst (hs0.map V.str)) ∧ hs.Perm hs0 ∧ sortedS hs = true ∧ H q = some (.lst (refsL qs)) ∧ PrsAt H qs ∧ Tree hs (qs.map (·.2)) ∧ Ways hs (qs.map (·.2)) fr way ∧ hs.length ≤ 30 ∧ qs.length ≤ 30 ∧ (∀ h ∈ hs, h ∈ names12) ∧
  ps.Perm ((qs.map (·.2)).map ordP) ∧ ps.Pairwise (fun x y => Srs.lexT y x = false) ∧ ps.Nodup ∧ (∀ q ∈ ps, q.1 ∈ names12 ∧ q.2 ∈ names12) ∧ H la = some (.dK kl) ∧ isLet hs (some kl) = true ∧ H ga = some (.dT kg) ∧ isTabT ps (some kg) = true ∧ RX H z o ∧ (∀ xs, o = some xs → xs.length ≤ 100) ∧ Gives (faultO way hs ps (lcnt kl) (gcnt kg) o) H Q
abbrev nmFa : List Str := ["houses", "paths", "letters", "ledger", "thing", "index", "one", "given", "gone", "unlike", "other", "house", "path"]
section
variable {P : Program} {w : World} {K : PySem.W.Frag} {mg : Str → Option Value} {base : Heap}
theorem scFa : FnScope nmFa ["houses", "paths", "letters", "ledger", "thing"] (defScope sFault) := ⟨rfl, rfl, rfl, by decide +kernel, rfl, by decide +kernel, by decide +kernel⟩
theorem ok_fault {f fL fG fK : Addr} {fd fdL fdG fdK : FuncData} (F : FnP K "_law_fault" sFault f fd) (GL : FnOk P w K mg base CX0 1 fL fdL ["houses", "row"] spVLet) (bL : L2.Binds K fdL ["houses", "row"] []) (kL : PySem.W.keepIn K (.ref fL) = true) (gL : mg "_law_v_letters" = some (.ref fL))
    (GG : FnOk P w K mg base CX0 4 fG fdG ["paths", "row"] spVLed) (bG : L2.Binds K fdG ["paths", "row"] []) (kG : PySem.W.keepIn K (.ref fG) = true) (gG : mg "_law_v_ledger" = some (.ref fG))
    (GK : FnOk P w K mg base CX0 1 fK fdK ["paths"] spKeys) (bK : L2.Binds K fdK ["paths"] []) (kK : PySem.W.keepIn K (.ref fK) = true) (gK : mg "_law_v_keys" = some (.ref fK)) (gI : mg "isinstance" = none) (gLi : mg "list" = none) (gTu : mg "tuple" = none) (gSt : mg "str" = none) (gLn : mg "len" = none) (gE : mg "enumerate" = none) (gS : mg "sorted" = none) :
    FnOk P w K mg base CX0 5 f fd ["houses", "paths", "letters", "ledger", "thing"] spFault := by
  refine F.ok scFa (fun vs H Q E h => ?_) (fun cdv A outer s H vs Q E hr h => ?_)
  · obtain ⟨l, q, la, ga, z, o, hs0, hs, qs, ps, kl, kg, fr, way, rfl, _⟩ := h
    rfl
  · obtain ⟨l, q, la, ga, z, o, hs0, hs, qs, ps, kl, kg, fr, way, rfl, hl, hperm, hsort, hq, hP, T, W, h30, q30, hgood, hpp, hpw, hpn, hpg, hla, hi, hga, hj, hz, h100, k⟩ := h
    refine' ⟨_, PSs.nox (pss_cons (ps_if (PW.pt (pw_or (pt_not (pt_val (pe_callB call_isiT (by rfl) gI (by decide +kernel) (pa_cons (pv 4) (pa_cons (pe_tup (pa_cons (pe_bltn (v := .ty "list") rfl gLi (by decide +kernel) rfl) (pa_cons (pe_bltn (v := .ty "tuple") rfl gTu (by decide +kernel) rfl) pa_nil))) pa_nil))))) (pw_or1 (pt_cmpR op_eq (pe_callB call_len_seq (by rfl) gLn PySem.boot_len (pa_cons (pv 4) pa_nil)) pe_int (nomark _))))) (pss_one (ps_ret (pe_tup (pa_cons pe_str (pa_cons pe_int pa_nil))))) pss_nil)
      (pss_cons (ps_for PassesOwn.never rfl (pi_enumA rfl gE (pa_cons (pv 4) pa_nil)) (pg_tup rfl (pgs_cons (pg_name (i := 5) scFa.nd rfl (.inl rfl)) (pgs_cons (pg_name (i := 6) scFa.nd rfl (.inl rfl)) pgs_nil)))
        (pss_one (ps_if (PW.pt (pw_or (pt_not (pt_val (pe_callB call_isi (by rfl) gI (by decide +kernel) (pa_cons (pv 6) (pa_cons (pe_bltn (v := .ty "str") rfl gSt (by decide +kernel) rfl) pa_nil))))) (pw_or1 (pt_cmpR op_notIn_seq (pv 6) (pv 0) rfl)))) (pss_one (ps_ret (pe_tup (pa_cons pe_str (pa_cons (pv 5) pa_nil))))) pss_nil)))
      (pss_cons (ps_asg (pe_tup (pa_cons (pe_call GL (hr.mono (by decide)) (by rfl) gL kL bL .nil pass0 (pa_cons (pv 0) (pa_cons (pe_callTy call_list_of (by rfl) gLi (by decide +kernel) (pa_cons (pv 4) pa_nil)) pa_nil))) (pa_cons (pe_call GG hr (by rfl) gG kG bG .nil pass0 (pa_cons (pv 1) (pa_cons (pe_callTy call_list_of (by rfl) gLi (by decide +kernel) (pa_cons (pv 4) pa_nil)) pa_nil))) pa_nil))) (pg_tup (by rfl) (pgs_cons (pg_name (i := 7) scFa.nd rfl (.inr rfl)) (pgs_cons (pg_name (i := 8) scFa.nd rfl (.inr rfl)) pgs_nil))))
      (pss_cons ?l1
      (pss_cons ?l2
      (pss_cons (ps_if (pt_cmpR (op_neD hr.units) (pv 9) (pe_lst pa_nil) (nomark _)) (pss_one (ps_ret (pe_tup (pa_cons pe_str (pa_cons (pe_ix ix_list (pv 9) pe_int (fun _ _ => rfl)) pa_nil))))) pss_nil)
      (pss_one (ps_ret (pe_ifExp (pt_cmpR (op_neD hr.units) (pv 10) (pe_lst pa_nil) (nomark _)) (pe_tup (pa_cons pe_str (pa_cons (pe_ix ix_tup (pe_ix ix_list (pv 10) pe_int (fun _ _ => rfl)) pe_int (fun _ _ => rfl)) (pa_cons (pe_ix ix_tup (pe_ix ix_list (pv 10) pe_int (fun _ _ => rfl)) pe_int (fun _ _ => rfl)) pa_nil)))) pe_non))))))))), ?rd⟩
    case l1 =>
      refine ps_setLc (i := 9) (own := [("house", 11)]) (g := gName 11) (tt := tTest (tOp rNe (tDGet (tVar 7) (tVar 11)) (tDGet (tVar 2) (tVar 11)))) (te := tVar 11) (by rfl) scFa.nd rfl rfl (sw_true rfl rfl rfl (by decide +kernel)) (pi_list (pe_callB cr_sortedS (by rfl) gS (by decide +kernel) (pa_cons (pv 0) pa_nil)))
        (blkOk_by (own := [("house", 11)]) (N := nmFa) (sc := defScope sFault) (by decide +kernel)) (fun _ _ _ _ _ => pg_name (i := 11) scFa.nd rfl (.inl rfl)) (fun _ _ _ _ _ => pts_one (pt_cmpR op_ne (pe_dget (hu_of hr) (pv 7) (pv 11) (fun _ _ => rfl)) (pe_dget (hu_of hr) (pv 2) (pv 11) (fun _ _ => rfl)) (nomark _))) ?_
      intro _ _ _ _ _
      exact pv 11
    case l2 =>
      refine ps_setLc (i := 10) (own := [("path", 12)]) (g := gName 12) (tt := tTest (tOp rNe (tDGet (tVar 8) (tVar 12)) (tDGet (tVar 3) (tVar 12)))) (te := tVar 12) (by rfl) scFa.nd rfl rfl (sw_true rfl rfl rfl (by decide +kernel)) (pi_list (pe_call GK (hr.mono (by decide)) (by rfl) gK kK bK .nil pass0 (pa_cons (pv 1) pa_nil)))
        (blkOk_by (own := [("path", 12)]) (N := nmFa) (sc := defScope sFault) (by decide +kernel)) (fun _ _ _ _ _ => pg_name (i := 12) scFa.nd rfl (.inl rfl)) (fun _ _ _ _ _ => pts_one (pt_cmpR op_ne (pe_dget (hu_of hr) (pv 8) (pv 12) (fun _ _ => rfl)) (pe_dget (hu_of hr) (pv 3) (pv 12) (fun _ _ => rfl)) (nomark _))) ?_
      intro _ _ _ _ _
      exact pv 12
    case rd =>
      obtain ⟨nmz, hpz, hlb⟩ := hz.pl
      refine ⟨_, rfl, by show 2 ≤ sizeLine; decide, fun tt ht => ?_⟩
      have x0 := Evl.Ex.new (o := .tup [V.ty "list", V.ty "tuple"]) ht
      refine ⟨_, _, _, _, _, _, rfl, upd_same, cls_tys ["list", "tuple"], (hpz.ext x0).ty, (hpz.ext x0).any ["list", "tuple"] (by decide), _, rfl, ?_⟩
      rw [show isBs nmz ["list", "tuple"] = o.isSome from hlb]
      cases o with
      | none =>
        refine iteT ⟨by show 2 ≤ sizeLine; decide, fun t ht => ?_⟩
        have k : Gives (some [.str "round", .int 0]) H Q := k
        exact k _ x0 t ht
      | some xs =>
      refine iteF ?_
      obtain ⟨t, a, rfl, hsq, hpl, hl1⟩ := hz.sq (K := K)
      generalize upd H tt (.tup [V.ty "list", V.ty "tuple"]) = H1 at x0 ⊢
      refine ⟨_, rfl, a, xs, rfl, sqk_or (hsq _ x0), rfl, _, rfl, ?_⟩
      by_cases hx0 : xs.length = 0
      · refine ite2 (fun _ => ⟨by show 2 ≤ sizeLine; decide, fun t ht => ?_⟩) (fun w => absurd (by rw [hx0]; rfl) w)
        have e : faultO way hs ps (lcnt kl) (gcnt kg) (some xs) = some [.str "round", .int 0] := by
          have e1 : flawV hs (some xs) = .int 0 := by
            show (if xs.length = 0 then V.int 0 else fnh hs xs) = _
            rw [if_pos hx0]
          unfold faultO
          rw [e1, if_neg (by simp)]
        rw [e] at k
        exact k _ x0 t ht
      refine ite2 (fun w => absurd (of_decide_eq_true w) (fun w => hx0 (by injection w with w; omega))) (fun _ => ?_)
      have e1 : flawV hs (some xs) = fnh hs xs := by
        show (if xs.length = 0 then V.int 0 else fnh hs xs) = _
        rw [if_neg hx0]
      refine ⟨_, rfl, t, a, xs, rfl, hsq _ x0, ?_⟩
      refine for_it (walk_enumA (xs := xs)) (fun i σ H' => ∃ v5 v6, σ = [some (.ref l), some (.ref q), some (.ref la), some (.ref ga), some (.ref a), v5, v6, none, none, none, none, none, none] ∧ Evl.Ex H H' ∧ ∀ j z, j < i → xs[j]? = some z → isHouse hs z = true) ⟨none, none, rfl, x0, fun j z hj => absurd hj (Nat.not_lt_zero j)⟩ (fun i σ H' _ hp => ?_) (fun i y σ H' H'' hi2 hp hy => ?_) (fun σ H' hp => ?_)
      · obtain ⟨_, _, _, e2, _⟩ := hp
        exact hsq _ e2
      · obtain ⟨v1, v2, rfl, e2, hn⟩ := hp
        obtain ⟨TT, u, z, rfl, hT, rfl, hu, hz2⟩ := hy
        injection hu with hu
        subst hu
        have hz2 : xs[i]? = some z := hz2
        have e3 : Evl.Ex H (upd H' TT (.tup [.int (i : Nat), z])) := e2.trans (Evl.Ex.new hT)
        obtain ⟨mm, hm⟩ := hpl z (List.mem_of_getElem? hz2)
        refine ⟨TT, _, rfl, SqT.of upd_same, rfl, _, _, rfl, _, _, rfl, rfl, ?_⟩
        generalize upd H' TT (.tup [.int (i : Nat), z]) = H3 at e3 ⊢
        have hm3 := hm.ext e3
        refine ⟨_, rfl, _, _, _, _, _, rfl, .ty _, hm3.ty, hm3.one "str", _, rfl, ?_⟩
        have bad : isHouse hs z = false → ∀ t, H3 t = none → Q (.ref t) (upd H3 t (.tup [.str "round", .int (i : Nat)])) := fun hnz t ht => by
          have e : faultO way hs ps (lcnt kl) (gcnt kg) (some xs) = some [.str "round", .int (i : Nat)] := by
            unfold faultO
            rw [e1, fnh_some hn hz2 hnz, if_neg (by simp)]
          rw [e] at k
          exact k _ e3 t ht
        have nxt : isHouse hs z = true → ∀ j y, j < i + 1 → xs[j]? = some y → isHouse hs y = true := fun hnz j y hj hy => by
          by_cases hji : j < i
          · exact hn j y hji hy
          · have : j = i := by omega
            subst this
            have : y = z := Option.some.inj (hy.symm.trans hz2)
            rw [this, hnz]
        cases hm with
        | str w =>
          refine iteF ⟨_, rfl, _, rfl, l, _, rfl, .inl (SqL.of (e3 _ _ hl)), rfl, flat_strs _, _, rfl, ?_⟩
          rw [in_strs]
          by_cases hw : w ∈ hs0
          · refine ite2 (fun z9 => absurd z9 (by simp [hw])) (fun _ => ⟨_, _, rfl, e3, nxt ?_⟩)
            rw [house_perm hperm]
            exact decide_eq_true hw
          · refine ite2 (fun _ => ⟨_, rfl, by show 2 ≤ sizeLine; decide, fun t ht => bad ?_ t ht⟩) (fun z9 => absurd (by simp [hw]) z9)
            rw [house_perm hperm]
            exact decide_eq_false hw
        | _ => exact iteT ⟨_, rfl, by show 2 ≤ sizeLine; decide, fun t ht => bad rfl t ht⟩
      · obtain ⟨v5, v6, rfl, x2, hn⟩ := hp
        have hf : flawV hs (some xs) = .non := by rw [e1]; exact fnh_none hn
        obtain ⟨rs, exs, hne, hin⟩ := flaw_none hf
        injection exs with exs
        subst exs
        obtain ⟨r0, rt, rfl⟩ : ∃ r0 rt, rs = r0 :: rt := by
          cases rs with
          | nil => exact absurd rfl hne
          | cons r0 rt => exact ⟨r0, rt, rfl⟩
        have hlen : (r0 :: rt).length ≤ 100 := by
          have := h100 _ rfl
          rw [List.length_map] at this
          exact this
        have hl0 : hs0.length = hs.length := hperm.length_eq.symm
        have hnd := T.nd
        have hin0 : ∀ r ∈ r0 :: rt, r ∈ hs0 := fun r hr => hperm.mem_iff.mp (hin r hr)
        refine ⟨_, rfl, _, rfl, a, _, rfl, sqk_or (hsq _ x2), fun l1 hl1 => ?_⟩
        have y1 := Evl.Ex.new (o := .lst ((r0 :: rt).map V.str)) hl1
        have x3 := x2.trans y1
        refine ⟨l, l1, hs0, r0 :: rt, rfl, x3 _ _ hl, upd_same, hperm.nodup_iff.mp hnd, by omega, fun d ys H4 x4 hd hd4 hys hsr => ?_⟩
        obtain rfl : ys = hs := sortedS_one hsr hsort (hys.trans hperm.symm)
        have x34 := x3.trans x4
        refine ⟨_, rfl, _, rfl, a, _, rfl, sqk_or (hsq _ x34), fun l2 hl2 => ?_⟩
        have y2 := Evl.Ex.new (o := .lst ((r0 :: rt).map V.str)) hl2
        have x5 := x34.trans y2
        refine ⟨q, l2, qs, ys, ps, r0, rt, fr, way, rfl, x5 _ _ hq, hP.ex x5, T, W, h30, q30, hgood, upd_same, hin, by rw [List.length_cons] at hlen; omega, hpp, hpw, hpn, fun dg H6 x6 hdg hdg6 => ?_⟩
        refine ⟨by show 2 ≤ sizeLine; decide, fun tp htp => ⟨tp, _, rfl, SqT.of upd_same, rfl, _, _, rfl, _, _, rfl, rfl, ?_⟩⟩
        have y3 := Evl.Ex.new (o := .tup [V.ref d, .ref dg]) htp
        have d7 := (y2.trans (x6.trans y3)) _ _ hd4
        have dg7 := y3 _ _ hdg6
        have x7 := (x5.trans x6).trans y3
        generalize upd H6 tp (.tup [V.ref d, .ref dg]) = H7 at d7 dg7 x7 ⊢
        clear y1 y2 y3 x2 x3 x4 x34 x5 x6 hl1 hl2 hd hd4 hdg hdg6 htp
        -- the houses that are unlike
        refine ⟨_, rfl, l, hs0, rfl, SqL.of (x7 _ _ hl), by omega, fun ys2 pl hys2 hsr2 hpl => ?_⟩
        obtain rfl : ys2 = ys := sortedS_one hsr2 hsort (hys2.trans hperm.symm)
        have y1 := Evl.Ex.new (o := .lst (ys2.map V.str)) hpl
        refine ⟨pl, rfl, ⟨_, SqL.of upd_same⟩, fun D hD => ?_⟩
        have pl8 : upd H7 pl (.lst (ys2.map V.str)) pl = some (.lst (ys2.map V.str)) := upd_same
        have d8 := y1 _ _ d7
        have dg8 := y1 _ _ dg7
        have x8 := x7.trans y1
        generalize upd H7 pl (.lst (ys2.map V.str)) = H8 at hD pl8 d8 dg8 x8 ⊢
        clear y1 hpl d7 dg7 x7
        refine lc_it (walk_list (xs := ys2.map V.str)) (fun i H' => Evl.Ex H8 H' ∧ H' D = some (.lst (((ys2.take i).filter fun h => decide ((((r0 :: rt).count h : Nat) : Int) ≠ lcnt kl h)).map V.str))) ⟨Evl.Ex.new hD, upd_same⟩ (fun i H' _ hp => SqL.of (hp.1 _ _ pl8)) (fun i y H5 H6 hi2 hp hy => ?_) (fun H9 hp => ?_)
        · obtain ⟨x5, d1⟩ := hp
          obtain ⟨rfl, hy⟩ := hy
          rw [List.length_map] at hi2
          obtain ⟨h, hh⟩ := getD_of hi2
          rw [List.getElem?_map, hh] at hy
          cases hy
          have hm := List.mem_of_getElem? hh
          have g1 : DGet H6 d (kV (Sum.inr h)) (some (.int ((r0 :: rt).count h : Nat))) := by have := DGet.k (k := Sum.inr h) (x5 _ _ d8); rw [val_in hm] at this; exact this
          have g2 : DGet H6 la (kV (Sum.inr h)) (some (.int (lcnt kl h))) := by have := DGet.k (k := Sum.inr h) ((x8.trans x5) _ _ hla); rw [let_at hi hm] at this; exact this
          have tk : ys2.take (i + 1) = ys2.take i ++ [h] := by rw [List.take_add_one, hh]; rfl
          refine ⟨rfl, _, rfl, _, rfl, d, _, rfl, g1, _, rfl, _, rfl, la, _, rfl, g2, rfl, _, rfl, ?_⟩
          by_cases hq : (((r0 :: rt).count h : Nat) : Int) = lcnt kl h
          · refine ite2 (fun w => ?_) (fun _ => ⟨x5, ?_⟩)
            · rw [hq] at w
              simp at w
            · rw [d1, tk, List.filter_append]
              have fz : [h].filter (fun h => decide ((((r0 :: rt).count h : Nat) : Int) ≠ lcnt kl h)) = [] := by
                rw [List.filter_cons_of_neg (by simpa using hq)]
                rfl
              rw [fz, List.append_nil]
          · refine ite2 (fun _ => ⟨_, rfl, _, d1, ?_, ex_upd x5 hD, ?_⟩) (fun w => absurd ?_ w)
            · rw [List.length_map]
              exact Nat.lt_of_le_of_lt (Nat.le_trans (List.length_filter_le _ _) (show _ ≤ 60 by rw [List.length_take]; omega)) (by decide)
            · rw [upd_same, tk, List.filter_append, List.map_append]
              have fz : [h].filter (fun h => decide ((((r0 :: rt).count h : Nat) : Int) ≠ lcnt kl h)) = [h] := by
                rw [List.filter_cons_of_pos (by simpa using hq)]
                rfl
              rw [fz]
              rfl
            · simpa using hq
        obtain ⟨x9, u9⟩ := hp
        rw [List.length_map, List.take_length] at u9
        have x89 := x8.trans x9
        have dg9 := x9 _ _ dg8
        clear hD pl8 d8 dg8 x8 x9
        -- the paths
        have qirr : ∀ t ∈ qs, t.2.1 ≠ t.2.2 := fun t ht z => by
          have hm : (t.2.1, t.2.2) ∈ qs.map (·.2) := List.mem_map.mpr ⟨t, ht, rfl⟩
          rw [z] at hm
          exact T.irr (.inl hm)
        refine ⟨_, rfl, q, qs, ps, rfl, x89 _ _ hq, hP.ex x89, qirr, by omega, hpp, hpw, fun r zs H10 hr10 x10 hr10' hz10 hze => ?_⟩
        have pl30 : ps.length ≤ 30 := by
          have := hpp.length_eq
          rw [List.length_map, List.length_map] at this
          omega
        have zl : zs.length = ps.length := by rw [← hze, List.length_map]
        have x810 := x89.trans x10
        have u10 := x10 _ _ u9
        have dg10 := x10 _ _ dg9
        refine ⟨r, rfl, ⟨_, SqL.of hr10'⟩, fun D2 hD2 => ?_⟩
        refine lc_it (walk_list (xs := refsL zs)) (fun i H' => Evl.Ex H10 H' ∧ H' D2 = some (.lst (refsL ((zs.take i).filter fun t => decide ((((stp (walkL way (r0 :: rt))).count t.2 : Nat) : Int) ≠ gcnt kg t.2))))) ⟨Evl.Ex.new hD2, upd_same⟩ (fun i H' _ hp => SqL.of (hp.1 _ _ hr10')) (fun i y H5 H6 hi2 hp hy => ?_) (fun H11 hp => ?_)
        · obtain ⟨x5, d1⟩ := hp
          obtain ⟨rfl, hy⟩ := hy
          unfold refsL at hi2 hy
          rw [List.length_map] at hi2
          obtain ⟨t0, ht0⟩ := getD_of hi2
          rw [List.getElem?_map, ht0] at hy
          cases hy
          have tm := List.mem_of_getElem? ht0
          have hm : t0.2 ∈ ps := by rw [← hze]; exact List.mem_map.mpr ⟨t0, tm, rfl⟩
          have tq : H6 t0.1 = some (.tup [.str t0.2.1, .str t0.2.2]) := x5 _ _ (hz10 _ tm)
          have g1 : DGet H6 dg (.ref t0.1) (some (.int ((stp (walkL way (r0 :: rt))).count t0.2 : Nat))) := by
            have e4 : DGet H6 dg (.ref t0.1) (valV (tabP ps (ledV (stp (walkL way (r0 :: rt))))) (kp t0.2)) := .inr ⟨_, kp t0.2, t0.1, .inl (x5 _ _ dg10), rfl, tq, rfl⟩
            rw [valP_in hm] at e4
            exact e4
          have g2 : DGet H6 ga (.ref t0.1) (some (.int (gcnt kg t0.2))) := by
            have e4 : DGet H6 ga (.ref t0.1) (valV kg (kp t0.2)) := .inr ⟨_, kp t0.2, t0.1, .inl ((x810.trans x5) _ _ hga), rfl, tq, rfl⟩
            rw [led_at hj hm] at e4
            exact e4
          have tk : zs.take (i + 1) = zs.take i ++ [t0] := by rw [List.take_add_one, ht0]; rfl
          refine ⟨rfl, _, rfl, _, rfl, dg, _, rfl, g1, _, rfl, _, rfl, ga, _, rfl, g2, rfl, _, rfl, ?_⟩
          by_cases hq : (((stp (walkL way (r0 :: rt))).count t0.2 : Nat) : Int) = gcnt kg t0.2
          · refine ite2 (fun w => ?_) (fun _ => ⟨x5, ?_⟩)
            · rw [hq] at w
              simp at w
            · rw [d1, tk, List.filter_append]
              have fz : [t0].filter (fun t => decide ((((stp (walkL way (r0 :: rt))).count t.2 : Nat) : Int) ≠ gcnt kg t.2)) = [] := by
                rw [List.filter_cons_of_neg (by simpa using hq)]
                rfl
              rw [fz, List.append_nil]
          · refine ite2 (fun _ => ⟨_, rfl, _, d1, ?_, ex_upd x5 hD2, ?_⟩) (fun w => absurd ?_ w)
            · unfold refsL
              rw [List.length_map]
              exact Nat.lt_of_le_of_lt (Nat.le_trans (List.length_filter_le _ _) (show _ ≤ 60 by rw [List.length_take]; omega)) (by decide)
            · rw [upd_same, tk, List.filter_append]
              have fz : [t0].filter (fun t => decide ((((stp (walkL way (r0 :: rt))).count t.2 : Nat) : Int) ≠ gcnt kg t.2)) = [t0] := by
                rw [List.filter_cons_of_pos (by simpa using hq)]
                rfl
              rw [fz]
              unfold refsL
              rw [List.map_append]
              rfl
            · simpa using hq
        obtain ⟨x11, v11⟩ := hp
        rw [show (refsL zs).length = zs.length by unfold refsL; rw [List.length_map], List.take_length] at v11
        have x811 := x810.trans x11
        have u11 := x11 _ _ u10
        have z11 : PrsAt H11 zs := hz10.ex x11
        clear x10 hr10 hr10' hz10 x89 u9 dg9 x810 u10 dg10 hD2 x11
        -- what is told
        obtain ⟨U, hU⟩ : ∃ U, U = ys2.filter fun h => decide ((((r0 :: rt).count h : Nat) : Int) ≠ lcnt kl h) := ⟨_, rfl⟩
        rw [← hU] at u11
        have fU : ys2.find? (fun h => decide ((((r0 :: rt).count h : Nat) : Int) ≠ lcnt kl h)) = U.head? := by rw [hU, List.head?_filter]
        have Uin : ∀ h ∈ U, h ∈ ys2 := fun h hh => by rw [hU] at hh; exact (List.mem_filter.mp hh).1
        refine ⟨_, rfl, Nat.zero_le _, fun e1 he1 => ?_⟩
        have y1 := Evl.Ex.new (o := .lst []) he1
        refine ⟨_, _, .lst (SqL.of (y1 _ _ u11)) (dpa_strs U), .lst (SqL.of upd_same) .nil, shaped_strs' U (fun z hz => good_ok z (hgood z (Uin z hz))), shaped_rows [] (fun t ht => by simp at ht), _, rfl, ?_⟩
        rw [show PyData.eqv (.list (U.map PyData.str)) (.list []) = U.isEmpty from eqv_row_nil U]
        have u12 := y1 _ _ u11
        have v12 := y1 _ _ v11
        have z12 : PrsAt (upd H11 e1 (.lst [])) zs := z11.ex y1
        have x12 := x811.trans y1
        generalize upd H11 e1 (.lst []) = H12 at u12 v12 z12 x12 ⊢
        clear y1 he1 u11 v11 z11 x811
        cases U with
        | cons h0 ur =>
          refine iteT ⟨_, rfl, D, _, _, _, rfl, rfl, SqL.of u12, atI_nat (j := 0) rfl, by show 2 ≤ sizeLine; decide, fun t ht => ?_⟩
          have e : faultO way ys2 ps (lcnt kl) (gcnt kg) (some ((r0 :: rt).map V.str)) = some [.str "letters", .str h0] := by
            unfold faultO
            rw [if_pos hf]
            simp only [strV_map]
            rw [fU]
            rfl
          rw [e] at k
          exact k _ x12 t ht
        | nil =>
          refine iteF ?_
          obtain ⟨Z, hZ⟩ : ∃ Z : PrL, Z = zs.filter fun t => decide ((((stp (walkL way (r0 :: rt))).count t.2 : Nat) : Int) ≠ gcnt kg t.2) := ⟨_, rfl⟩
          rw [← hZ] at v12
          have fZ : ps.find? (fun q => decide ((((stp (walkL way (r0 :: rt))).count q : Nat) : Int) ≠ gcnt kg q)) = (Z.map (·.2)).head? := by
            rw [hZ, ← hze, ← List.head?_filter, List.filter_map]
            rfl
          have Zin : ∀ t ∈ Z, t ∈ zs := fun h hh => by rw [hZ] at hh; exact (List.mem_filter.mp hh).1
          have fe : faultO way ys2 ps (lcnt kl) (gcnt kg) (some ((r0 :: rt).map V.str)) = (match (Z.map (·.2)).head? with
            | some q => some [.str "path", .str q.1, .str q.2]
            | none => none) := by
            unfold faultO
            rw [if_pos hf]
            simp only [strV_map]
            rw [fU]
            simp only [List.head?_nil]
            rw [fZ] <;> rfl
          rw [fe] at k
          refine ⟨_, rfl, Nat.zero_le _, fun e1 he1 => ?_⟩
          have y1 := Evl.Ex.new (o := .lst []) he1
          refine ⟨.list ((Z.map (·.2)).map pdPair), .list [], .lst (SqL.of (y1 _ _ v12)) (dp_refs fun t ht => y1 _ _ (z12 t (Zin t ht))), .lst (SqL.of upd_same) .nil, shaped_pairs _ (fun t ht => ?_), shaped_pairs [] (fun t ht => by cases ht), _, rfl, ?_⟩
          · obtain ⟨t1, ht1, rfl⟩ := List.mem_map.mp ht
            have := hpg t1.2 (by rw [← hze]; exact List.mem_map.mpr ⟨t1, Zin _ ht1, rfl⟩)
            exact ⟨good_ok _ this.1, good_ok _ this.2⟩
          rw [eqv_pairs_nil]
          have v13 := y1 _ _ v12
          have z13 : PrsAt (upd H12 e1 (.lst [])) zs := z12.ex y1
          have x13 := x12.trans y1
          generalize upd H12 e1 (.lst []) = H13 at v13 z13 x13 ⊢
          cases Z with
          | nil => exact iteF (k _ x13)
          | cons t1 zr =>
            have t13 := z13 t1 (Zin t1 List.mem_cons_self)
            refine iteT ⟨_, rfl, D2, _, _, _, rfl, rfl, SqL.of v13, atI_nat (j := 0) rfl, t1.1, _, _, _, rfl, rfl, SqT.of t13, atI_nat (j := 0) rfl, _, rfl, D2, _, _, _, rfl, rfl, SqL.of v13, atI_nat (j := 0) rfl, t1.1, _, _, _, rfl, rfl, SqT.of t13, atI_nat (j := 1) rfl, by show 3 ≤ sizeLine; decide, fun t ht => ?_⟩
            exact k _ x13 t ht
end
end K11

namespace K11
open PySem PySem.Spec PyProof.Rows L2 Tr Sq Dk Dt Exs
/-! ### _law_things -/
abbrev sThings : Stmt := top 74
/-- a row of things, or no row -/
def ThR (H : Hp) (x : V) : Prop := ∃ o, RX H x o ∧ ∀ xs, o = some xs → xs.length ≤ 100
theorem ThR.ex {H H' : Hp} {x : V} (h : ThR H x) (e : Evl.Ex H H') : ThR H' x := by
  obtain ⟨o, h1, h2⟩ := h
  exact ⟨o, h1.ex e, h2⟩
theorem thR_lst {H : Hp} {a : Addr} {xs : List V} (h : H a = some (.lst xs)) (hp : ∀ y ∈ xs, ∃ n, Pl H y n) (hl : xs.length ≤ 100) : ThR H (.ref a) := ⟨_, .lst h hp (by omega), fun ys e => by cases e; exact hl⟩
theorem thR_tup {H : Hp} {a : Addr} {xs : List V} (h : H a = some (.tup xs)) (hp : ∀ y ∈ xs, ∃ n, Pl H y n) (hl : xs.length ≤ 100) : ThR H (.ref a) := ⟨_, .tup h hp (by omega), fun ys e => by cases e; exact hl⟩
theorem thR_not {H : Hp} {x : V} {n : String} (h : Pl H x n) (hn : lstB n = false) : ThR H x := ⟨none, .not h hn, fun ys e => by cases e⟩
def FacR (l rw_ : Addr) (hs0 rs : List Str) (odd : V) (H : Hp) : Prop := H l = some (.lst (hs0.map V.str)) ∧ H rw_ = some (.lst (rs.map V.str)) ∧ ∃ nm, Pl H odd nm
theorem FacR.ex {l rw_ : Addr} {hs0 rs : List Str} {odd : V} {H H' : Hp} (h : FacR l rw_ hs0 rs odd H) (e : Evl.Ex H H') : FacR l rw_ hs0 rs odd H' := ⟨e _ _ h.1, e _ _ h.2.1, h.2.2.imp fun _ z => z.ext e⟩
theorem GB.k {B : Hp → V → Prop} {F : Hp → Prop} {H Hc Hd : Hp} {p c so : Addr} {m m' : Nat} {xs : List V} (hB : ∀ (H H' : Hp) (x : V), B H x → Evl.Ex H H' → B H' x) (hF : ∀ (H H' : Hp), F H → Evl.Ex H H' → F H') (G : GB B F H p c so m xs Hc) (x : Kp p c Hc Hd) (s : StrAt Hd p c m') : GB B F H p c so m' xs Hd :=
  ⟨s, G.kp.trans x, G.new, G.np, G.nc, x _ _ G.at_ G.np G.nc, fun y hy => hB _ _ _ (G.bad y hy) (wo_kp x), hF _ _ G.fac (wo_kp x)⟩
def spThings : Sp := fun vs H Q _ => ∃ (p c l rw_ : Addr) (n : Nat) (h0 : Str) (ht rs : List Str), vs = [.ref p, .ref l, .ref rw_] ∧ StrAt H p c n ∧ n + 100 ≤ 1000000000 ∧ H l = some (.lst ((h0 :: ht).map V.str)) ∧ (h0 :: ht).length ≤ 12 ∧ H rw_ = some (.lst (rs.map V.str)) ∧ rs ≠ [] ∧ rs.length ≤ 20 ∧
  ∀ (q : Addr) (xs : List V) (H' : Hp), H q = none → H' q = some (.lst xs) → xs.length ≤ 30 → (∀ x ∈ xs, ThR (ho p c H') x) → Kp p c H H' → StrAt H' p c (n + 100) → Q (.ref q) H'
abbrev nmTh : List Str := ["stream", "houses", "row", "odd", "at", "found", "k", "house"]
section
variable {P : Program} {w : World} {K : PySem.W.Frag} {mg : Str → Option Value} {base : Heap}
theorem scTh : FnScope nmTh ["stream", "houses", "row"] (defScope sThings) := ⟨rfl, rfl, rfl, by decide +kernel, rfl, by decide +kernel, by decide +kernel⟩
theorem ok_things {f fP fD fX : Addr} {fd fdP fdD fdX : FuncData} (F : FnP K "_law_things" sThings f fd) (GP : FnOk P w K mg base CX0 2 fP fdP ["stream", "some"] (spPick K)) (bP : L2.Binds K fdP ["stream", "some"] []) (kP : PySem.W.keepIn K (.ref fP) = true) (gP : mg "_law_pick" = some (.ref fP))
    (GD : FnOk P w K mg base CX0 1 fD fdD ["stream", "many"] spDraw) (bD : L2.Binds K fdD ["stream", "many"] []) (kD : PySem.W.keepIn K (.ref fD) = true) (gD : mg "_law_draw" = some (.ref fD)) (GX : FnOk P w K mg base CX0 2 fX fdX ["stream", "some"] (spMixed K)) (bX : L2.Binds K fdX ["stream", "some"] []) (kX : PySem.W.keepIn K (.ref fX) = true) (gX : mg "_law_mixed" = some (.ref fX))
    (gLn : mg "len" = none) (gTu : mg "tuple" = none) (gE : mg "enumerate" = none) : FnOk P w K mg base CX0 3 f fd ["stream", "houses", "row"] spThings := by
  refine F.ok scTh (fun vs H Q E h => ?_) (fun cdv A outer s H vs Q E hr h => ?_)
  · obtain ⟨p, c, l, rw_, n, h0, ht, rs, rfl, _⟩ := h
    rfl
  · obtain ⟨p, c, l, rw_, n, h0, ht, rs, rfl, hS, hn, hl, h12, hrw, hrne, h20, k⟩ := h
    refine' ⟨_, PSs.nox (pss_cons (ps_set (i := 3) scTh.nd rfl (.inl rfl) (pe_call GP hr rfl gP kP bP .nil pass0 (pa_cons (pv 0) (pa_cons (pe_lst (pa_cons pe_non (pa_cons pe_int (pa_cons pe_str (pa_cons pe_str (pa_cons (pe_lst (pa_cons (pe_ix ix_list (pv 1) pe_int (fun _ _ => rfl)) pa_nil)) (pa_cons pe_dnewK (pa_cons pe_bl pa_nil)))))))) pa_nil))))
      (pss_cons (ps_set (i := 4) scTh.nd rfl (.inr rfl) (pe_call GD (hr.mono (by decide)) (by rfl) gD kD bD .nil pass0 (pa_cons (pv 0) (pa_cons (pe_op op_add (pe_callB call_len_seq (by rfl) gLn PySem.boot_len (pa_cons (pv 2) pa_nil)) pe_int) pa_nil))))
      (pss_cons (ps_set (i := 5) scTh.nd rfl (.inl rfl) (pe_lst (pa_cons (pv 2) (pa_cons (pe_callTy call_tuple_of (by rfl) gTu (by decide +kernel) (pa_cons (pv 2) pa_nil)) (pa_cons (pe_revL (pv 2)) (pa_cons (pe_call GX hr rfl gX kX bX .nil pass0 (pa_cons (pv 0) (pa_cons (pv 2) pa_nil))) (pa_cons (pe_call GX hr rfl gX kX bX .nil pass0 (pa_cons (pv 0) (pa_cons (pv 2) pa_nil)))
        (pa_cons (pe_slice sl_list (pv 2) (po_some pe_int) po_none) (pa_cons (pe_op op_cat (pv 2) (pe_slice sl_list (pv 1) po_none (po_some pe_int))) pa_nil)))))))))
      (pss_cons (ps_expr (pe_bm PySem.F.plainAttrs_list PySem.F.slot_list_extend PySem.F.type_list_extend mt_extend (pv 5) (pa_cons (pe_lst (pa_cons (pe_op op_cat (pe_op op_cat (pe_slice sl_list (pv 2) po_none (po_some (pv 4))) (pe_lst (pa_cons (pv 3) pa_nil))) (pe_slice sl_list (pv 2) (po_some (pv 4)) po_none))
        (pa_cons (pe_lst (pa_cons pe_non pa_nil)) (pa_cons (pe_lst pa_nil) (pa_cons (pe_tup pa_nil) (pa_cons pe_non (pa_cons pe_int (pa_cons pe_str (pa_cons pe_dnewK (pa_cons pe_bl (pa_cons (pe_op op_cat (pe_slice sl_list (pv 2) (po_some (pv 4)) po_none) (pe_slice sl_list (pv 2) po_none (po_some (pv 4)))) pa_nil))))))))))) pa_nil)))
      (pss_cons (ps_expr (pe_bm PySem.F.plainAttrs_list PySem.F.slot_list_append PySem.F.type_list_append mt_append (pv 5) (pa_cons ?lc pa_nil)))
      (pss_one (ps_ret (pv 5)))))))), ?rd⟩
    case lc =>
      refine pe_lc (own := [("k", 6), ("house", 7)]) (g := gTup K 2 (gCons (gName 6) (gCons (gName 7) gNil))) (tt := tYes) (te := tIf (tTest (tOp rNe (tVar 6) (tVar 4))) (tVar 7) (tCall (spPick K) [] E0 (tCons (tVar 0) (tCons (tVar 1) tNil)))) rfl scTh.nd (pi_enumA rfl gE (pa_cons (pv 2) pa_nil))
        (blkOk_by (own := [("k", 6), ("house", 7)]) (N := nmTh) (sc := defScope sThings) (by decide +kernel)) (fun _ _ _ _ _ => pg_tup rfl (pgs_cons (pg_name (i := 6) scTh.nd rfl (.inl rfl)) (pgs_cons (pg_name (i := 7) scTh.nd rfl (.inl rfl)) pgs_nil))) (fun _ _ _ _ _ => pts_nil) ?_
      intro _ _ _ _ _
      exact pe_ifExp (pt_cmpR op_ne (pv 6) (pv 4) (nomark _)) (pv 7) (pe_call GP hr rfl gP kP bP .nil pass0 (pa_cons (pv 0) (pa_cons (pv 1) pa_nil)))
    case rd =>
      obtain ⟨lp, lc⟩ := strs_nep hl (by simp) hS
      obtain ⟨rp, rc⟩ := strs_nep hrw hrne hS
      have hlen : (rs.map V.str).length = rs.length := List.length_map _
      have M0 : W0 p c H n H := ⟨hS, Kp.refl H⟩
      have sP : ∀ {Hx : Hp} (zs : List Str), ∀ y ∈ zs.map V.str, ∃ nm, Pl Hx y nm := fun {Hx} zs y hy => by
        obtain ⟨z, _, rfl⟩ := List.mem_map.mp hy
        exact ⟨_, .str z⟩
      refine ⟨_, rfl, _, rfl, l, _, _, _, rfl, rfl, SqL.of hl, atI_nat (j := 0) rfl, by show 1 ≤ sizeLine; decide, fun a1 ha1 => fun d1 hd1 => ⟨by show 7 ≤ sizeLine; decide, fun l0 hl0 => ?_⟩⟩
      have z1 := Evl.Ex.new (o := .lst [V.str h0]) ha1
      have z2 := Evl.Ex.new (o := .dK []) hd1
      have z3 := Evl.Ex.new (o := .lst [V.non, .int 5, .str "nowhere", .str "", .ref a1, .ref d1, .bl true]) hl0
      have a1' := (ho_ex (p := p) (c := c) (z2.trans z3)) _ _ (M0.at_ (o := .lst [V.str h0]) ha1)
      have d1' := (ho_ex (p := p) (c := c) z3) _ _ ((M0.ex z1).at_ (o := .dK []) hd1)
      have l0n := ((M0.ex z1).ex z2).str.ne hl0
      have zz := (z1.trans z2).trans z3
      have M1 := M0.ex zz
      have l1' := (ho_ex (p := p) (c := c) zz) _ _ (ho_at hl lp lc)
      have r1' := (ho_ex (p := p) (c := c) zz) _ _ (ho_at hrw rp rc)
      have l0' := upd_same (H := upd (upd H a1 (.lst [V.str h0])) d1 (.dK [])) (a := l0) (o := .lst [V.non, .int 5, .str "nowhere", .str "", .ref a1, .ref d1, .bl true])
      clear z1 z2 z3 zz ha1 hd1 hl0
      generalize upd (upd (upd H a1 (.lst [V.str h0])) d1 (.dK [])) l0 (.lst [V.non, .int 5, .str "nowhere", .str "", .ref a1, .ref d1, .bl true]) = H1 at M1 a1' d1' l0' l1' r1' ⊢
      refine ⟨p, c, l0, n, _, rfl, M1.str, by omega, l0n.1, l0n.2, .inl l0', by show 1 ≤ 7; omega, by show 7 < 1000000; omega, fun odd j H3 hj kp3 s3 => ?_⟩
      have x3 := ho_kp kp3
      have F3 : FacR l rw_ (h0 :: ht) rs odd (ho p c H3) := by
        refine ⟨x3 _ _ l1', x3 _ _ r1', ?_⟩
        have hm := List.mem_of_getElem? hj
        simp only [List.mem_cons, List.not_mem_nil, or_false] at hm
        rcases hm with rfl | rfl | rfl | rfl | rfl | rfl | rfl
        · exact ⟨_, .non⟩
        · exact ⟨_, .int _⟩
        · exact ⟨_, .str _⟩
        · exact ⟨_, .str _⟩
        · exact ⟨_, .lst (x3 _ _ a1')⟩
        · exact ⟨_, .dic (x3 _ _ d1')⟩
        · exact ⟨_, .bl _⟩
      have M3 := M1.kp kp3 s3
      clear a1' d1' l0' l1' r1' M1 l0n hj x3 kp3 s3
      refine ⟨_, rfl, _, rfl, rw_, _, rfl, .inl (SqL.of (ho_to _ _ F3.2.1)), _, _, rfl, rfl, p, c, _, _, rfl, M3.str, by omega, by rw [hlen]; omega, by rw [hlen]; omega, fun d H4 dd0 dd1 kp4 s4 => ?_⟩
      rw [hlen] at dd1
      obtain ⟨at_, rfl⟩ : ∃ at_ : Nat, d = (at_ : Int) := ⟨d.toNat, by omega⟩
      have atl : at_ ≤ rs.length := by omega
      have M4 := M3.kp kp4 s4
      have F4 := F3.ex (ho_kp kp4)
      clear M3 F3 kp4 s4 dd0 dd1
      -- the first things
      refine ⟨_, rfl, _, rfl, rw_, _, rfl, .inl ⟨SqL.of (ho_to _ _ F4.2.1), fun b1 hb1 => ?_⟩⟩
      have z1 := Evl.Ex.new (o := .tup (rs.map V.str)) hb1
      have b1' := M4.at_ (o := .tup (rs.map V.str)) hb1
      have M5 := M4.ex z1
      have F5 := F4.ex (ho_ex (p := p) (c := c) z1)
      clear z1 hb1 M4 F4
      generalize upd H4 b1 (.tup (rs.map V.str)) = H5 at b1' M5 F5 ⊢
      refine ⟨_, rfl, rw_, _, rfl, SqL.of (ho_to _ _ F5.2.1), fun b2 hb2 => ?_⟩
      have z1 := Evl.Ex.new (o := .lst (rs.map V.str).reverse) hb2
      have b2' := M5.at_ (o := .lst (rs.map V.str).reverse) hb2
      have M6 := M5.ex z1
      have F6 := F5.ex (ho_ex (p := p) (c := c) z1)
      have b1' := ho_ex (p := p) (c := c) z1 _ _ b1'
      clear z1 hb2 M5 F5
      generalize upd H5 b2 (.lst (rs.map V.str).reverse) = H6 at b1' b2' M6 F6 ⊢
      refine ⟨_, rfl, _, rfl, p, c, rw_, _, _, rfl, M6.str, by rw [hlen]; omega, .inl (SqL.of (ho_to _ _ F6.2.1)), by rw [hlen]; omega, fun b3 ys3 H7 hb3 hb3' hp3 kp7 s7 => ?_⟩
      rw [hlen] at s7
      obtain ⟨zs3, hz3, rfl⟩ := perm_strs hp3
      have M7 := M6.kp kp7 s7
      have w7 := ho_kp kp7
      have F7 := F6.ex w7
      have b1' := w7 _ _ b1'
      have b2' := w7 _ _ b2'
      have b3' := ho_at hb3' (M6.str.ne hb3).1 (M6.str.ne hb3).2
      clear M6 F6 w7 kp7 s7 hb3 hb3' hp3
      refine ⟨_, rfl, _, rfl, p, c, rw_, _, _, rfl, M7.str, by rw [hlen]; omega, .inl (SqL.of (ho_to _ _ F7.2.1)), by rw [hlen]; omega, fun b4 ys4 H8 hb4 hb4' hp4 kp8 s8 => ?_⟩
      rw [hlen] at s8
      obtain ⟨zs4, hz4, rfl⟩ := perm_strs hp4
      have M8 := M7.kp kp8 s8
      have w8 := ho_kp kp8
      have F8 := F7.ex w8
      have b1' := w8 _ _ b1'
      have b2' := w8 _ _ b2'
      have b3' := w8 _ _ b3'
      have b4' := ho_at hb4' (M7.str.ne hb4).1 (M7.str.ne hb4).2
      clear M7 F7 w8 kp8 s8 hb4 hb4' hp4
      refine ⟨_, rfl, _, rfl, rw_, _, rfl, SqL.of (ho_to _ _ F8.2.1), fun b5 hb5 => ?_⟩
      rw [show cutV (rs.map V.str) (some 1) none = (rs.drop 1).map V.str by
        rw [List.map_drop]
        exact cutV_drop 1 (by rw [hlen]; exact List.length_pos_iff.mpr hrne)]
      have z1 := Evl.Ex.new (o := .lst ((rs.drop 1).map V.str)) hb5
      have b5' := M8.at_ (o := .lst ((rs.drop 1).map V.str)) hb5
      have M9 := M8.ex z1
      have F9 := F8.ex (ho_ex (p := p) (c := c) z1)
      refine ⟨_, rfl, _, rfl, _, rfl, l, _, rfl, SqL.of (ho_to _ _ F9.1), fun b6 hb6 => ?_⟩
      rw [show cutV ((h0 :: ht).map V.str) none (some 1) = [V.str h0] from cutV_take 1]
      have z2 := Evl.Ex.new (o := .lst [V.str h0]) hb6
      refine ⟨rw_, b6, _, _, rfl, rfl, z2 _ _ (ho_to _ _ F9.2.1), upd_same, by show (rs.map V.str).length + 1 ≤ sizeLine; rw [hlen, sizeLine_eq]; omega, fun b7 hb7 => ?_⟩
      have z3 := Evl.Ex.new (o := .lst (rs.map V.str ++ [V.str h0])) hb7
      have b7' := (M9.ex z2).at_ (o := .lst (rs.map V.str ++ [V.str h0])) hb7
      have w9 := ho_ex (p := p) (c := c) ((z1.trans z2).trans z3)
      have b1' := w9 _ _ b1'
      have b2' := w9 _ _ b2'
      have b3' := w9 _ _ b3'
      have b4' := w9 _ _ b4'
      have b5' := ho_ex (p := p) (c := c) (z2.trans z3) _ _ b5'
      have M10 := (M9.ex z2).ex z3
      have F10 := F8.ex w9
      clear z1 z2 z3 w9 M8 M9 F8 F9 hb5 hb6 hb7
      generalize upd (upd (upd H8 b5 (.lst ((rs.drop 1).map V.str))) b6 (.lst [V.str h0])) b7 (.lst (rs.map V.str ++ [V.str h0])) = H10 at b1' b2' b3' b4' b5' b7' M10 F10 ⊢
      refine ⟨by show 7 ≤ sizeLine; decide, fun so hso => ?_⟩
      have son := M10.str.ne hso
      have sonH : H so = none := M10.k.fresh M10.str hso
      have wso := ho_wo (p := p) (c := c) (o := .lst [V.ref rw_, .ref b1, .ref b2, .ref b3, .ref b4, .ref b5, .ref b7]) hso
      have G0 : GB ThR (FacR l rw_ (h0 :: ht) rs odd) H p c so (n + 1 + 1 + rs.length + rs.length) [V.ref rw_, .ref b1, .ref b2, .ref b3, .ref b4, .ref b5, .ref b7] (upd H10 so (.lst [V.ref rw_, .ref b1, .ref b2, .ref b3, .ref b4, .ref b5, .ref b7])) := by
        refine ⟨M10.str.new hso, M10.k.new hso, sonH, son.1, son.2, upd_same, fun x hx => ?_, F10.ex wso⟩
        refine ThR.ex ?_ wso
        simp only [List.mem_cons, List.not_mem_nil, or_false] at hx
        rcases hx with rfl | rfl | rfl | rfl | rfl | rfl | rfl
        · exact thR_lst F10.2.1 (sP rs) (by rw [hlen]; omega)
        · exact thR_tup b1' (sP rs) (by rw [hlen]; omega)
        · exact thR_lst b2' (fun y hy => sP rs y (List.mem_reverse.mp hy)) (by rw [List.length_reverse, hlen]; omega)
        · exact thR_lst b3' (sP zs3) (by rw [List.length_map, hz3.length_eq]; omega)
        · exact thR_lst b4' (sP zs4) (by rw [List.length_map, hz4.length_eq]; omega)
        · exact thR_lst b5' (sP _) (by rw [List.length_map, List.length_drop]; omega)
        · exact thR_lst b7' (fun y hy => by
            rcases List.mem_append.mp hy with hy | hy
            · exact sP rs y hy
            · rw [List.mem_singleton.mp hy]
              exact ⟨_, .str _⟩) (by rw [List.length_append, hlen]; show rs.length + 1 ≤ 100; omega)
      clear wso b1' b2' b3' b4' b5' b7' M10 F10 hso
      generalize upd H10 so (.lst [V.ref rw_, .ref b1, .ref b2, .ref b3, .ref b4, .ref b5, .ref b7]) = H11 at G0 ⊢
      generalize hxs : [V.ref rw_, .ref b1, .ref b2, .ref b3, .ref b4, .ref b5, .ref b7] = xs0 at G0
      have hxl : xs0.length = 7 := by rw [← hxs]; rfl
      clear hxs
      have hB : ∀ (H H' : Hp) (x : V), ThR H x → Evl.Ex H H' → ThR H' x := fun _ _ _ h e => h.ex e
      have hF : ∀ (H H' : Hp), FacR l rw_ (h0 :: ht) rs odd H → Evl.Ex H H' → FacR l rw_ (h0 :: ht) rs odd H' := fun _ _ h e => h.ex e
      have cT : cutV (rs.map V.str) none (some (at_ : Int)) = (rs.take at_).map V.str := by rw [cutV_take, List.map_take]
      have cD : cutV (rs.map V.str) (some (at_ : Int)) none = (rs.drop at_).map V.str := by
        rw [List.map_drop]
        exact cutV_drop at_ (by rw [hlen]; exact atl)
      have lT : ((rs.take at_).map V.str).length ≤ 20 := by rw [List.length_map, List.length_take]; omega
      have lD : ((rs.drop at_).map V.str).length ≤ 20 := by rw [List.length_map, List.length_drop]; omega
      -- ten more
      refine ⟨_, rfl, .inl ⟨rfl, _, SqL.of G0.at_⟩, ?_⟩
      refine ⟨_, rfl, _, rfl, _, rfl, rw_, _, rfl, SqL.of (wo_to _ _ G0.fac.2.1), fun c1 hc1 => ?_⟩
      rw [cT]
      have z1 := Evl.Ex.new (o := .lst ((rs.take at_).map V.str)) hc1
      refine ⟨_, rfl, by show 1 ≤ sizeLine; decide, fun c2 hc2 => ?_⟩
      have z2 := Evl.Ex.new (o := .lst [odd]) hc2
      refine ⟨c1, c2, _, _, rfl, rfl, z2 _ _ upd_same, upd_same, by show ((rs.take at_).map V.str).length + 1 ≤ sizeLine; rw [sizeLine_eq]; omega, fun c3 hc3 => ?_⟩
      have z3 := Evl.Ex.new (o := .lst ((rs.take at_).map V.str ++ [odd])) hc3
      have G1 := GB.ex hB hF G0 ((z1.trans z2).trans z3)
      have c3' := upd_same (H := upd (upd H11 c1 (.lst ((rs.take at_).map V.str))) c2 (.lst [odd])) (a := c3) (o := .lst ((rs.take at_).map V.str ++ [odd]))
      clear z1 z2 z3 hc1 hc2 hc3 G0
      generalize upd (upd (upd H11 c1 (.lst ((rs.take at_).map V.str))) c2 (.lst [odd])) c3 (.lst ((rs.take at_).map V.str ++ [odd])) = H12 at G1 c3' ⊢
      refine ⟨_, rfl, _, rfl, _, rfl, rw_, _, rfl, SqL.of (wo_to _ _ G1.fac.2.1), fun c4 hc4 => ?_⟩
      rw [cD]
      have z1 := Evl.Ex.new (o := .lst ((rs.drop at_).map V.str)) hc4
      refine ⟨c3, c4, _, _, rfl, rfl, z1 _ _ c3', upd_same, by rw [List.length_append, sizeLine_eq]; show ((rs.take at_).map V.str).length + 1 + ((rs.drop at_).map V.str).length ≤ _; omega, fun c5 hc5 => ?_⟩
      have G2 := GB.ex hB hF G1 z1
      have z2 := Evl.Ex.new (o := .lst ((rs.take at_).map V.str ++ [odd] ++ (rs.drop at_).map V.str)) hc5
      have c5' := G2.wnew (o := .lst ((rs.take at_).map V.str ++ [odd] ++ (rs.drop at_).map V.str)) hc5
      have G3 := GB.ex hB hF G2 z2
      clear z1 z2 hc4 hc5 G1 G2 c3'
      generalize upd (upd H12 c4 (.lst ((rs.drop at_).map V.str))) c5 (.lst ((rs.take at_).map V.str ++ [odd] ++ (rs.drop at_).map V.str)) = H13 at G3 c5' ⊢
      refine ⟨by show 1 ≤ sizeLine; decide, fun c6 hc6 => ⟨Nat.zero_le _, fun c7 hc7 => ⟨Nat.zero_le _, fun c8 hc8 => fun c9 hc9 => ?_⟩⟩⟩
      have z1 := Evl.Ex.new (o := .lst [V.non]) hc6
      have z2 := Evl.Ex.new (o := .lst []) hc7
      have z3 := Evl.Ex.new (o := .tup []) hc8
      have z4 := Evl.Ex.new (o := .dK []) hc9
      have G4 := GB.ex hB hF G3 z1
      have G5 := GB.ex hB hF G4 z2
      have G6 := GB.ex hB hF G5 z3
      have G7 := GB.ex hB hF G6 z4
      have w : ∀ {Ha Hb : Hp}, Evl.Ex Ha Hb → Evl.Ex (wo p c so Ha) (wo p c so Hb) := fun e => wo_ex e
      have c5' := w (((z1.trans z2).trans z3).trans z4) _ _ c5'
      have c6' := w ((z2.trans z3).trans z4) _ _ (G3.wnew (o := .lst [V.non]) hc6)
      have c7' := w (z3.trans z4) _ _ (G4.wnew (o := .lst []) hc7)
      have c8' := w z4 _ _ (G5.wnew (o := .tup []) hc8)
      have c9' := G6.wnew (o := .dK []) hc9
      clear z1 z2 z3 z4 hc6 hc7 hc8 hc9 G3 G4 G5 G6 w
      generalize upd (upd (upd (upd H13 c6 (.lst [V.non])) c7 (.lst [])) c8 (.tup [])) c9 (.dK []) = H14 at G7 c5' c6' c7' c8' c9' ⊢
      refine ⟨_, rfl, _, rfl, _, rfl, rw_, _, rfl, SqL.of (wo_to _ _ G7.fac.2.1), fun e1 he1 => ?_⟩
      rw [cD]
      have z1 := Evl.Ex.new (o := .lst ((rs.drop at_).map V.str)) he1
      refine ⟨_, rfl, _, rfl, _, rfl, rw_, _, rfl, SqL.of (z1 _ _ (wo_to _ _ G7.fac.2.1)), fun e2 he2 => ?_⟩
      rw [cT]
      have z2 := Evl.Ex.new (o := .lst ((rs.take at_).map V.str)) he2
      refine ⟨e1, e2, _, _, rfl, rfl, z2 _ _ upd_same, upd_same, by rw [sizeLine_eq]; omega, fun e3 he3 => ?_⟩
      have G8 := GB.ex hB hF G7 (z1.trans z2)
      have z3 := Evl.Ex.new (o := .lst ((rs.drop at_).map V.str ++ (rs.take at_).map V.str)) he3
      have e3' := G8.wnew (o := .lst ((rs.drop at_).map V.str ++ (rs.take at_).map V.str)) he3
      have G9 := GB.ex hB hF G8 z3
      have w := wo_ex (p := p) (c := c) (T := so) ((z1.trans z2).trans z3)
      have c5' := w _ _ c5'
      have c6' := w _ _ c6'
      have c7' := w _ _ c7'
      have c8' := w _ _ c8'
      have c9' := w _ _ c9'
      clear z1 z2 z3 he1 he2 he3 G7 G8 w
      generalize upd (upd (upd H14 e1 (.lst ((rs.drop at_).map V.str))) e2 (.lst ((rs.take at_).map V.str))) e3 (.lst ((rs.drop at_).map V.str ++ (rs.take at_).map V.str)) = H15 at G9 c5' c6' c7' c8' c9' e3' ⊢
      refine ⟨by show 10 ≤ sizeLine; decide, fun lx hlx => ?_⟩
      have z1 := Evl.Ex.new (o := .lst [V.ref c5, .ref c6, .ref c7, .ref c8, .non, .int 5, .str "ab", .ref c9, .bl true, .ref e3]) hlx
      have G10 := GB.ex hB hF G9 z1
      refine ⟨so, lx, _, _, rfl, rfl, G10.at_, upd_same, by rw [hxl]; show 7 + 10 ≤ sizeLine; decide, ?_⟩
      have bb : ∀ v ∈ [V.ref c5, .ref c6, .ref c7, .ref c8, .non, .int 5, .str "ab", .ref c9, .bl true, .ref e3], ThR (wo p c so (upd H15 lx (.lst [V.ref c5, .ref c6, .ref c7, .ref c8, .non, .int 5, .str "ab", .ref c9, .bl true, .ref e3]))) v := fun v hv => by
        refine ThR.ex ?_ (wo_ex (p := p) (c := c) (T := so) z1)
        simp only [List.mem_cons, List.not_mem_nil, or_false] at hv
        rcases hv with rfl | rfl | rfl | rfl | rfl | rfl | rfl | rfl | rfl | rfl
        · refine thR_lst c5' (fun y hy => ?_) (by rw [List.length_append, List.length_append]; show ((rs.take at_).map V.str).length + 1 + _ ≤ 100; omega)
          rcases List.mem_append.mp hy with hy | hy
          · rcases List.mem_append.mp hy with hy | hy
            · exact sP _ y hy
            · rw [List.mem_singleton.mp hy]
              exact G9.fac.2.2
          · exact sP _ y hy
        · exact thR_lst c6' (fun y hy => by rw [List.mem_singleton.mp hy]; exact ⟨_, .non⟩) (by show 1 ≤ 100; decide)
        · exact thR_lst c7' (fun y hy => absurd hy (by simp)) (by show 0 ≤ 100; decide)
        · exact thR_tup c8' (fun y hy => absurd hy (by simp)) (by show 0 ≤ 100; decide)
        · exact thR_not .non rfl
        · exact thR_not (.int _) rfl
        · exact thR_not (.str _) rfl
        · exact thR_not (.dic c9') rfl
        · exact thR_not (.bl _) rfl
        · refine thR_lst e3' (fun y hy => ?_) (by rw [List.length_append]; omega)
          rcases List.mem_append.mp hy with hy | hy
          · exact sP _ y hy
          · exact sP _ y hy
      have G11 := GB.ext G10 bb
      clear G10 bb z1 hlx G9 c5' c6' c7' c8' c9' e3'
      generalize upd (upd H15 lx (.lst [V.ref c5, .ref c6, .ref c7, .ref c8, .non, .int 5, .str "ab", .ref c9, .bl true, .ref e3])) so (.lst (xs0 ++ [V.ref c5, .ref c6, .ref c7, .ref c8, .non, .int 5, .str "ab", .ref c9, .bl true, .ref e3])) = H16 at G11 ⊢
      generalize hxs : xs0 ++ [V.ref c5, .ref c6, .ref c7, .ref c8, .non, .int 5, .str "ab", .ref c9, .bl true, .ref e3] = xs1 at G11
      have hxl1 : xs1.length = 17 := by rw [← hxs, List.length_append, hxl]; rfl
      clear hxs hxl
      -- one house put in another's place
      refine ⟨_, rfl, .inl ⟨rfl, _, SqL.of G11.at_⟩, ?_⟩
      refine ⟨_, rfl, false, rw_, _, rfl, SqL.of (wo_to _ _ G11.fac.2.1), fun D hD => ?_⟩
      obtain ⟨Dp, Dc⟩ := G11.str.ne hD
      have Dso : so ≠ D := ne_of_none G11.at_ hD
      refine lc_it (walk_enumA (t := false) (xs := rs.map V.str)) (fun i H' => Kp p c H16 H' ∧ StrAt H' p c (n + 1 + 1 + rs.length + rs.length + i) ∧ ∃ zs : List Str, H' D = some (.lst (zs.map V.str)) ∧ zs.length = i) ⟨(Kp.refl H16).new hD, G11.str.new hD, [], upd_same, rfl⟩ (fun i H' _ hp => SqL.of (hp.1 _ _ (wo_to _ _ G11.fac.2.1) rp rc)) (fun i y H5 H6 hi2 hp hy => ?_) (fun H17 hp => ?_)
      · obtain ⟨kp5, s5, zs, d5, zl⟩ := hp
        obtain ⟨TT, u, z, rfl, hTT, rfl, hu, hz⟩ := hy
        injection hu with hu
        subst hu
        have hz : (rs.map V.str)[i]? = some z := hz
        rw [List.length_map] at hi2
        obtain ⟨r, hr1⟩ := getD_of hi2
        rw [List.getElem?_map, hr1] at hz
        cases hz
        have xt := Evl.Ex.new (o := .tup [.int (i : Nat), .str r]) hTT
        refine ⟨TT, _, rfl, SqT.of upd_same, rfl, _, _, rfl, _, _, rfl, rfl, rfl, ?_⟩
        have kp6 := kp5.new (o := .tup [.int (i : Nat), .str r]) hTT
        have s6 := s5.new (o := .tup [.int (i : Nat), .str r]) hTT
        have d6 := xt _ _ d5
        generalize upd H5 TT (.tup [.int (i : Nat), .str r]) = H7 at kp6 s6 d6 ⊢
        have put : ∀ (w : Str) (H8 : Hp), Kp p c H16 H8 → StrAt H8 p c (n + 1 + 1 + rs.length + rs.length + (i + 1)) → H8 D = some (.lst (zs.map V.str)) → ∃ acc, H8 D = some (.lst acc) ∧ acc.length < sizeLine ∧ (Kp p c H16 (upd H8 D (.lst (acc ++ [V.str w]))) ∧ StrAt (upd H8 D (.lst (acc ++ [V.str w]))) p c (n + 1 + 1 + rs.length + rs.length + (i + 1)) ∧ ∃ zs : List Str, upd H8 D (.lst (acc ++ [V.str w])) D = some (.lst (zs.map V.str)) ∧ zs.length = i + 1) := fun w H8 k8 s8 d8 =>
          ⟨_, d8, by rw [List.length_map, zl]; exact Nat.lt_of_le_of_lt (show i ≤ 20 by omega) (by decide), k8.mut hD, s8.upd Dp Dc, zs ++ [w], by rw [upd_same, List.map_append]; rfl, by rw [List.length_append, zl]; rfl⟩
        refine ⟨_, rfl, _, rfl, rfl, _, rfl, ?_⟩
        by_cases hq : (i : Int) = (at_ : Int)
        · refine ite2 (fun w => ?_) (fun _ => ?_)
          · rw [hq] at w
            simp at w
          · refine ⟨_, rfl, _, rfl, p, c, l, _, _, rfl, s6, by omega, lp, lc, .inl (kp6 _ _ (wo_to _ _ G11.fac.1) lp lc), by show 1 ≤ ((h0 :: ht).map V.str).length; rw [List.length_map, List.length_cons]; omega, by rw [List.length_map]; omega, fun x j H8 hx kp8 s8 => ?_⟩
            have hm := List.mem_of_getElem? hx
            obtain ⟨w, _, rfl⟩ := List.mem_map.mp hm
            exact put w H8 (kp6.trans kp8) s8 (kp8 _ _ d6 Dp Dc)
        · refine ite2 (fun _ => ⟨_, rfl, put r H7 kp6 (s6.mono (by omega)) d6⟩) (fun w => absurd ?_ w)
          simpa using hq
      · obtain ⟨kp5, s5, zs, d5, zl⟩ := hp
        rw [hlen] at s5 zl
        have G12 := GB.k hB hF G11 kp5 s5
        refine ⟨so, _, .ref D, rfl, rfl, G12.at_, by rw [hxl1]; show 17 < sizeLine; decide, ?_⟩
        have bD2 : ∀ v ∈ [V.ref D], ThR (wo p c so H17) v := fun v hv => by
          rw [List.mem_singleton.mp hv]
          exact thR_lst (wo_at d5 Dp Dc Dso.symm) (sP zs) (by rw [List.length_map]; omega)
        have G13 := GB.ext G12 bD2
        exact ⟨_, rfl, k so _ _ G13.new G13.at_ (by rw [List.length_append, hxl1]; show 17 + 1 ≤ 30; decide) (fun x hx => (G13.bad x hx).ex wo_ho) G13.kp (G13.str.mono (by omega))⟩
end
end K11

namespace Lm
open PySem PySem.W PySem.Spec PySem.Calls PyProof.Rows L2
/-! ### a lambda with one parameter, which it captures itself (a lambda within it), and captured names of the def around it. Law-independent -/
section
variable {M : Model} {A : Around} {E : Value → Shared → Prop} {s : Shared}
theorem newEnv_one {scope : Scope} {globals : Addr} {clo : List (Str × Addr)} {qual : Str} {func : Option Addr} {code : Value} {builtins : Addr} {b : Str} {u : Value} {Q : Env → Shared → Prop} (hk : scope.kind = .function) (hb : scope.names.lookup b = some .cell)
    (hcs : ∀ n acc, cellsFrom n scope.names acc = (b, n) :: acc) (hpc : ∀ h : Heap, pushCells h scope.names = h.push { cls := .type "cell", data := .cell none })
    (hQ : ∀ h', h'.Ns s.heap.objs.size (fun _ => none) → (∀ z o, s.heap.get? z = some o → h'.get? z = some o) → h'.IsCell (s.heap.objs.size + 1) (some u) →
      Q (newEnv scope s.heap.objs.size globals ((b, s.heap.objs.size + 1) :: clo) qual func code none builtins) { s with heap := h' }) :
    wpAny M A (newFunctionEnv scope globals clo [(b, u)] qual func code none builtins) Q E s := by
  simp only [newFunctionEnv, Option.isSome_none, Bool.false_eq_true, if_false]
  refine wpAny_bind (wpAny_alloc ?_)
  refine wpAny_bind (wpAny_layCells _ (fun name kind cells => by cases hkc : kind == NameKind.cell <;> simp [hkc]) _ _ _ _ ?_)
  rw [hcs, hpc]
  rw [show ({ s with heap := s.heap.push { cls := .type "frame", data := .dict #[] } } : Shared).heap.objs.size = s.heap.objs.size + 1 from Heap.size_push ..]
  have hns := Heap.Ns.new s.heap (.type "frame")
  have hsz : (s.heap.push { cls := .type "frame", data := .dict #[] }).objs.size = s.heap.objs.size + 1 := Heap.size_push ..
  have kp1 : ∀ z o, s.heap.get? z = some o → (s.heap.push { cls := .type "frame", data := .dict #[] }).get? z = some o := fun z o e => Heap.get?_push_of_some _ e
  generalize s.heap.push { cls := .type "frame", data := .dict #[] } = h1 at hns hsz kp1 ⊢
  have hc0 : (h1.push { cls := .type "cell", data := .cell none }).IsCell (s.heap.objs.size + 1) none := ⟨_, hsz ▸ Heap.get?_push_size _ rfl, rfl⟩
  rw [List.forIn_cons]
  refine wpAny_bind (wpAny_bind (wpAny_bind ?_))
  refine wpAny_storeName_cell (env := newEnv scope s.heap.objs.size globals ((b, s.heap.objs.size + 1) :: clo) qual func code none builtins) hk hb (c := s.heap.objs.size + 1) (by show List.lookup b ((b, s.heap.objs.size + 1) :: clo) = _; simp [List.lookup]) hc0 fun h' hc' hs' => ?_
  refine wpAny_pure ?_
  show wpAny M A (forIn ([] : List (Str × Value)) PUnit.unit _) _ _ _
  rw [List.forIn_nil]
  refine wpAny_pure (wpAny_pure ?_)
  refine hQ h' ((hns.keeps fun z o e => Heap.get?_push_of_some _ e).sameBut hs' (Nat.ne_of_lt (Nat.lt_succ_self _))) (fun z o e => ?_) hc'
  exact hs'.extBut z o (Nat.ne_of_lt (Nat.lt_trans (Heap.lt_size e) (Nat.lt_succ_self _))) (Heap.get?_push_of_some _ (kp1 z o e))
end
/-- one parameter, captured within; else captured names and globals -/
structure LamP (sc scope : Scope) (b : Str) : Prop where
  kind : scope.kind = .function
  co : scope.isCoroutine = false
  gen : scope.isGenerator = false
  own : ∀ y ∈ scope.names, y.2 ≠ .local ∧ (y.2 = .cell → y.1 = b)
  par : scope.names.lookup b = some .cell
  free : ∀ y ∈ scope.names, y.2 = .free → sc.names.lookup y.1 = some .cell ∨ sc.names.lookup y.1 = some .free
  nb : ∀ y ∈ scope.names, y.2 = .free → y.1 ≠ b
def lamPB (sc scope : Scope) (b : Str) : Bool :=
  decide (scope.kind = .function) && !scope.isCoroutine && !scope.isGenerator && decide (scope.names.lookup b = some .cell) && scope.names.all fun y => !decide (y.2 = .local) && (!decide (y.2 = .cell) || decide (y.1 = b)) && (!decide (y.2 = .free) || ((decide (sc.names.lookup y.1 = some .cell) || decide (sc.names.lookup y.1 = some .free)) && !decide (y.1 = b)))
theorem lamP_by {sc scope : Scope} {b : Str} (h : lamPB sc scope b = true) : LamP sc scope b := by
  unfold lamPB at h
  simp only [Bool.and_eq_true, Bool.or_eq_true, Bool.not_eq_true', decide_eq_true_eq, decide_eq_false_iff_not, List.all_eq_true] at h
  obtain ⟨⟨⟨⟨h1, h2⟩, h3⟩, h5⟩, h4⟩ := h
  refine ⟨h1, h2, h3, fun y hy => ⟨(h4 y hy).1.1, fun e => ?_⟩, h5, fun y hy e => ?_, fun y hy e => ?_⟩
  · rcases (h4 y hy).1.2 with z | z
    · exact absurd e z
    · exact z
  · rcases (h4 y hy).2 with z | z
    · exact absurd e z
    · exact z.1
  · rcases (h4 y hy).2 with z | z
    · exact absurd e z
    · exact z.2
section
variable {X : Cx} {pins : List (Addr × Obj)} {σ : L2.St} {H HZ : Hp} {s s1 : Shared}
theorem LamP.has {scope : Scope} {b : Str} (L : LamP X.env.scope scope b) (ok : X.Ok) : ∀ y ∈ scope.names, y.2 = .free → ∃ c, X.env.cells.lookup y.1 = some c := fun y hy e => by
  rcases L.free y hy e with k | k
  · exact ok.has _ (.inl k)
  · exact ok.has _ (.inr k)
end
abbrev lamEnvP (X : Cx) (scope : Scope) (b : Str) (L f c' : Addr) : Env := envX (X.env.qual ++ "<lambda>") scope L f (.ref c') ((b, L + 1) :: cloFrom X.env.cells scope.names [])
def lamCxP (X : Cx) (A : Around) (outer : List Env) (s : Shared) (H : Hp) (E : XK) (scope : Scope) (b : Str) (f c' : Addr) : Cx where
  prog := X.prog
  w := X.w
  K := X.K
  mg := X.mg
  base := X.base
  A := A.deeper (lamEnvP X scope b s.heap.objs.size f c')
  N := X.N
  s_0 := s
  H_0 := H
  env := lamEnvP X scope b s.heap.objs.size f c'
  outer := outer
  stack := lamEnvP X scope b s.heap.objs.size f c' :: outer
  ex := []
  fn := fun _ => false
  calm := true
  pn := []
  xe := fun e s' => wpAny (model X.prog X.w) (A.deeper (lamEnvP X scope b s.heap.objs.size f c')) (leaving (lamEnvP X scope b s.heap.objs.size f c') e) (fun _ s'' => C8.CX0 outer H s E e s'') (fun e' s'' => C8.CX0 outer H s E e' s'') s'
section
variable {X : Cx} {pins : List (Addr × Obj)} {σ : L2.St} {H HZ : Hp} {s s1 : Shared}
theorem lamP_start {A : Around} {outer : List Env} {E : XK} {scope : Scope} {b : Str} {j : Nat} {f c' : Addr} {h₁ : Heap} {tk : Nat} {v : V} {u : Value} (I : Inv X pins σ H s) (L : LamP X.env.scope scope b) (hj : X.N[j]? = some b) (hnd : X.N.Nodup) (e0 : Env0 X.prog X.w X.K X.mg X.base A outer s1 HZ) (hd : A.handled = none)
    (un : Un (frs X.stack) [] H HZ s.heap s1.heap) (rv : RelV v u) (hns : h₁.Ns s1.heap.objs.size fun _ => none) (kp : ∀ b o, s1.heap.get? b = some o → h₁.get? b = some o) (hcell : h₁.IsCell (s1.heap.objs.size + 1) (some u)) :
    Inv (lamCxP X A outer s1 HZ E scope b f c') [] (σ.set j (some v)) HZ { s1 with heap := h₁, toks := tk } := by
  have hfree := L.has I.ok
  have cm : ∀ {y c}, y ≠ b → (lamEnvP X scope b s1.heap.objs.size f c').cells.lookup y = some c → X.env.cells.lookup y = some c := fun {y c} hy e => by
    have e : List.lookup y ((b, s1.heap.objs.size + 1) :: cloFrom X.env.cells scope.names []) = some c := e
    rw [List.lookup_cons, beq_eq_false_iff_ne.mpr hy] at e
    rcases cloFrom_mem (PySem.mem_of_lookup e) with hm | ⟨h1, h2⟩
    · cases hm
    · obtain ⟨c1, hc⟩ := hfree _ h1 rfl
      have hc : X.env.cells.lookup y = some c1 := hc
      have e2 : c = c1 := by
        rw [h2, hc] <;> rfl
      rw [e2]
      exact hc
  have lookb : (lamEnvP X scope b s1.heap.objs.size f c').cells.lookup b = some (s1.heap.objs.size + 1) := by
    show List.lookup b ((b, s1.heap.objs.size + 1) :: _) = _
    simp [List.lookup]
  have look : ∀ {y}, scope.names.lookup y = some .free → ∃ c, (lamEnvP X scope b s1.heap.objs.size f c').cells.lookup y = some c := fun {y} hl => by
    have hy : (y, NameKind.free) ∈ scope.names := PySem.mem_of_lookup hl
    obtain ⟨c, hc⟩ := mem_lookup (cloFrom_has (cells := X.env.cells) (acc := []) hy)
    refine ⟨c, ?_⟩
    show List.lookup y ((b, s1.heap.objs.size + 1) :: cloFrom X.env.cells scope.names []) = some c
    rw [List.lookup_cons, beq_eq_false_iff_ne.mpr (L.nb _ hy rfl)]
    exact hc
  have cellK : ∀ {c : Addr} {v : Option Value}, H c = none → s.heap.IsCell c v → h₁.IsCell c v := fun {c v} n ⟨o, ho, hd⟩ => by
    obtain ⟨sl, q⟩ := un.any ho n (by simp)
    exact ⟨_, kp _ _ q, hd⟩
  have old : ∀ {y c}, X.env.cells.lookup y = some c → c ≠ s1.heap.objs.size + 1 := fun {y c} e z => by
    obtain ⟨w', o, ho, _⟩ := I.cell y c e
    obtain ⟨sl, q⟩ := un.any ho (I.freeC y c e) (by simp)
    exact Nat.lt_irrefl _ (Nat.lt_trans (Nat.lt_succ_self _) (z ▸ Heap.lt_size q))
  have noA : ∀ z : Addr, z ∉ (lamCxP X A outer s1 HZ E scope b f c').ex := fun z w => absurd (show z ∈ ([] : List Addr) from w) (by simp)
  refine ⟨⟨e0.mod, L.kind, rfl, rfl, Nat.le_refl _, fun y z c e1 e2 => ?_, fun y hy => ?_, fun y c z _ => ?_, fun _ => hd, Around.frames_deeper e0.frames, .inr ⟨rfl, rfl⟩, fun b z => absurd z (noA b), e0.bs, e0.bsz, fun b _ _ => noA b,
      fun b z => absurd z (noA b), e0.funs, e0.frf⟩,
    rfl, e0.bare, Un.kept kp, ⟨_, hns, fun i y v' e1 e2 e3 => ?_⟩, fun y c e => ?_, e0.hok.fresh (Nat.le_refl _), fun y c e => ?_, fun q hq => absurd (show q ∈ ([] : List (Addr × Obj)) ++ [] from hq) (by simp), e0.hok.kept kp, by rw [List.length_set]; exact I.len⟩
  · by_cases hy : y = b
    · by_cases hz : z = b
      · rw [hy, hz]
      · subst hy
        have e1 : (lamEnvP X scope y s1.heap.objs.size f c').cells.lookup y = some c := e1
        rw [lookb] at e1
        cases e1
        exact absurd rfl (old (cm hz e2))
    · by_cases hz : z = b
      · subst hz
        have e2 : (lamEnvP X scope z s1.heap.objs.size f c').cells.lookup z = some c := e2
        rw [lookb] at e2
        cases e2
        exact absurd rfl (old (cm hy e1))
      · exact I.ok.inj y z c (cm hy e1) (cm hz e2)
  · have hy : scope.names.lookup y = some .cell ∨ scope.names.lookup y = some .free := hy
    rcases hy with hy | hy
    · rw [show y = b from (L.own _ (PySem.mem_of_lookup hy)).2 rfl]
      exact ⟨_, lookb⟩
    · exact look hy
  · have z : false = true := z
    cases z
  · have e3 : Vis scope y := e3
    have e1 : X.N[i]? = some y := e1
    by_cases hy : y = b
    · subst hy
      have hij : i = j := (List.getElem?_inj (List.getElem?_eq_some_iff.mp e1).1 hnd).mp (e1.trans hj.symm)
      subst hij
      have hlen : i < σ.length := by rw [I.len]; exact (List.getElem?_eq_some_iff.mp e1).1
      rw [List.getElem?_set_self hlen] at e2
      cases e2
      exact ⟨u, rv, .inr ⟨.inl L.par, _, lookb, hcell⟩⟩
    · have hij : j ≠ i := fun z => by
        rw [z, e1] at hj
        exact hy (Option.some.inj hj)
      rw [List.getElem?_set_ne hij] at e2
      rcases e3 with k | k | k
      · exact absurd rfl (L.own _ (PySem.mem_of_lookup k)).1
      · exact absurd ((L.own _ (PySem.mem_of_lookup k)).2 rfl) hy
      · obtain ⟨m, hn, hl⟩ := I.loc
        have hvis : Vis X.env.scope y := (L.free _ (PySem.mem_of_lookup k) rfl).elim (fun k => .inr (.inl k)) (fun k => .inr (.inr k))
        obtain ⟨w', r, q⟩ := hl i y v' e1 e2 hvis
        obtain ⟨c2, h2⟩ := look k
        refine ⟨w', r, .inr ⟨.inr k, c2, h2, ?_⟩⟩
        have c1 := cm hy h2
        rcases q with ⟨k', _⟩ | ⟨_, c3, e', z⟩
        · have k' : X.env.scope.names.lookup y = some .local := k'
          rcases L.free _ (PySem.mem_of_lookup k) rfl with k2 | k2 <;> rw [show X.env.scope.names.lookup y = _ from k2] at k' <;> cases k'
        · rw [c1] at e'
          cases e'
          exact cellK (I.freeC y _ c1) z
  · by_cases hy : y = b
    · subst hy
      have e : (lamEnvP X scope y s1.heap.objs.size f c').cells.lookup y = some c := e
      rw [lookb] at e
      cases e
      exact ⟨_, hcell⟩
    · obtain ⟨w', z⟩ := I.cell y c (cm hy e)
      exact ⟨w', cellK (I.freeC y c (cm hy e)) z⟩
  · by_cases hy : y = b
    · subst hy
      have e : (lamEnvP X scope y s1.heap.objs.size f c').cells.lookup y = some c := e
      rw [lookb] at e
      cases e
      exact e0.hok.fresh (Nat.le_succ _)
    · obtain ⟨v, o, ho, hd⟩ := I.cell y c (cm hy e)
      exact un.free c o ho (I.freeC y c (cm hy e)) (by simp)
/-- a(e), in the def that got such a lambda -/
theorem pe_actP {CXg : CXT} {Eg : XK} {Ng : List Str} {qg : Str} {sg : Scope} {g f c2 P2 : Addr} {cdg pm ctv : Value} {params : Arguments} {body e : Expr} {scope : Scope} {lv i j : Nat} {a b : Str} {te tb : TE} {p1 p2 : Pos}
    (I : Inv X pins σ H s) (L : LamP X.env.scope scope b) (hj : X.N[j]? = some b) (hnd : X.N.Nodup) (hcs : ∀ n acc, cellsFrom n scope.names acc = (b, n) :: acc) (hpc : ∀ h : Heap, pushCells h scope.names = h.push { cls := .type "cell", data := .cell none })
    (hf : s.heap.get? f = some (kla_obj "<lambda>" (X.env.qual ++ "<lambda>") params body scope (cloFrom X.env.cells scope.names []) pm c2 ctv)) (hfn : H f = none) (hfr : f ∉ frs X.stack)
    (hbind : ∀ u : Value, bindArgs (kla_fn "<lambda>" (X.env.qual ++ "<lambda>") params body scope (cloFrom X.env.cells scope.names []) pm (.ref c2) ctv) ⟨[u], []⟩ = pure [(b, u)]) (hr : Room (lv + 1) (X.A.deeper (envOfC qg sg s.heap.objs.size g cdg)))
    (he : PE (cxOf CXg X.prog X.w X.K X.mg X.base Ng qg sg g cdg X.A X.stack s H Eg) e te)
    (hbody : ∀ (A : Around) (outer : List Env) (s : Shared) (H : Hp), Room lv (A.deeper (lamEnvP X scope b s.heap.objs.size f c2)) → PE (lamCxP X A outer s H C8.E0 scope b f c2) body tb)
    (hN : Ng[i]? = some a) (hv : Vis sg a) (hd : (a == ("__debug__" : Str)) = false := by decide) (hcd : (a == ("__classdict__" : Str)) = false := by decide)
    (hs : starEach [e] (cxOf CXg X.prog X.w X.K X.mg X.base Ng qg sg g cdg X.A X.stack s H Eg).env = (false, eval e (cxOf CXg X.prog X.w X.K X.mg X.base Ng qg sg g cdg X.A X.stack s H Eg).env) :: starEach [] (cxOf CXg X.prog X.w X.K X.mg X.base Ng qg sg g cdg X.A X.stack s H Eg).env := by rfl) :
    PE (cxOf CXg X.prog X.w X.K X.mg X.base Ng qg sg g cdg X.A X.stack s H Eg) (.Call (.Name a p1) [e] [] p2)
      (fun σZ HZ Q => σZ[i]? = some (some (.ref f)) ∧ te σZ HZ fun v H1 => H1 c2 = some (CodeT c2 (X.env.qual ++ "<lambda>") P2) ∧ tb (σ.set j (some v)) H1 Q) := by
  refine ⟨fun pz sz σz Hz Q Iz ⟨h1, h2⟩ => ?_⟩
  have hvar := (pe_var (pos := p1) (i := i) hN hv hd hcd).run pz sz σz Hz (fun v H1 => v = .ref f ∧ H1 = Hz) Iz ⟨.ref f, h1, rfl, rfl⟩
  refine wpAny_Call_Name_kw (thn hvar fun u s1 ⟨v, H1, I1, r1, ev, eH⟩ => ?_)
  subst ev eH
  obtain rfl : u = Value.ref f := r1
  have at_ : ∀ {s2 : Shared} {H2 : Hp}, Inv (cxOf CXg X.prog X.w X.K X.mg X.base Ng qg sg g cdg X.A X.stack s H Eg) pz σz H2 s2 → s2.heap.get? f = some (kla_obj "<lambda>" (X.env.qual ++ "<lambda>") params body scope (cloFrom X.env.cells scope.names []) pm c2 ctv) := fun {s2 H2} I2 =>
    I2.base.keep f _ hf hfn hfr (fun z => nomatch (show f ∈ ([] : List Addr) from z))
  have hpa := (pa_cons he pa_nil hs).run p2 pz s1 σz H1 (fun vs H2 => match vs with
    | [v] => H2 c2 = some (CodeT c2 (X.env.qual ++ "<lambda>") P2) ∧ tb (σ.set j (some v)) H2 Q
    | _ => False) I1
  refine callWith_F ⟨_, _, _, _, at_ I1⟩ (thn (hpa h2) fun us s2 ⟨vs, H2, I2, r, hm⟩ => ⟨⟨_, _, _, _, at_ I2⟩, ?_⟩) hs rfl
  match vs, r, hm with
  | [v], r, ⟨hc, hq⟩ =>
    obtain ⟨⟨cr, _⟩, _, _⟩ := I2.hok c2 _ hc
    have hus : ∃ u, us = [u] ∧ RelV v u := by
      cases r with
      | cons r1 rr =>
        cases rr
        exact ⟨_, rfl, r1⟩
    obtain ⟨u, rfl, rvu⟩ := hus
    have un : Un (frs X.stack) [] H H2 s.heap s2.heap := I2.base
    have run : codeAny (model X.prog X.w) (X.A.deeper (envOfC qg sg s.heap.objs.size g cdg)) (.call (.ref f) ⟨[u], []⟩) (CR C8.CX0 (envOfC qg sg s.heap.objs.size g cdg :: X.stack) X.prog X.w H2 s2 Q C8.E0) s2 := by
      refine kla_callFunE hr.depth (at_ I2) rfl L.co L.gen rfl cr ?_
      rw [hbind]
      refine wpAny_pure (newEnv_one L.kind L.par hcs hpc fun h₁ hns kp hcell => ⟨I2.nolimit.keeps kp, ?_⟩)
      show codeAny _ _ (.expr body (lamEnvP X scope b s2.heap.objs.size f c2)) _ _
      have J := lamP_start (E := C8.E0) (f := f) (c' := c2) (tk := s2.toks) (v := v) (u := u) I L hj hnd I2.env0 hr.hd un rvu hns kp hcell
      exact kla_codeExpr (wpAny_mono ((hbody _ _ s2 H2 (hr.deeper _)).run [] _ _ H2 Q J hq) (fun v s' ⟨w', H', J', rv, q⟩ => ⟨w', H', J'.os, J'.bare, J'.base, J'.hok, rv, q⟩) fun e s' hq => hq)
    refine wpAny_call (codeAny_mono run fun r s' hq => ?_)
    match r, hq with
    | .error e, hq => exact (show False from hq).elim
    | .ok (.ret u), hq => exact I2.after hq
    | .ok .next, hq => exact False.elim hq
    | .ok .brk, hq => exact False.elim hq
    | .ok .cont, hq => exact False.elim hq
end
def tLamP (mg : Str → Option Value) (Pre : Hp → Prop) (P : Addr) (q : Str) (qs : List Str) (j : Nat) (TT : Addr → Addr → (V → Hp → VK → Prop) → Hp → VK → Prop) (tb : Addr → Addr → TE) : TE := fun σ H Q => Pre H ∧ TabD mg (q :: qs) H P ∧
  ∀ H1 c2 P2, Grow P H H1 → TabD mg (q :: qs) H1 P → P2 ≠ P → TabD mg qs H1 P2 → Good mg P2 → H1 c2 = some (CodeT c2 q P2) → TT c2 P2 (fun v H' Q' => tb c2 P2 (σ.set j (some v)) H' Q') H1 Q
section
variable {X : Cx}
theorem pe_lamP {Pre : Hp → Prop} {qs : List Str} {TT : Addr → Addr → (V → Hp → VK → Prop) → Hp → VK → Prop} {x a b : Str} {g c P : Addr} {lv j : Nat} {pg : Arguments} {bg : List Stmt} {sg : Scope} {dV kV doc pm cdv ct oc : Value} {an od : Option Addr} {osl : Array (Option Value)} {Ng : List Str}
    {params : Arguments} {body : Expr} {scope : Scope} {tb : Addr → Addr → TE} {p lpos pos : Pos} (hg : Gl X x) (hm : X.mg x = some (.ref g)) (hk : keepIn X.K (.ref g) = true)
    (lk : X.K.lookup g = some ⟨oc, od, .func (fnOf x x pg bg sg dV kV doc pm an cdv ct), osl⟩) (hcg : codeIn X.K cdv x = true) (hb : L2.Binds X.K (fnOf x x pg bg sg dV kV doc pm an cdv ct) [a] []) (Sg : FnScope Ng [a] sg) (hNg : Ng[0]? = some a) (hva : Vis sg a)
    (hG : GivesT1 X Ng x sg g cdv bg a (X.env.qual ++ "<lambda>") TT)
    (src : ∀ pins σ H s, Inv X pins σ H s → Pre H → CodeHd s.heap c P ∧ s.heap.BuiltinsAt X.mg P ∧ mainGlobals ≠ P) (hcode : X.env.code = .ref c) (stab : ∀ H H1 Y, (∃ ps, H P = some (.tbl ps)) → Grow P H H1 → Y ≠ P → TabD X.mg qs H Y → TabD X.mg qs H1 Y) (hr : Room (lv + 2) X.A)
    (L : LamP X.env.scope scope b) (hj : X.N[j]? = some b) (hnd : X.N.Nodup) (hcs : ∀ n acc, cellsFrom n scope.names acc = (b, n) :: acc) (hpc : ∀ h : Heap, pushCells h scope.names = h.push { cls := .type "cell", data := .cell none }) (hdef : defaultsOf params X.env = ([], []))
    (hbind : ∀ (q : Str) (cl : List (Str × Addr)) (pm cv ctv u : Value), bindArgs (kla_fn "<lambda>" q params body scope cl pm cv ctv) ⟨[u], []⟩ = pure [(b, u)])
    (hbody : ∀ (A : Around) (outer : List Env) (s : Shared) (H : Hp) (f c2 P2 : Addr), Room lv (A.deeper (lamEnvP X scope b s.heap.objs.size f c2)) → PE (lamCxP X A outer s H C8.E0 scope b f c2) body (tb c2 P2))
    (hdb : (x == ("__debug__" : Str)) = false := by decide) (hd : (a == ("__debug__" : Str)) = false := by decide) (hcd : (a == ("__classdict__" : Str)) = false := by decide) :
    PE X (.Call (.Name x p) [.Lambda params body scope lpos] [] pos) (tLamP X.mg Pre P (X.env.qual ++ "<lambda>") qs j TT tb) := by
  refine ⟨fun pins s σ H Q I ⟨hpre, hT, h⟩ => ?_⟩
  obtain ⟨sC, sB, sP⟩ := src pins σ H s I hpre
  have htb : ∃ ps, H P = some (.tbl ps) := by
    obtain ⟨ps, h1, _⟩ := hT
    exact ⟨ps, h1⟩
  refine wpAny_Call_Name_kw (ld_glob I hg hm ?_ hdb)
  refine callWith_K (h₀ := X.base) I.ok.mod.kin hk ?_ (by rfl) (by rfl)
  show wpAny _ _ (spliced ((false, eval (.Lambda params body scope lpos) X.env) :: backTo pos (starEach [] X.env))) _ _ s
  refine Calls.spliced_cons (lam_makeT I sC sP sB hcode hT (fun H1 Y => stab H H1 Y htb) hdef (L.has I.ok) fun f c2 P2 pm2 ctv H1 s1 I1 gr T1 hf hfn hfr hco n2 t2 gd => ?_)
  refine Calls.spliced_nil ⟨I1.kIn, ?_⟩
  have run : codeAny (model X.prog X.w) X.A (.call (.ref g) ⟨[.ref f], []⟩) (CR C8.CX0 X.stack X.prog X.w H1 s1 Q C8.E0) s1 := by
    refine LamX.run_ofS (N := Ng) (ps := [a]) (us := [.ref f]) (vs := [.ref f]) lk hcg Sg hr I1.env0 (hb s1 [.ref f] I1.kIn rfl) (.cons rfl .nil) rfl fun hr2 => ?_
    exact hG f c2 P2 s1 H1 Q (fun v H' Q' => tb c2 P2 (σ.set j (some v)) H' Q') (fun e te p1 p2 he hs => pe_actP (i := 0) (P2 := P2) I1 L hj hnd hcs hpc hf hfn hfr (fun u => hbind _ _ _ _ _ u) hr2 he (fun A outer s H hr3 => hbody A outer s H f c2 P2 hr3) hNg hva hd hcd hs) hco (h H1 c2 P2 gr T1 n2 t2 gd hco)
  refine wpAny_call (codeAny_mono run fun r s2 hq => ?_)
  match r, hq with
  | .error e, hq => exact (show False from hq).elim
  | .ok (.ret u), hq => exact I1.after hq
  | .ok .next, hq => exact False.elim hq
  | .ok .brk, hq => exact False.elim hq
  | .ok .cont, hq => exact False.elim hq
end
end Lm

/-! list(d.values()) of a dict whose keys are tuples. Law-independent. -/
namespace L2
open PySem PySem.Spec PyProof.Rows Dt
section
variable {X : Cx}
def tListValsT (te : TE) : TE := fun σ H Q => te σ H fun x H1 => ∃ (d : Addr) (kvs : List (List Key × V)), x = .ref d ∧ H1 d = some (.dT kvs) ∧ ∀ p, H1 p = none → Q (.ref p) (upd H1 p (.lst (kvs.map (·.2))))
theorem vals_at : ∀ {xs : List V} {us : List Value}, us.length = xs.length → (∀ (j : Nat) (x : V) (u : Value), xs[j]? = some x → us[j]? = some u → RelV x u) → Vals xs us
  | [], [], _, _ => .nil
  | [], _ :: _, h, _ => by cases h
  | _ :: _, [], h, _ => by cases h
  | x :: xs, u :: us, h, k => .cons (k 0 x u rfl rfl) (vals_at (by simpa using h) fun j y w e1 e2 => k (j + 1) y w (by simpa using e1) (by simpa using e2))
theorem pe_listValsT {e : Expr} {te : TE} {p apos cpos pos : Pos} (hc : X.calm = true) (he : PE X e te) (hg : Gl X "list") (hm : X.mg "list" = none) (hv : bootBuiltins "list" = some (.type "list")) (hb : attributeBase e "values" X.env (eval e X.env) = eval e X.env := by rfl) (line : (apos.endLine == cpos.line) = true := by rfl)
    (hs : starEach [.Call (.Attribute e "values" apos) [] [] cpos] X.env = (false, eval (.Call (.Attribute e "values" apos) [] [] cpos) X.env) :: starEach [] X.env := by rfl) : PE X (.Call (.Name "list" p) [.Call (.Attribute e "values" apos) [] [] cpos] [] pos) (tListValsT te) := by
  refine ⟨fun pins s σ H Q I hq => wpAny_Call_Name_kw (ld_blt I hg hm hv (PyProof.Rows.callWith_type1 ?_ hs rfl))⟩
  rw [hs]
  show wpAny _ _ (spliced ((false, eval (.Call (.Attribute e "values" apos) [] [] cpos) X.env) :: backTo pos (starEach [] X.env))) _ _ s
  refine Calls.spliced_cons (wpAny_Call_method (T := "dict") (id := "dict.values") hb rfl line F.plainAttrs_dict F.slot_dict_values F.type_dict_values (thn (he.run pins s σ H _ I hq) fun u s1 ⟨x, H1, I1, rx, d, kvs, ex, hd, q⟩ => ?_))
  subst ex
  obtain rfl : u = Value.ref d := rx
  obtain ⟨hs0, hz, es, ep, raw, size, ent⟩ := entsT (I1.hok d _ hd)
  have I2 : Inv X pins σ H1 { s1 with heap := s1.heap.push { cls := .type "dict_values", data := .fields #[.ref d] } } := I1.kept (t' := s1.toks) fun b ob q => Heap.get?_push_of_some _ q
  refine ⟨raw.typeIs, fun b hb' => (let ⟨ob, e1, e2, _⟩ := raw; ⟨ob, by cases hb'; exact e1, e2.2.1⟩), ?_⟩
  show wpAny _ _ (callWith cpos (.builtin "dict.values") [.ref d] [] []) _ X.xe s1
  refine method_meetsIn F.slot_dict_values F.entry_dict_values rfl (PySem.evalArgs_none ⟨rfl, raw.typeIs, F.args_dict_values_1 _, _, meets_dict_values_raw d hs0, ⟨es, ep, raw⟩, Calls.spliced_nil ?_⟩)
  refine PySem.W.kdl_call (KdlSrc.rawValues (prog := X.prog) (w := X.w) (r := s1.heap.objs.size) (d := d) (es := es) (ep := ep)) (I1.ok.hd hc) ⟨⟨_, Heap.get?_push_size _ rfl, rfl, rfl⟩, raw.push _⟩ (by omega) fun h' tk acc c kp hS it => ?_
  have hl : acc.toList.length = (kvs.map (·.2)).length := by rw [Array.length_toList, it.1, List.length_map, size]
  have rv : Vals (kvs.map (·.2)) acc.toList := vals_at hl fun j x u e1 e2 => by
    rw [List.getElem?_map] at e1
    obtain ⟨kv, e3, rfl⟩ := Option.map_eq_some_iff.mp e1
    obtain ⟨hj, b, _, _, r3⟩ := ent j kv.1 kv.2 e3
    obtain ⟨hj2, e4⟩ := it.2 j u (by rw [← Array.getElem?_toList]; exact e2)
    rw [e4]
    exact r3
  have hz2 : (kvs.map (·.2)).length ≤ sizeLine := by rw [List.length_map]; omega
  refine ⟨.ref _, _, I2.laid (t' := tk) (o := .lst (kvs.map (·.2))) kp (Nat.le_refl _) ?_, rfl, q _ (I2.hok.fresh (Nat.le_refl _))⟩
  exact ⟨hz2, acc.toList, c, rv, by rw [Array.toArray_toList]; exact hS⟩
end
end L2

namespace Gd
open PySem PySem.Spec PyProof.Rows L2
/-! ### a def within one surrounding: for what asks more of it than room (repr: nothing may be under way) -/
def OkAt (P : Program) (w : World) (K : PySem.W.Frag) (mg : Str → Option Value) (base : Heap) (CX : CXT) (A : Around) (f : Addr) (fd : FuncData) (ps : List Str) (sp : Sp) : Prop :=
  ∀ (outer : List Env) (st : Shared) (H : Hp) (ar : Args) (us : List Value) (vs : List V) (Q : VK) (E : XK), Env0 P w K mg base A outer st H → BindsTo st fd ar (ps.zip us) → Vals vs us → sp vs H Q E → codeAny (model P w) A (.call (.ref f) ar) (CR CX outer P w H st Q E) st
section
variable {P : Program} {w : World} {K : PySem.W.Frag} {mg : Str → Option Value} {base : Heap} {CX : CXT} {A : Around}
theorem okAt_of {k : Nat} {f : Addr} {fd : FuncData} {ps : List Str} {sp : Sp} (F : FnOk P w K mg base CX k f fd ps sp) (hr : Room k A) : OkAt P w K mg base CX A f fd ps sp := fun outer st H ar us vs Q E e0 hb r h => F.run A outer st H ar us vs Q E hr e0 hb r h
/-- a def whose body is read in this surrounding -/
theorem okAt_def {x qual : Str} {params : Arguments} {body : List Stmt} {scope : Scope} {dvs : List V} {kws : List (Str × V)} {f c : Addr} {fd : FuncData} {N ps : List Str} {k : Nat} {sp : Sp} (F : FunD K x qual params body scope dvs kws f fd) (hc : fd.code = .ref c) (S : FnScope N ps scope) (hr : Room (k + 1) A)
    (len : ∀ vs H Q E, sp vs H Q E → vs.length = ps.length)
    (go : ∀ (outer : List Env) (st : Shared) (H : Hp) (vs : List V) (Q : VK) (E : XK), Room k (A.deeper (envOfC qual scope st.heap.objs.size f (.ref c))) → sp vs H Q E → ∃ t, PSs (cxOf CX P w K mg base N qual scope f (.ref c) A outer st H E) body t ∧ t { nx := fun _ H' => Q .non H', rt := Q } (L2.start N vs) H) :
    OkAt P w K mg base CX A f fd ps sp := by
  obtain ⟨oc, od, dV, kV, doc, pm, an, cdv, ct, osl, rfl, lk, hcd, _, _⟩ := F.ex
  obtain rfl : cdv = .ref c := hc
  exact fun outer st H ar us vs Q E e0 hb r h => LamX.run_ofS lk hcd S hr e0 hb r (len _ _ _ _ h) fun hr2 => go outer st H vs Q E hr2 h
end
/-! ### such a def called -/
section
variable {X : Cx} {CX : CXT} {k i : Nat} {f : Addr} {fd : FuncData} {ps : List Str} {sp : Sp} {E : XK} {x : Str} {p pos : Pos} {e : Expr} {es : List Expr} {t : TA}
def tCallO (sp : Sp) (E : XK) (t : TA) : TE := fun σ H Q => t σ H fun vs H1 => vs.length = vs.length ∧ sp vs H1 Q E
theorem pe_callO (F : OkAt X.prog X.w X.K X.mg X.base CX X.A f fd ps sp) (len : ∀ vs H Q E, sp vs H Q E → vs.length = ps.length) (hg : Gl X x) (hm : X.mg x = some (.ref f)) (hk : PySem.W.keepIn X.K (.ref f) = true) (hb : L2.Binds X.K fd ps []) (hx : Passes CX X E) (ha : PA X (e :: es) t)
    (hdb : (x == ("__debug__" : Str)) = false := by decide) (he : starEach (e :: es) X.env = (false, eval e X.env) :: starEach es X.env := by rfl) (hpl : (backTo pos (starEach es X.env)).any (·.1) = false := by rfl) : PE X (.Call (.Name x p) (e :: es) [] pos) (tCallO sp E t) := by
  refine ⟨fun pins st σ H Q I h => ?_⟩
  refine wpAny_Call_Name_kw (ld_glob I hg hm ?_ hdb)
  refine PySem.W.callWith_K (h₀ := X.base) I.ok.mod.kin hk (thn (ha.run pos pins st σ H _ I h) fun us s1 ⟨vs, H1, I1, r, _, q⟩ => ⟨I1.kIn, ?_⟩) he hpl
  have hl : us.length = ps.length := (Paired.length r).symm.trans (len _ _ _ _ q)
  have b := hb s1 us I1.kIn (by rw [List.append_nil]; exact hl)
  rw [List.append_nil] at b
  refine wpAny_call (codeAny_mono (F X.stack s1 H1 ⟨us, []⟩ us vs Q E I1.env0 b r q) fun z s' hq => ?_)
  match z, hq with
  | .error er, hq => exact hx pins σ H1 s1 er s' I1 hq
  | .ok (.ret u), hq => exact I1.after hq
  | .ok .next, hq => exact False.elim hq
  | .ok .brk, hq => exact False.elim hq
  | .ok .cont, hq => exact False.elim hq
end
/-! ### repr of what stands as data -/
section
variable {X : Cx}
/-- data, dicts with text keys too; not the table of modules -/
inductive Dq (K : PySem.W.Frag) (H : Hp) : V → PyData → Prop
  | dp {v : V} {d : PyData} (h : Dp K H v d) (nd : d.hasDict = false) : Dq K H v d
theorem call_repr (hg : X.A.guards = some []) (hu : X.A.units + 100 < cLine) : CallR X (.builtin "repr") (fun xs H Q => ∃ (a : Addr) (d : PyData), xs = [.ref a] ∧ Dp X.K H (.ref a) d ∧ d.hasDict = false ∧ d.showable = true ∧ d.depth ≤ 50 ∧ d.shown.length ≤ sizeLine ∧ Q (.str d.shown) H) := by
  intro pins st σ H xs us Q I r ⟨a, d, e, hd, nd, hs, hdp, hz, q⟩
  subst e
  match us, r with
  | [u], .cons ru .nil =>
    obtain rfl : u = Value.ref a := ru
    obtain ⟨as, rd⟩ := Dp.reads I d _ _ hd (show RelV (.ref a) (.ref a) from rfl)
    refine PySem.repr_of_reads' (h₀ := st.heap) rd hs (fun z => by rw [nd] at z; cases z) hg (by omega) (fun _ _ e => e) (fun h' u tk k => ?_) hz
    exact ⟨.str d.shown, H, I.kept k, ⟨u, rfl⟩, q⟩
end
end Gd

namespace K11
open PySem PySem.Spec PyProof.Rows L2 Tr Sq Dk Dt Exs
/-! ### what stays where only tables go -/
def ExN (H H' : Hp) : Prop := ∀ b o, H b = some o → (∀ qs, o ≠ .tbl qs) → H' b = some o
theorem ho_wot {p c T : Addr} {H : Hp} (hT : ∃ qs, H T = some (.tbl qs)) : ExN (ho p c H) (wo p c T H) := fun b o h n => wo_of h fun z => by
  obtain ⟨qs, hq⟩ := hT
  have := ho_to _ _ h
  rw [z, hq] at this
  exact n _ (Option.some.inj this).symm
section
variable {H H' : Hp}
theorem Pl.exN {x : V} {n : String} (h : Pl H x n) (e : ExN H H') : Pl H' x n := by
  cases h with
  | non => exact .non
  | bl b => exact .bl b
  | int i => exact .int i
  | str z => exact .str z
  | lst h => exact .lst (e _ _ h fun _ z => by cases z)
  | tup h => exact .tup (e _ _ h fun _ z => by cases z)
  | frt h => exact .frt (e _ _ h fun _ z => by cases z)
  | dic h => exact .dic (e _ _ h fun _ z => by cases z)
  | dct h => exact .dct (e _ _ h fun _ z => by cases z)
theorem RX.exN {x : V} {o : Option (List V)} (h : RX H x o) (e : ExN H H') : RX H' x o := by
  cases h with
  | lst h hp hl => exact .lst (e _ _ h fun _ z => by cases z) (fun y hy => (hp y hy).imp fun _ z => z.exN e) hl
  | tup h hp hl => exact .tup (e _ _ h fun _ z => by cases z) (fun y hy => (hp y hy).imp fun _ z => z.exN e) hl
  | not h hn => exact .not (h.exN e) hn
theorem ThR.exN {x : V} (h : ThR H x) (e : ExN H H') : ThR H' x := by
  obtain ⟨o, h1, h2⟩ := h
  exact ⟨o, h1.exN e, h2⟩
theorem DX.exN {x : V} {o : Option (List (Key × V))} (h : DX H x o) (e : ExN H H') : DX H' x o := by
  cases h with
  | dic h hi hn hl => exact .dic (e _ _ h fun _ z => by cases z) (fun p hp => (hi p hp).imp fun n z => z.exN e) hn hl
  | not h hn => exact .not (h.exN e) hn
theorem DXT.exN {x : V} {o : Option (List (List Key × V))} (h : DXT H x o) (e : ExN H H') : DXT H' x o := by
  cases h with
  | dct h hi hn hl => exact .dct (e _ _ h fun _ z => by cases z) (fun p hp => (hi p hp).imp fun n z => z.exN e) hn hl
  | not h hn => exact .not (h.exN e) hn
theorem Shv.exN {v : V} (h : Shv H v) (e : ExN H H') : Shv H' v := by
  rcases h with h | ⟨c, zs, h1, h2, h3, h4⟩ | ⟨c, h1, h2⟩ | ⟨c, zs, h1, h2, h3, h4⟩
  · exact .inl h
  · exact .inr (.inl ⟨c, zs, h1, e _ _ h2 (fun _ z => by cases z), h3, h4⟩)
  · exact .inr (.inr (.inl ⟨c, h1, e _ _ h2 fun _ z => by cases z⟩))
  · exact .inr (.inr (.inr ⟨c, zs, h1, e _ _ h2 (fun _ z => by cases z), h3, h4⟩))
theorem Sm.exN (e : ExN H H') : ∀ n x y, Sm H n x y → Sm H' n x y
  | 0, _, _, h => h
  | n + 1, x, y, h => by
    rcases h with h | ⟨a, b, xs, ys, h1, h2, h3, h4, h5, h6⟩ | ⟨a, b, xs, ys, h1, h2, h3, h4, h5, h6⟩ | ⟨a, b, ks, h1, h2, h3, h4, h5, h6, h7⟩ | ⟨a, b, ks, h1, h2, h3, h4, h5, h6, h7⟩
    · exact .inl h
    · exact .inr (.inl ⟨a, b, xs, ys, h1, h2, e _ _ h3 (fun _ z => by cases z), e _ _ h4 (fun _ z => by cases z), h5, Paired.mapP h6 fun _ _ z => Sm.exN e n _ _ z⟩)
    · exact .inr (.inr (.inl ⟨a, b, xs, ys, h1, h2, h3.imp (fun z => e _ _ z (fun _ w => by cases w)) (fun ⟨o, z⟩ => ⟨o, e _ _ z (fun _ w => by cases w)⟩), e _ _ h4 (fun _ z => by cases z), h5, Paired.mapP h6 fun _ _ z => Sm.exN e n _ _ z⟩))
    · exact .inr (.inr (.inr (.inl ⟨a, b, ks, h1, h2, e _ _ h3 (fun _ z => by cases z), e _ _ h4 (fun _ z => by cases z), (fun p hp => (h5 p hp).imp id fun z => ⟨z.1, z.2.exN e⟩), h6, h7⟩)))
    · exact .inr (.inr (.inr (.inr ⟨a, b, ks, h1, h2, e _ _ h3 (fun _ z => by cases z), e _ _ h4 (fun _ z => by cases z), (fun p hp => (h5 p hp).imp id fun z => ⟨z.1, z.2.exN e⟩), h6, h7⟩)))
theorem BadLt.exN {hs : List Str} {x : V} (h : BadLt hs H x) (e : ExN H H') : BadLt hs H' x := by
  obtain ⟨o, h1, h2, h3⟩ := h
  exact ⟨o, h1.exN e, h2, Sm.exN e _ _ _ h3⟩
theorem BadGt.exN {ps : Prs} {x : V} (h : BadGt ps H x) (e : ExN H H') : BadGt ps H' x := by
  obtain ⟨o, h1, h2, h3⟩ := h
  exact ⟨o, h1.exN e, h2, Sm.exN e _ _ _ h3⟩
end
/-! ### letters and ledgers in another order -/
theorem valk_perm {kvs kvs' : List (Key × V)} (h : kvs'.Perm kvs) (hn : (kvs.map (·.1)).Nodup) (k : Key) : valV kvs' k = valV kvs k := by
  have hn' : (kvs'.map (·.1)).Nodup := (h.map _).nodup_iff.mpr hn
  cases hv : valV kvs k with
  | none =>
    cases hv' : valV kvs' k with
    | none => rfl
    | some x =>
      have h1 := valk_some.mp (show (valV kvs' k).isSome = true by rw [hv']; rfl)
      have h2 := valk_some.mpr ((h.map (·.1)).mem_iff.mp h1)
      rw [hv] at h2
      cases h2
  | some x =>
    have hv2 := hv
    unfold valV at hv2
    obtain ⟨q, hq, e⟩ := Option.map_eq_some_iff.mp hv2
    have hm := h.mem_iff.mpr (List.mem_of_find?_eq_some hq)
    obtain ⟨i, hi⟩ := List.mem_iff_getElem?.mp hm
    have hk : q.1 = k := by simpa using List.find?_some hq
    obtain ⟨k9, v9⟩ := q
    have hk : k9 = k := hk
    have e : v9 = x := e
    subst hk e
    exact valk_at hn' hi
theorem valt_perm {kvs kvs' : List (List Key × V)} (h : kvs'.Perm kvs) (hn : (kvs.map (·.1)).Nodup) (k : List Key) : valV kvs' k = valV kvs k := by
  have hn' : (kvs'.map (·.1)).Nodup := (h.map _).nodup_iff.mpr hn
  cases hv : valV kvs k with
  | none =>
    cases hv' : valV kvs' k with
    | none => rfl
    | some x =>
      have h1 := val_some.mp (show (valV kvs' k).isSome = true by rw [hv']; rfl)
      have h2 := val_some.mpr ((h.map (·.1)).mem_iff.mp h1)
      rw [hv] at h2
      cases h2
  | some x =>
    have hv2 := hv
    unfold valV at hv2
    obtain ⟨q, hq, e⟩ := Option.map_eq_some_iff.mp hv2
    have hm := h.mem_iff.mpr (List.mem_of_find?_eq_some hq)
    obtain ⟨i, hi⟩ := List.mem_iff_getElem?.mp hm
    have hk : q.1 = k := by simpa using List.find?_some hq
    obtain ⟨k9, v9⟩ := q
    have hk : k9 = k := hk
    have e : v9 = x := e
    subst hk e
    exact val_at hn' hi
theorem Led.perm {ps : Prs} {kvs kvs' : List (List Key × V)} (L : Led ps kvs) (h : kvs'.Perm kvs) : Led ps kvs' := by
  obtain ⟨ps', h1, h2⟩ := L.ks
  have h3 := h.map (·.1)
  rw [h2] at h3
  obtain ⟨ps2, h4, h5⟩ := perm_of_map h3 ps' rfl
  exact ⟨⟨ps2, h4.trans h1, h5⟩, fun p hp => L.ns p (h.mem_iff.mp hp)⟩
theorem LedK.perm {hs : List Str} {kvs kvs' : List (Key × V)} (L : LedK hs kvs) (h : kvs'.Perm kvs) : LedK hs kvs' := by
  obtain ⟨hs', h1, h2⟩ := L.ks
  have h3 := h.map (·.1)
  rw [h2] at h3
  obtain ⟨hs2, h4, h5⟩ := perm_of_map h3 hs' rfl
  exact ⟨⟨hs2, h4.trans h1, h5⟩, fun p hp => L.ns p (h.mem_iff.mp hp)⟩
theorem Led.tab {ps : Prs} {kvs : List (List Key × V)} (L : Led ps kvs) : isTabT ps (some kvs) = true := by
  show ((decide (kvs.length = ps.length) && ps.all fun q => (valV kvs (kp q)).isSome) && kvs.all fun p => numV p.2) = true
  rw [Bool.and_eq_true, Bool.and_eq_true]
  obtain ⟨ps', h1, h2⟩ := L.ks
  refine ⟨⟨decide_eq_true L.len, List.all_eq_true.mpr fun q hq => val_some.mpr ?_⟩, List.all_eq_true.mpr fun q hq => ?_⟩
  · rw [h2]
    exact List.mem_map.mpr ⟨q, h1.mem_iff.mpr hq, rfl⟩
  · obtain ⟨m, e⟩ := L.ns q hq
    rw [e]
    exact decide_eq_true (show (0 : Int) ≤ (m : Nat) by omega)
theorem LedK.let_ {hs : List Str} {kvs : List (Key × V)} (L : LedK hs kvs) (h : ∃ q ∈ kvs, posV q.2 = true) : isLet hs (some kvs) = true := by
  show (((decide (kvs.length = hs.length) && hs.all fun h => (valV kvs (Sum.inr h)).isSome) && kvs.all fun p => numV p.2) && kvs.any fun p => posV p.2) = true
  rw [Bool.and_eq_true, Bool.and_eq_true, Bool.and_eq_true]
  obtain ⟨hs', h1, h2⟩ := L.ks
  refine ⟨⟨⟨decide_eq_true L.len, List.all_eq_true.mpr fun q hq => valk_some.mpr ?_⟩, List.all_eq_true.mpr fun q hq => ?_⟩, List.any_eq_true.mpr h⟩
  · rw [h2]
    exact List.mem_map.mpr ⟨q, h1.mem_iff.mpr hq, rfl⟩
  · obtain ⟨m, e⟩ := L.ns q hq
    rw [e]
    exact decide_eq_true (show (0 : Int) ≤ (m : Nat) by omega)
theorem Led.dxt {ps : Prs} {kvs : List (List Key × V)} (L : Led ps kvs) (hl : ps.length ≤ 30) {H : Hp} {d : Addr} (h : H d = some (.dT kvs)) : DXT H (.ref d) (some kvs) := .dct h (fun q hq => by
  obtain ⟨n, e⟩ := L.ns q hq
  rw [e]
  exact ⟨_, .int _⟩) (fun q hq => by
  obtain ⟨n, e⟩ := L.ns q hq
  rw [e]
  exact fun z => by cases z) (by rw [L.len]; omega)
theorem LedK.dx {hs : List Str} {kvs : List (Key × V)} (L : LedK hs kvs) (hl : hs.length ≤ 30) {H : Hp} {d : Addr} (h : H d = some (.dK kvs)) : DX H (.ref d) (some kvs) := .dic h (fun q hq => by
  obtain ⟨n, e⟩ := L.ns q hq
  rw [e]
  exact ⟨_, .int _⟩) (fun q hq => by
  obtain ⟨n, e⟩ := L.ns q hq
  rw [e]
  exact fun z => by cases z) (by rw [L.len]; omega)
theorem lcnt_perm {kvs kvs' : List (Key × V)} (h : kvs'.Perm kvs) (hn : (kvs.map (·.1)).Nodup) : lcnt kvs' = lcnt kvs := by
  funext k
  unfold lcnt
  rw [valk_perm h hn]
theorem gcnt_perm {kvs kvs' : List (List Key × V)} (h : kvs'.Perm kvs) (hn : (kvs.map (·.1)).Nodup) : gcnt kvs' = gcnt kvs := by
  funext k
  unfold gcnt
  rw [valt_perm h hn]
/-! ### what is told, as a value -/
def FV (H : Hp) (u : Option (List V)) (x : V) : Prop := match u with
  | none => x = .non
  | some l => ∃ t, x = .ref t ∧ H t = some (.tup l)
theorem FV.ex {H H' : Hp} {u : Option (List V)} {x : V} (h : FV H u x) (e : Evl.Ex H H') : FV H' u x := by
  cases u with
  | none => exact h
  | some l =>
    obtain ⟨t, h1, h2⟩ := h
    exact ⟨t, h1, e _ _ h2⟩
theorem gives_of {u : Option (List V)} {H : Hp} {Q : VK} (h : ∀ (x : V) (H' : Hp), Evl.Ex H H' → FV H' u x → (∀ t, x = .ref t → H t = none) → Q x H') : Gives u H Q := fun H' e => by
  cases u with
  | none => exact h .non H' e rfl (fun t z => by cases z)
  | some l => exact fun t ht => h (.ref t) _ (e.trans (Evl.Ex.new ht)) ⟨t, rfl, upd_same⟩ (fun t' z => (by
      injection z with z
      rw [← z]
      exact none_of (fun o w => e _ _ w) ht))
theorem fault_flat {way : Str → Str → List Str} {hs : List Str} {ps : Prs} {L : Str → Int} {G : Str × Str → Int} {o : Option (List V)} : ∀ l, faultO way hs ps L G o = some l → l.length ≤ 1000 ∧ ∀ y ∈ l, flatS y = true := fun l h => by
  unfold faultO at h
  split at h
  · split at h
    · cases h
    · split at h
      · cases h
        exact ⟨by show 2 ≤ 1000; decide, fun y hy => by
          simp only [List.mem_cons, List.not_mem_nil, or_false] at hy
          rcases hy with rfl | rfl <;> rfl⟩
      · split at h
        · cases h
          exact ⟨by show 3 ≤ 1000; decide, fun y hy => by
            simp only [List.mem_cons, List.not_mem_nil, or_false] at hy
            rcases hy with rfl | rfl | rfl <;> rfl⟩
        · cases h
  · cases h
    refine ⟨by show 2 ≤ 1000; decide, fun y hy => ?_⟩
    simp only [List.mem_cons, List.not_mem_nil, or_false] at hy
    rcases hy with rfl | rfl
    · rfl
    · rcases flaw_or hs o with e | ⟨i, e⟩ <;> rw [e] <;> rfl
theorem fv_sm {H : Hp} {u : Option (List V)} {x y : V} (hu : ∀ l, u = some l → l.length ≤ 1000 ∧ ∀ z ∈ l, flatS z = true) (h1 : FV H u x) (h2 : FV H u y) : Sm H 3 x y := by
  cases u with
  | none =>
    have h1 : x = .non := h1
    have h2 : y = .non := h2
    rw [h1, h2]
    exact .inl ⟨rfl, rfl⟩
  | some l =>
    obtain ⟨t1, rfl, e1⟩ := h1
    obtain ⟨t2, rfl, e2⟩ := h2
    obtain ⟨k1, k2⟩ := hu l rfl
    exact .inr (.inr (.inl ⟨t1, t2, l, l, rfl, rfl, .inl e1, e2, k1, flats_sm k2⟩))
/-! ### _law_m_held -/
abbrev sHeld : Stmt := top 55
theorem scHeld : FnScope ["ask", "thing", "found"] ["ask"] (defScope sHeld) := ⟨rfl, rfl, rfl, by decide +kernel, rfl, by decide +kernel, by decide +kernel⟩
def HeldD (th : Addr) (Q : VK) (v : V) (H1 : Hp) : Prop := ∃ (ft : Addr) (x : V) (xs ys : List V), v = .ref ft ∧ ft ≠ th ∧ H1 ft = some (.tup (x :: xs)) ∧ H1 th = some (.lst ys) ∧ ys.length ≤ 100 ∧
  ∀ p, upd H1 th (.lst (ys ++ [.str "late"])) p = none → Q (.ref p) (upd (upd H1 th (.lst (ys ++ [.str "late"]))) p (.tup xs))
def THeld : Addr → Addr → (V → Hp → VK → Prop) → Hp → VK → Prop := fun _ _ tl H Q => ∀ th, H th = none → ∀ R : VK, (∀ v H1, HeldD th Q v H1 → R v H1) → tl (.ref th) (upd H th (.lst [.non])) R
theorem held_gives {X : Cx} {g : Addr} {cdg : Value} {q : Str} : Lm.GivesT1 X ["ask", "thing", "found"] "_law_m_held" (defScope sHeld) g cdg (defBody sHeld) "ask" q THeld := by
  intro f c2 P2 s H Q tl act hc h
  refine ⟨_, pss_cons (ps_set (i := 1) scHeld.nd rfl (.inl rfl) (pe_lst (pa_cons pe_non pa_nil)))
    (pss_cons (ps_set (i := 2) scHeld.nd rfl (.inl rfl) (act _ _ _ _ (pv 1) rfl))
    (pss_cons (ps_expr (pe_bm PySem.F.plainAttrs_list PySem.F.slot_list_append PySem.F.type_list_append mt_append (pv 1) (pa_cons pe_str pa_nil)))
    (pss_one (ps_ret (pe_slice sl_tup (pv 2) (po_some pe_int) po_none))))), ?_⟩
  refine ⟨by show 1 ≤ sizeLine; decide, fun th hth => ⟨rfl, _, rfl, ?_⟩⟩
  refine ⟨by rw [upd_ne (ne_of_none hc hth)]; exact hc, ?_⟩
  refine h th hth _ fun v H1 hd => ?_
  obtain ⟨ft, x, xs, ys, rfl, hne, hft, hth1, hl, k⟩ := hd
  refine ⟨_, rfl, .inl ⟨rfl, _, SqL.of hth1⟩, th, ys, .str "late", rfl, rfl, hth1, ?_, ?_⟩
  · rw [sizeLine_eq]
    omega
  · refine ⟨_, rfl, _, rfl, ft, x :: xs, rfl, SqT.of (by rw [upd_ne hne]; exact hft), ?_, fun p hp => ?_⟩
    · rintro ⟨z, _⟩
      rw [show (some (1 : Int)) = some ((1 : Nat) : Int) from rfl, HT.sIx_nat] at z
      simp at z
    · rw [cutV_tl]
      exact k p hp
theorem builtins_at {h : Heap} {mg : Str → Option Value} {P P2 : Addr} (hb : h.BuiltinsAt mg P) (g : Lm.Good mg P2) : h.BuiltinsAt mg P2 := by
  obtain ⟨bm, ob, b1, b2, b3, b4, b5, b6, b7, b8⟩ := hb
  exact ⟨bm, ob, b1, b2, b3, g.2 bm b1, b5, b6, b7, b8⟩
theorem codeT_hd {P : Program} {w : World} {H : Hp} {h : Heap} {c P2 : Addr} {q : Str} (x : ObjOk P w H h c (Lm.CodeT c q P2)) : PySem.W.CodeHd h c P2 := x.1.2
section
variable {P : Program} {w : World} {K : PySem.W.Frag} {mg : Str → Option Value} {base : Heap} {C1 C2 f1 f2 : Addr}
theorem metL {v : V} {H1 H' : Hp} {Q : VK} {d : Addr} (T1 : Err P w K mg base "BadLetters" "thing" C1 f1) (h : RefQ "letters" v H1 Q) (e : Evl.Ex H1 H') (hd : H' d = none) : MetE K Q (metCs C1 C2) (.ref C1) (some d) (upd H' d (.xd [("thing", v)])) :=
  ⟨true, T1.c.me, fun _ => told1 h e hd, (fun z => by cases z)⟩
theorem metG {v : V} {H1 H' : Hp} {Q : VK} {d : Addr} (T2 : Err P w K mg base "BadLedger" "thing" C2 f2) (hno : PySem.W.exmOne K (.ref C2) (.ref C1) = some false) (h : RefQ "ledger" v H1 Q) (e : Evl.Ex H1 H') (hd : H' d = none) : MetE K Q (metCs C1 C2) (.ref C2) (some d) (upd H' d (.xd [("thing", v)])) :=
  ⟨false, hno, (fun z => by cases z), fun _ => ⟨true, T2.c.me, fun _ => told1 h e hd, (fun z => by cases z)⟩⟩
end
end K11

namespace K11
open PySem PySem.Spec PyProof.Rows L2 Tr Sq Dk Dt Exs
/-! ### law -/
abbrev sLaw : Stmt := top 75
abbrev nmLaw : List Str := ["script", "stream", "turn", "some", "houses", "paths", "made", "row", "letters", "ledger", "near", "thing", "one", "due", "told", "bad", "odd", "found", "held"]
theorem scLaw : FnScope nmLaw ["script"] (defScope sLaw) := ⟨rfl, rfl, rfl, by decide +kernel, rfl, by decide +kernel, by decide +kernel⟩
structure EnvL (P : Program) (w : World) (K : PySem.W.Frag) (mg : Str → Option Value) (base : Heap) (C CL CG : Addr) : Prop where
  start : ∃ f fd, mg "_law_start" = some (.ref f) ∧ FnOk P w K mg base CX0 1 f fd ["script"] (spStart K) ∧ PySem.W.keepIn K (.ref f) = true ∧ L2.Binds K fd ["script"] []
  vill : ∃ f fd, mg "_law_v_village" = some (.ref f) ∧ FnOk P w K mg base CX0 4 f fd ["stream", "most"] spVill ∧ PySem.W.keepIn K (.ref f) = true ∧ L2.Binds K fd ["stream", "most"] []
  made : ∃ f fd, mg "_law_m_made" = some (.ref f) ∧ FnOk P w K mg base CX0 6 f fd ["stream", "some"] (spMade C) ∧ PySem.W.keepIn K (.ref f) = true ∧ L2.Binds K fd ["stream", "some"] []
  round : ∃ f fd, mg "_law_v_round" = some (.ref f) ∧ FnOk P w K mg base CX0 3 f fd ["stream", "houses", "most"] spRound ∧ PySem.W.keepIn K (.ref f) = true ∧ L2.Binds K fd ["stream", "houses", "most"] []
  vlet : ∃ f fd, mg "_law_v_letters" = some (.ref f) ∧ FnOk P w K mg base CX0 1 f fd ["houses", "row"] spVLet ∧ PySem.W.keepIn K (.ref f) = true ∧ L2.Binds K fd ["houses", "row"] []
  vled : ∃ f fd, mg "_law_v_ledger" = some (.ref f) ∧ FnOk P w K mg base CX0 4 f fd ["paths", "row"] spVLed ∧ PySem.W.keepIn K (.ref f) = true ∧ L2.Binds K fd ["paths", "row"] []
  keys : ∃ f fd, mg "_law_v_keys" = some (.ref f) ∧ FnOk P w K mg base CX0 1 f fd ["paths"] spKeys ∧ PySem.W.keepIn K (.ref f) = true ∧ L2.Binds K fd ["paths"] []
  near : ∃ f fd, mg "_law_m_near" = some (.ref f) ∧ FnOk P w K mg base CX0 3 f fd ["stream", "keys", "numbers"] spMNear ∧ PySem.W.keepIn K (.ref f) = true ∧ L2.Binds K fd ["stream", "keys", "numbers"] []
  things : ∃ f fd, mg "_law_things" = some (.ref f) ∧ FnOk P w K mg base CX0 3 f fd ["stream", "houses", "row"] spThings ∧ PySem.W.keepIn K (.ref f) = true ∧ L2.Binds K fd ["stream", "houses", "row"] []
  fault : ∃ f fd, mg "_law_fault" = some (.ref f) ∧ FnOk P w K mg base CX0 5 f fd ["houses", "paths", "letters", "ledger", "thing"] spFault ∧ PySem.W.keepIn K (.ref f) = true ∧ L2.Binds K fd ["houses", "paths", "letters", "ledger", "thing"] []
  shown : ∃ f fd, mg "_law_m_shown" = some (.ref f) ∧ FnOk P w K mg base CX0 3 f fd ["stream", "given"] spShown ∧ PySem.W.keepIn K (.ref f) = true ∧ L2.Binds K fd ["stream", "given"] []
  same : ∃ f fd, mg "_law_same" = some (.ref f) ∧ (∀ n, FnOk P w K mg base CX0 n f fd ["found", "due"] (spSame n)) ∧ PySem.W.keepIn K (.ref f) = true ∧ L2.Binds K fd ["found", "due"] []
  oddl : ∃ f fd, mg "_law_m_odd_letters" = some (.ref f) ∧ FnOk P w K mg base CX0 3 f fd ["stream", "letters"] spOddL ∧ PySem.W.keepIn K (.ref f) = true ∧ L2.Binds K fd ["stream", "letters"] []
  oddg : ∃ f fd, mg "_law_m_odd_ledger" = some (.ref f) ∧ FnOk P w K mg base CX0 3 f fd ["stream", "ledger"] spOddG ∧ PySem.W.keepIn K (.ref f) = true ∧ L2.Binds K fd ["stream", "ledger"] []
  flt : ∃ f fd, mg "round_fault" = some (.ref f) ∧ FnOk P w K mg base (L2.CX P w) 8 f fd ["village", "letters", "ledger", "thing"] (spRFlt C CL CG) ∧ PySem.W.keepIn K (.ref f) = true ∧ L2.Binds K fd ["village", "letters", "ledger", "thing"] []
  met : ∃ f fd, mg "_law_met" = some (.ref f) ∧ FnP K "_law_met" sMet f fd
  held : ∃ f fd, mg "_law_m_held" = some (.ref f) ∧ FnP K "_law_m_held" sHeld f fd
  el : ∃ f, Err P w K mg base "BadLetters" "thing" CL f
  eg : ∃ f, Err P w K mg base "BadLedger" "thing" CG f
  no : PySem.W.exmOne K (.ref CG) (.ref CL) = some false
  gRange : mg "range" = none
  gList : mg "list" = none
theorem Vil.exN {H H' : Hp} {C v : Addr} {hs : List Str} {ps : Prs} {m : VilD} (h : Vil H C v hs ps m) (e : ExN H H') : Vil H' C v hs ps m :=
  ⟨e _ _ h.at_ (fun _ z => by cases z), e _ _ h.la (fun _ z => by cases z), e _ _ h.lb (fun _ z => by cases z), fun t ht => e _ _ (h.pr t ht) (fun _ z => by cases z), h.eq, ⟨e _ _ h.nr.1 (fun _ z => by cases z), fun x hx => e _ _ (h.nr.2 x hx) (fun _ z => by cases z)⟩⟩
theorem ExN.trans {H H1 H2 : Hp} (a : ExN H H1) (b : ExN H1 H2) : ExN H H2 := fun x o e n => b x o (a x o e n) n
theorem ExN.of {H H' : Hp} (e : Evl.Ex H H') : ExN H H' := fun b o h _ => e b o h
theorem ExN.grow {T : Addr} {H H' : Hp} (hT : ∃ ps, H T = some (.tbl ps)) (g : Lm.Grow T H H') : ExN H H' := fun b o h n => g b o (fun z => by
  obtain ⟨ps, hp⟩ := hT
  rw [z, hp] at h
  exact n _ (Option.some.inj h).symm) h
theorem StrAt.exN {H H' : Hp} {p c : Addr} {n : Nat} (h : StrAt H p c n) (e : ExN H H') : StrAt H' p c n := by
  obtain ⟨L, cells, a1, kk, m1, s1, s2, r⟩ := h
  exact ⟨L, cells, a1, kk, m1, e _ _ s1 (fun _ z => by cases z), e _ _ s2 (fun _ z => by cases z), r⟩
/-- the stream, the tables, all else but tables -/
structure Wn (mg : Str → Option Value) (T p c : Addr) (Hc : Hp) (n : Nat) (H : Hp) : Prop where
  str : StrAt H p c n
  tab : Lm.TabD mg qlS H T
  e : ExN Hc H
section
variable {mg : Str → Option Value} {T p c : Addr} {Hc H H' : Hp} {n : Nat}
theorem Wn.pt (M : Wn mg T p c Hc n H) : ∃ ps, H T = some (.tbl ps) := by
  obtain ⟨ps, h, _⟩ := M.tab
  exact ⟨ps, h⟩
theorem Wn.ex (M : Wn mg T p c Hc n H) (x : Evl.Ex H H') : Wn mg T p c Hc n H' := ⟨M.str.keep x, tabD_kl _ M.tab (Kl.ex x), M.e.trans (.of x)⟩
theorem Wn.grow (M : Wn mg T p c Hc n H) (g : Lm.Grow T H H') (t : Lm.TabD mg qlS H' T) : Wn mg T p c Hc n H' := ⟨M.str.exN (.grow M.pt g), t, M.e.trans (.grow M.pt g)⟩
theorem Wn.grow2 {P2 : Addr} (M : Wn mg T p c Hc n H) (hP2 : P2 ≠ T) (t0 : Lm.TabD mg [qlI] H P2) (g : Lm.Grow P2 H H') (t : Lm.TabD mg [qlI] H' P2) : Wn mg T p c Hc n H' := by
  obtain ⟨ps, h, _⟩ := id t0
  exact ⟨M.str.exN (.grow ⟨ps, h⟩ g), Lm.tabD_two h g hP2.symm t M.tab, M.e.trans (.grow ⟨ps, h⟩ g)⟩
theorem Wn.mut {F : Addr} {xs ys : List V} (M : Wn mg T p c Hc n H) (hF : H F = some (.lst xs)) (h1 : F ≠ p) (h2 : F ≠ c) (h3 : Hc F = none) : Wn mg T p c Hc n (upd H F (.lst ys)) :=
  ⟨M.str.upd h1 h2, tabD_kl _ M.tab (Kl.upd hF), fun b o h nb => by
    rw [upd_ne (fun z => by rw [z, h3] at h; cases h)]
    exact M.e b o h nb⟩
theorem Wn.now (M : Wn mg T p c Hc n H) : Wn mg T p c H n H := ⟨M.str, M.tab, fun _ _ h _ => h⟩
end
/-- what the last questions ask for -/
structure Fs (C v : Addr) (hs : List Str) (ps : Prs) (m : VilD) (bad odd : V) (la : Addr) (kl : List (Key × V)) (rw_ : Addr) (rs : List Str) (H : Hp) : Prop where
  vil : Vil H C v hs ps m
  bad : BadLt hs H bad
  odd : BadGt ps H odd
  la : H la = some (.dK kl)
  row : H rw_ = some (.lst (rs.map V.str))
theorem Fs.exN {C v : Addr} {hs : List Str} {ps : Prs} {m : VilD} {bad odd : V} {la : Addr} {kl : List (Key × V)} {rw_ : Addr} {rs : List Str} {H H' : Hp} (h : Fs C v hs ps m bad odd la kl rw_ rs H) (e : ExN H H') : Fs C v hs ps m bad odd la kl rw_ rs H' :=
  ⟨h.vil.exN e, h.bad.exN e, h.odd.exN e, e _ _ h.la (fun _ z => by cases z), e _ _ h.row (fun _ z => by cases z)⟩
theorem rx_strs {H : Hp} {a : Addr} {rs : List Str} (h : H a = some (.lst (rs.map V.str))) (hl : rs.length ≤ 1000) : RX H (.ref a) (some (rs.map V.str)) := .lst h (fun y hy => by
  obtain ⟨z, _, rfl⟩ := List.mem_map.mp hy
  exact ⟨_, .str z⟩) (by rw [List.length_map]; exact hl)
def spLaw (K : PySem.W.Frag) (T : Addr) : Sp := fun vs H Q _ => ∃ (a : Addr) (ns : List Int), vs = [.ref a] ∧ SqL K H a (ns.map V.int) ∧ ns.length ≤ 63 ∧ H T = some (.tbl #[]) ∧ ∀ H', Q (.bl true) H'
section
variable {P : Program} {w : World} {K : PySem.W.Frag} {mg : Str → Option Value} {base : Heap}
theorem ok_law {C CL CG f cL T : Addr} {fd : FuncData} {A : Around} (F : FnP K "law" sLaw f fd) (hcode : fd.code = .ref cL) (TB : LamX.TabB base mg cL T) (hr0 : Room 15 A) (D : EnvL P w K mg base C CL CG) : Gd.OkAt P w K mg base CX0 A f fd ["script"] (spLaw K T) := by
  obtain ⟨fS, fdS, gS, GS, kS, bS⟩ := D.start
  obtain ⟨fV, fdV, gV, GV, kVl, bV⟩ := D.vill
  obtain ⟨fB, fdB, gB, GB, kB, bB⟩ := D.made
  obtain ⟨fR, fdR, gR, GR, kR, bR⟩ := D.round
  obtain ⟨fL, fdL, gL, GL, kL, bL⟩ := D.vlet
  obtain ⟨fG, fdG, gG, GG, kG, bG⟩ := D.vled
  obtain ⟨fY, fdY, gY, GY, kY, bY⟩ := D.keys
  obtain ⟨fU, fdU, gU, GU, kU, bU⟩ := D.near
  obtain ⟨fI, fdI, gI, GI, kI, bI⟩ := D.things
  obtain ⟨fF, fdF, gF, GF, kF, bF⟩ := D.fault
  obtain ⟨fW, fdW, gW, GW, kW, bW⟩ := D.shown
  obtain ⟨fE, fdE, gE, GE, kE, bE⟩ := D.same
  obtain ⟨fJ, fdJ, gJ, GJ, kJ, bJ⟩ := D.oddl
  obtain ⟨fO, fdO, gO, GO, kO, bO⟩ := D.oddg
  obtain ⟨fT, fdT, gT, GT, kT, bT⟩ := D.flt
  obtain ⟨fM, fdM, gM, FM⟩ := D.met
  obtain ⟨fH, fdH, gH, FH⟩ := D.held
  obtain ⟨e1, T1⟩ := D.el
  obtain ⟨e2, T2⟩ := D.eg
  have hno := D.no
  have gRg := D.gRange
  have gLi := D.gList
  have bM : L2.Binds K fdM ["ask"] [] := FM.bindsN fun _ _ _ _ _ _ us hl => match us, hl with | [_], _ => rfl
  have kM := FM.kp
  obtain ⟨ocM, odM, dVM, kVM, docM, pmM, anM, cdM, ctM', oslM, rfl, lkM, hcM, _, _⟩ := FM.ex
  have bH : L2.Binds K fdH ["ask"] [] := FH.bindsN fun _ _ _ _ _ _ us hl => match us, hl with | [_], _ => rfl
  have kH := FH.kp
  obtain ⟨ocH, odH, dVH, kVH, docH, pmH, anH, cdH, ctH', oslH, rfl, lkH, hcH, _, _⟩ := FH.ex
  refine Gd.okAt_def (k := 14) F hcode scLaw hr0 (fun vs H Q E h => ?_) (fun outer s H vs Q E hr h => ?_)
  · obtain ⟨a, ns, rfl, _⟩ := h
    rfl
  · obtain ⟨a, ns, rfl, hq, hl, hT, k⟩ := h
    refine' ⟨_, PSs.nox (pss_cons (ps_set (i := 1) scLaw.nd rfl (.inl rfl) (pe_call GS (hr.mono (by decide)) (by rfl) gS kS bS .nil pass0 (pa_cons (pv 0) pa_nil)))
      (pss_cons (ps_for PassesOwn.never rfl (pi_range1 (by rfl) gRg (pa_cons pe_int pa_nil)) (pg_name (i := 2) scLaw.nd rfl (.inl rfl))
        (pss_cons (ps_set (i := 3) scLaw.nd rfl (.inl rfl) (pe_call GV (hr.mono (by decide)) (by rfl) gV kVl bV .nil pass0 (pa_cons (pv 1) (pa_cons pe_int pa_nil))))
        (pss_cons (ps_asg (pv 3) (pg_tup (by rfl) (pgs_cons (pg_name (i := 4) scLaw.nd rfl (.inl rfl)) (pgs_cons (pg_name (i := 5) scLaw.nd rfl (.inl rfl)) pgs_nil))))
        (pss_cons (ps_asg (pe_tup (pa_cons (pe_call GB (hr.mono (by decide)) (by rfl) gB kB bB .nil pass0 (pa_cons (pv 1) (pa_cons (pv 3) pa_nil))) (pa_cons (pe_call GR (hr.mono (by decide)) (by rfl) gR kR bR .nil pass0 (pa_cons (pv 1) (pa_cons (pv 4) (pa_cons pe_int pa_nil)))) pa_nil))) (pg_tup (by rfl) (pgs_cons (pg_name (i := 6) scLaw.nd rfl (.inr rfl)) (pgs_cons (pg_name (i := 7) scLaw.nd rfl (.inr rfl)) pgs_nil))))
        (pss_cons (ps_asg (pe_tup (pa_cons (pe_call GL (hr.mono (by decide)) (by rfl) gL kL bL .nil pass0 (pa_cons (pv 4) (pa_cons (pv 7) pa_nil))) (pa_cons (pe_call GG (hr.mono (by decide)) (by rfl) gG kG bG .nil pass0 (pa_cons (pv 5) (pa_cons (pv 7) pa_nil))) pa_nil))) (pg_tup (by rfl) (pgs_cons (pg_name (i := 8) scLaw.nd rfl (.inr rfl)) (pgs_cons (pg_name (i := 9) scLaw.nd rfl (.inl rfl)) pgs_nil))))
        (pss_cons (ps_set (i := 10) scLaw.nd rfl (.inl rfl) (pe_call GU (hr.mono (by decide)) (by rfl) gU kU bU .nil pass0 (pa_cons (pv 1) (pa_cons (pe_call GY (hr.mono (by decide)) (by rfl) gY kY bY .nil pass0 (pa_cons (pv 5) pa_nil)) (pa_cons (pe_listValsT (by rfl) (pv 9) (by rfl) gLi (by decide +kernel)) pa_nil)))))
        (pss_cons (ps_for PassesOwn.never rfl (pi_list (pe_call GI (hr.mono (by decide)) (by rfl) gI kI bI .nil pass0 (pa_cons (pv 1) (pa_cons (pv 4) (pa_cons (pv 7) pa_nil))))) (pg_name (i := 11) scLaw.nd rfl (.inl rfl))
          (pss_one (ps_for PassesOwn.never rfl (pi_tup (pe_tup (pa_cons (pv 9) (pa_cons (pv 10) pa_nil)))) (pg_name (i := 12) scLaw.nd rfl (.inl rfl))
            (pss_cons (ps_set (i := 13) scLaw.nd rfl (.inl rfl) (pe_call GF (hr.mono (by decide)) (by rfl) gF kF bF .nil pass0 (pa_cons (pv 4) (pa_cons (pv 5) (pa_cons (pv 8) (pa_cons (pv 12) (pa_cons (pv 11) pa_nil)))))))
            (pss_cons (ps_set (i := 14) scLaw.nd rfl (.inl rfl) (pe_callS GT (hr.mono (by decide)) (by rfl) gT kT bT (fun σ => passAt takes0 σ) (pa_cons (pv 6) (pa_cons (pe_call GW (hr.mono (by decide)) (by rfl) gW kW bW .nil pass0 (pa_cons (pv 1) (pa_cons (pv 8) pa_nil))) (pa_cons (pe_call GW (hr.mono (by decide)) (by rfl) gW kW bW .nil pass0 (pa_cons (pv 1) (pa_cons (pv 12) pa_nil))) (pa_cons (pv 11) pa_nil))))))
            (pss_one (ps_if (pt_not (pt_val (pe_call (GE 4) (hr.mono (by decide)) (by rfl) gE kE bE .nil pass0 (pa_cons (pe_lst (pa_cons (pv 14) pa_nil)) (pa_cons (pe_lst (pa_cons (pv 13) pa_nil)) pa_nil))))) (pss_one (ps_ret pe_bl)) pss_nil)))))))
        (pss_cons (ps_asg (pe_tup (pa_cons (pe_call GJ (hr.mono (by decide)) (by rfl) gJ kJ bJ .nil pass0 (pa_cons (pv 1) (pa_cons (pv 8) pa_nil))) (pa_cons (pe_call GO (hr.mono (by decide)) (by rfl) gO kO bO .nil pass0 (pa_cons (pv 1) (pa_cons (pv 9) pa_nil))) pa_nil))) (pg_tup (by rfl) (pgs_cons (pg_name (i := 15) scLaw.nd rfl (.inr rfl)) (pgs_cons (pg_name (i := 16) scLaw.nd rfl (.inr rfl)) pgs_nil))))
        (pss_cons (ps_set (i := 17) scLaw.nd rfl (.inl rfl) (pe_lst (pa_cons ?m1 pa_nil)))
        (pss_cons (ps_expr (pe_bm PySem.F.plainAttrs_list PySem.F.slot_list_append PySem.F.type_list_append mt_append (pv 17) (pa_cons ?m2 pa_nil)))
        (pss_cons (ps_set (i := 18) scLaw.nd rfl (.inl rfl) (pe_lst (pa_cons ?h1 pa_nil)))
        (pss_cons (ps_expr (pe_bm PySem.F.plainAttrs_list PySem.F.slot_list_append PySem.F.type_list_append mt_append (pv 18) (pa_cons ?h2 pa_nil)))
        (pss_one (ps_if (PW.pt (pw_or (pt_not (pt_val (pe_call (GE 10) (hr.mono (by decide)) (by rfl) gE kE bE .nil pass0 (pa_cons (pv 17) (pa_cons (pe_lst (pa_cons (pe_tup (pa_cons pe_str (pa_cons (pv 15) pa_nil))) (pa_cons (pe_tup (pa_cons pe_str (pa_cons (pv 16) pa_nil))) pa_nil))) pa_nil))))) (pw_or1 (pt_not (pt_val (pe_call (GE 10) (hr.mono (by decide)) (by rfl) gE kE bE .nil pass0 (pa_cons (pv 18) (pa_cons (pe_op op_rep (pe_lst (pa_cons (pe_tup (pa_cons (pe_lst (pa_cons pe_non (pa_cons pe_str pa_nil))) pa_nil)) pa_nil)) pe_int) pa_nil)))))))) (pss_one (ps_ret pe_bl)) pss_nil))))))))))))))
      (pss_one (ps_ret pe_bl)))), ?rd⟩
    case m1 =>
      exact Lm.pe_lamT (Pre := fun _ => True) (qs := [qlI]) (P := T) (lv := 8) (Ng := ["ask", "e"]) (t := fun E => tCallS (spRFlt C CL CG) (WE fun cls d _ H => E cls d H) (tCons (tVar 6) (tCons (tVar 15) (tCons (tVar 16) (tCons (tVar 7) tNil))))) (by rfl) gM kM lkM hcM bM scMet rfl (.inl rfl) (met_gives T1 T2) (fun pins σ H s I _ => ⟨TB.code.keeps I.bk, TB.bm.keeps I.bk, TB.gP⟩) rfl (fun H H1 Y ⟨ps, hP⟩ g hY t => Lm.tabD_one hP g hY t) (hr.mono (by decide)) (LamX.lamS_by (sc := defScope sLaw) (by decide +kernel)) rfl (fun _ _ _ _ _ => rfl)
        (fun A outer s H E f c' hr8 => pe_callS GT hr8 (by rfl) gT kT bT (fun σ => passAt (takes_of rfl rfl rfl rfl) σ) (pa_cons (pv 6) (pa_cons (pv 15) (pa_cons (pv 16) (pa_cons (pv 7) pa_nil)))))
    case m2 =>
      exact Lm.pe_lamT (Pre := fun _ => True) (qs := [qlI]) (P := T) (lv := 8) (Ng := ["ask", "e"]) (t := fun E => tCallS (spRFlt C CL CG) (WE fun cls d _ H => E cls d H) (tCons (tVar 6) (tCons (tVar 8) (tCons (tVar 16) (tCons (tC (.int 5)) tNil))))) (by rfl) gM kM lkM hcM bM scMet rfl (.inl rfl) (met_gives T1 T2) (fun pins σ H s I _ => ⟨TB.code.keeps I.bk, TB.bm.keeps I.bk, TB.gP⟩) rfl (fun H H1 Y ⟨ps, hP⟩ g hY t => Lm.tabD_one hP g hY t) (hr.mono (by decide)) (LamX.lamS_by (sc := defScope sLaw) (by decide +kernel)) rfl (fun _ _ _ _ _ => rfl)
        (fun A outer s H E f c' hr8 => pe_callS GT hr8 (by rfl) gT kT bT (fun σ => passAt (takes_of rfl rfl rfl rfl) σ) (pa_cons (pv 6) (pa_cons (pv 8) (pa_cons (pv 16) (pa_cons pe_int pa_nil)))))
    case h1 =>
      refine Lm.pe_lamP (Pre := fun _ => True) (qs := [qlI]) (P := T) (lv := 10) (j := 12) (Ng := ["ask", "thing", "found"]) (b := "one")
          (tb := fun c2 P2 => Lm.tLamT mg (fun H => H c2 = some (Lm.CodeT c2 qlO P2) ∧ Lm.Good mg P2) P2 qlI [] (TMet K (metCs CL CG)) fun E => tCallS (spRFlt C CL CG) (WE fun cls d _ H => E cls d H) (tCons (tVar 6) (tCons (tVar 12) (tCons (tVar 16) (tCons (tVar 7) tNil)))))
          (by rfl) gH kH lkH hcH bH scHeld rfl (.inl rfl) held_gives (fun pins σ H s I _ => ⟨TB.code.keeps I.bk, TB.bm.keeps I.bk, TB.gP⟩) rfl (fun H H1 Y ⟨ps, hP⟩ g hY t => Lm.tabD_one hP g hY t) (hr.mono (by decide)) (Lm.lamP_by (sc := defScope sLaw) (by decide +kernel)) rfl scLaw.nd (fun _ _ => rfl) (fun _ => rfl) rfl (fun _ _ _ _ _ _ => rfl)
          ?mi
      intro A outer s H f c2 P2 hr10
      refine Lm.pe_lamT (Pre := fun H => H c2 = some (Lm.CodeT c2 qlO P2) ∧ Lm.Good mg P2) (qs := []) (P := P2) (TT := TMet K (metCs CL CG)) (t := fun E => tCallS (spRFlt C CL CG) (WE fun cls d _ H => E cls d H) (tCons (tVar 6) (tCons (tVar 12) (tCons (tVar 16) (tCons (tVar 7) tNil))))) (lv := 8) (Ng := ["ask", "e"]) (by rfl) gM kM lkM hcM bM scMet rfl (.inl rfl) (met_gives T1 T2) (fun pins σ H s I z => ⟨codeT_hd (I.hok c2 _ z.1), builtins_at (TB.bm.keeps I.bk) z.2, z.2.1⟩) rfl (fun H H1 Y _ g hY t => True.intro) hr10 (LamX.lamS_by ?l1) rfl (fun _ _ _ _ _ => rfl) ?l2
      · rfl
      · intro A outer s H E f c' hr8
        exact pe_callS GT hr8 (by rfl) gT kT bT (fun σ => passAt (takes_of rfl rfl rfl rfl) σ) (pa_cons (pv 6) (pa_cons (pv 12) (pa_cons (pv 16) (pa_cons (pv 7) pa_nil))))
    case h2 =>
      refine Lm.pe_lamP (Pre := fun _ => True) (qs := [qlI]) (P := T) (lv := 10) (j := 12) (Ng := ["ask", "thing", "found"]) (b := "one")
          (tb := fun c2 P2 => Lm.tLamT mg (fun H => H c2 = some (Lm.CodeT c2 qlO P2) ∧ Lm.Good mg P2) P2 qlI [] (TMet K (metCs CL CG)) fun E => tCallS (spRFlt C CL CG) (WE fun cls d _ H => E cls d H) (tCons (tVar 6) (tCons (tVar 8) (tCons (tVar 12) (tCons (tVar 7) tNil)))))
          (by rfl) gH kH lkH hcH bH scHeld rfl (.inl rfl) held_gives (fun pins σ H s I _ => ⟨TB.code.keeps I.bk, TB.bm.keeps I.bk, TB.gP⟩) rfl (fun H H1 Y ⟨ps, hP⟩ g hY t => Lm.tabD_one hP g hY t) (hr.mono (by decide)) (Lm.lamP_by (sc := defScope sLaw) (by decide +kernel)) rfl scLaw.nd (fun _ _ => rfl) (fun _ => rfl) rfl (fun _ _ _ _ _ _ => rfl)
          ?mi2
      intro A outer s H f c2 P2 hr10
      refine Lm.pe_lamT (Pre := fun H => H c2 = some (Lm.CodeT c2 qlO P2) ∧ Lm.Good mg P2) (qs := []) (P := P2) (TT := TMet K (metCs CL CG)) (t := fun E => tCallS (spRFlt C CL CG) (WE fun cls d _ H => E cls d H) (tCons (tVar 6) (tCons (tVar 8) (tCons (tVar 12) (tCons (tVar 7) tNil))))) (lv := 8) (Ng := ["ask", "e"]) (by rfl) gM kM lkM hcM bM scMet rfl (.inl rfl) (met_gives T1 T2) (fun pins σ H s I z => ⟨codeT_hd (I.hok c2 _ z.1), builtins_at (TB.bm.keeps I.bk) z.2, z.2.1⟩) rfl (fun H H1 Y _ g hY t => True.intro) hr10 (LamX.lamS_by ?l12) rfl (fun _ _ _ _ _ => rfl) ?l22
      · rfl
      · intro A outer s H E f c' hr8
        exact pe_callS GT hr8 (by rfl) gT kT bT (fun σ => passAt (takes_of rfl rfl rfl rfl) σ) (pa_cons (pv 6) (pa_cons (pv 8) (pa_cons (pv 12) (pa_cons (pv 7) pa_nil))))
    case rd =>
      refine ⟨_, rfl, a, ns, rfl, hq, hl, fun p c H1 hp0 hc0 e1 hS1 => ?_⟩
      have hT1 : Lm.TabD mg qlS H1 T := Lm.tabD_nil (e1 _ _ hT)
      refine ⟨_, rfl, by decide, by decide, ?_⟩
      refine for_range (lo := 0) (n := 5) (fun i σ H2 => ∃ v2 v3 v4 v5 v6 v7 v8 v9 v10 v11 v12 v13 v14 v15 v16 v17 v18, σ = [some (.ref a), some (.ref p), v2, v3, v4, v5, v6, v7, v8, v9, v10, v11, v12, v13, v14, v15, v16, v17, v18] ∧ StrAt H2 p c (i * 8000) ∧ Lm.TabD mg qlS H2 T) ⟨none, none, none, none, none, none, none, none, none, none, none, none, none, none, none, none, none, rfl, hS1, hT1⟩ ?_ ?_
      · rintro i σ H2 hi ⟨v2, v3, v4, v5, v6, v7, v8, v9, v10, v11, v12, v13, v14, v15, v16, v17, v18, rfl, hS2, hT2⟩
        have M2 : Wd mg T p c H2 (i * 8000) H2 := .start hS2 hT2
        refine ⟨_, rfl, p, c, _, 8, rfl, hS2, by omega, by decide, by decide, fun t a_ b_ hs0 qs H3 ht ha hb hq0 ht3 ha3 hb3 hP Tr0 hne h8 hgood hql kp3 s3 => ?_⟩
        have N3 := (M2.kp kp3 s3).now
        have nw : ∀ {b : Addr}, H2 b = none → b ≠ p ∧ b ≠ c ∧ b ≠ T := fun h => M2.ne h
        have ga := wo_at ha3 (nw ha).1 (nw ha).2.1 (nw ha).2.2
        have gb := wo_at hb3 (nw hb).1 (nw hb).2.1 (nw hb).2.2
        have gP : PrsAt (wo p c T H3) qs := fun u hu => wo_at (hP u hu) (nw (hq0 u hu)).1 (nw (hq0 u hu)).2.1 (nw (hq0 u hu)).2.2
        refine ⟨_, rfl, t, _, rfl, SqT.of ht3, rfl, _, _, rfl, _, _, rfl, rfl, ?_⟩
        refine ⟨_, rfl, _, rfl, p, c, t, a_, b_, _, hs0, qs, rfl, N3.str, by omega, ht3, ha3, hb3, (nw hb).1, (nw hb).2.1, hP, Tr0, hne, by omega, by omega, hgood, fun v hs ps m H4 hv Vh hfr hperm hsort hps hpw Tr kp4 s4 => ?_⟩
        have M4 := N3.kp kp4 s4
        have Vh4 := Vh.kept (p := p) (c := c) (T := T) hfr (fun b h => N3.ne h) (N3.ne hv)
        have ga4 := M4.k _ _ ga
        have gb4 := M4.k _ _ gb
        have gP4 : PrsAt (wo p c T H4) qs := gP.ex M4.k
        have M4 := M4.now
        clear hfr Vh ha hb hq0 ht3 ha3 hb3 hP ga gb gP nw N3 M2 kp3 s3 kp4 s4 ht
        obtain ⟨fr, way, W⟩ := Tr.ways
        have hadj := adj_perm hps
        have W0' : Ways hs (qs.map (·.2)) fr way := Ways.turn W (fun x => Iff.rfl) hadj
        have T0 : Tree hs (qs.map (·.2)) := Tr0.perm hperm (List.Perm.refl _)
        have hl0 : hs0.length = hs.length := hperm.length_eq.symm
        have hgd : ∀ h ∈ hs, h ∈ names12 := fun h hh => hgood h (hperm.mem_iff.mp hh)
        have hord := ord_all hps
        have psl : ps.length + 1 = hs.length := by
          have := hps.length_eq
          rw [List.length_map, List.length_map] at this
          omega
        have pl : ps.length ≤ 30 := by omega
        have hpg : ∀ q ∈ ps, q.1 ≠ q.2 ∧ q.1 ∈ names12 ∧ q.2 ∈ names12 := fun q hq => by
          obtain ⟨m1, m2⟩ := Tr.mem (.inl (show (q.1, q.2) ∈ ps from hq))
          exact ⟨fun z => Tr.irr (x := q.1) (.inl (by
            have hq : (q.1, q.2) ∈ ps := hq
            rw [← z] at hq
            exact hq)), hgd _ m1, hgd _ m2⟩
        -- the row
        refine ⟨_, rfl, _, rfl, p, c, a_, _, 10, hs0, rfl, M4.str, by omega, by decide, by decide, wo_to _ _ ga4, hne, by omega, fun rw_ rs H5 hrw hrw5 rne r10 rin kp5 s5 => ?_⟩
        have nrw := M4.ne hrw
        have M5 := M4.kp kp5 s5
        have gr5 := wo_at hrw5 nrw.1 nrw.2.1 nrw.2.2
        refine ⟨by show 2 ≤ sizeLine; decide, fun t5 ht5 => ⟨t5, _, rfl, SqT.of upd_same, rfl, _, _, rfl, _, _, rfl, rfl, ?_⟩⟩
        have x5 := Evl.Ex.new (o := .tup [V.ref v, .ref rw_]) ht5
        have M5 := M5.ex x5
        have gr5 := wo_ex x5 _ _ gr5
        clear x5 ht5 hrw hrw5 nrw kp5 s5
        generalize upd H5 t5 (.tup [V.ref v, .ref rw_]) = H5 at M5 gr5 ⊢
        obtain ⟨r0, rt, rfl⟩ : ∃ r0 rt, rs = r0 :: rt := by
          cases rs with
          | nil => exact absurd rfl rne
          | cons r0 rt => exact ⟨r0, rt, rfl⟩
        have rin1 : ∀ r ∈ r0 :: rt, r ∈ hs := fun r hr => hperm.mem_iff.mpr (rin r hr)
        -- its letters, its ledger
        refine ⟨_, rfl, _, rfl, a_, rw_, hs0, r0 :: rt, rfl, M5.get ga4, wo_to _ _ gr5, Tr0.nd, by omega, fun la ys H6 x6 hla hla6 hys hsr => ?_⟩
        obtain rfl : ys = hs := sortedS_one hsr hsort (hys.trans hperm.symm)
        have nla := M5.ne hla
        have M6 := M5.ex x6
        have gl6 := wo_at hla6 nla.1 nla.2.1 nla.2.2
        have gr6 := wo_ex x6 _ _ gr5
        refine ⟨_, rfl, _, rfl, b_, rw_, qs, ys, ps, r0, rt, fr, way, rfl, M6.get gb4, (gP4.ex M6.k).ex wo_to, T0, W0', by omega, by omega, hgd, wo_to _ _ gr6, rin1, by rw [List.length_cons] at r10; omega, hps, hpw, Tr.np, fun gg H7 x7 hgg hgg7 => ?_⟩
        have ngg := M6.ne hgg
        have M7 := M6.ex x7
        have gg7 := wo_at hgg7 ngg.1 ngg.2.1 ngg.2.2
        refine ⟨by show 2 ≤ sizeLine; decide, fun t7 ht7 => ⟨t7, _, rfl, SqT.of upd_same, rfl, _, _, rfl, _, _, rfl, rfl, ?_⟩⟩
        have y7 := Evl.Ex.new (o := .tup [V.ref la, .ref gg]) ht7
        have M7 := M7.ex y7
        have gl7 := wo_ex (x7.trans y7) _ _ gl6
        have gr7 := wo_ex (x7.trans y7) _ _ gr6
        have gg7 := wo_ex y7 _ _ gg7
        clear x6 x7 y7 ht7 hla hla6 nla hgg hgg7 ngg M5 M6 gr5 gl6 gr6
        generalize upd H7 t7 (.tup [V.ref la, .ref gg]) = H7 at M7 gl7 gr7 gg7 ⊢
        -- near to it
        have qirr : ∀ t ∈ qs, t.2.1 ≠ t.2.2 := fun t ht z => by
          have hm : (t.2.1, t.2.2) ∈ qs.map (·.2) := List.mem_map.mpr ⟨t, ht, rfl⟩
          rw [z] at hm
          exact T0.irr (.inl hm)
        refine ⟨_, rfl, _, rfl, b_, qs, ps, rfl, M7.get gb4, (gP4.ex M7.k).ex wo_to, qirr, by omega, hps, hpw, fun ka zs H8 hka x8 hka8 hz8 hze => ?_⟩
        have nka := M7.ne hka
        have M8 := M7.ex x8
        have gg8 := wo_ex x8 _ _ gg7
        refine ⟨_, rfl, gg, _, rfl, wo_to _ _ gg8, fun vl hvl => ?_⟩
        have nvl := M8.ne hvl
        have zl : zs.length = ps.length := by rw [← hze, List.length_map]
        have y8 := Evl.Ex.new (o := .lst ((tabP ps (ledV (stp (walkL way (r0 :: rt))))).map (·.2))) hvl
        have vlE : (tabP ps (ledV (stp (walkL way (r0 :: rt))))).map (·.2) = natV (ps.map fun q => (stp (walkL way (r0 :: rt))).count q) := by
          unfold tabP natV
          rw [List.map_map, List.map_map]
          rfl
        refine ⟨p, c, ka, vl, _, zs, ps.map fun q => (stp (walkL way (r0 :: rt))).count q, rfl, (M8.ex y8).str, by omega, y8 _ _ hka8, nka.1, nka.2.1, hz8.ex y8, by rw [upd_same, vlE], nvl.1, nvl.2.1, by rw [List.length_map]; exact zl, by omega, by rw [hze]; exact Tr.np, fun na kn H9 Ln hna hna9 kp9 s9 => ?_⟩
        rw [hze] at Ln
        have nna := (M8.ex y8).ne hna
        have M9 := (M8.ex y8).kp kp9 s9
        have gn9 := wo_at hna9 nna.1 nna.2.1 nna.2.2
        have w79 : Evl.Ex (wo p c T H7) (wo p c T H9) := ((wo_ex x8).trans (wo_ex y8)).trans (wo_kp kp9)
        have gl9 := w79 _ _ gl7
        have gr9 := w79 _ _ gr7
        have gg9 := w79 _ _ gg7
        have ga9 := M9.k _ _ ga4
        have gb9 := M9.k _ _ gb4
        have gP9 : PrsAt (wo p c T H9) qs := gP4.ex M9.k
        have Vh9 := Vh4.ex M9.k
        have N9 := M9.now
        clear M7 M8 M9 M4 x8 y8 hka hka8 hz8 nka hvl nvl hna hna9 nna kp9 s9 w79 gl7 gr7 gg7 gg8 ga4 gb4 gP4 Vh4 vlE zl hze
        -- the letters, the ledgers as tables
        have LK : LedK ys (tab ys (cntV (r0 :: rt))) := by
          refine ⟨⟨ys, .refl _, ?_⟩, fun q hq => ?_⟩
          · unfold tab
            rw [List.map_map]
            rfl
          · obtain ⟨z, _, rfl⟩ := List.mem_map.mp hq
            exact ⟨_, rfl⟩
        have hLet : isLet ys (some (tab ys (cntV (r0 :: rt)))) = true := LK.let_ ⟨(Sum.inr r0, cntV (r0 :: rt) r0), List.mem_map.mpr ⟨r0, rin1 r0 List.mem_cons_self, rfl⟩, by
          show decide (0 < (((r0 :: rt).count r0 : Nat) : Int)) = true
          rw [List.count_cons_self]
          exact decide_eq_true (by omega)⟩
        have LG : Led ps (tabP ps (ledV (stp (walkL way (r0 :: rt))))) := by
          refine ⟨⟨ps, .refl _, ?_⟩, fun q hq => ?_⟩
          · unfold tabP
            rw [List.map_map]
            rfl
          · obtain ⟨z, _, rfl⟩ := List.mem_map.mp hq
            exact ⟨_, rfl⟩
        obtain ⟨kl, hkl⟩ : ∃ kl, kl = tab ys (cntV (r0 :: rt)) := ⟨_, rfl⟩
        rw [← hkl] at LK hLet gl9
        obtain ⟨kg0, hkg0⟩ : ∃ kg0, kg0 = tabP ps (ledV (stp (walkL way (r0 :: rt)))) := ⟨_, rfl⟩
        rw [← hkg0] at LG gg9
        clear hkl hkg0
        have hsne : ys ≠ [] := fun z => by rw [z] at hl0; exact hne (List.length_eq_zero_iff.mp hl0)
        -- the things
        obtain ⟨h0, ht, rfl⟩ : ∃ h0 ht, hs0 = h0 :: ht := by
          cases hs0 with
          | nil => exact absurd rfl hne
          | cons h0 ht => exact ⟨h0, ht, rfl⟩
        refine ⟨_, rfl, _, rfl, _, rfl, p, c, a_, rw_, _, h0, ht, r0 :: rt, rfl, N9.str, by omega, wo_to _ _ ga9, by omega, wo_to _ _ gr9, by simp, by omega, fun tq xs H10 htq htq10 hxl hth kp10 s10 => ?_⟩
        have ntq := N9.ne htq
        have M10 := N9.kp kp10 s10
        have gq10 := wo_at htq10 ntq.1 ntq.2.1 ntq.2.2
        have hth : ∀ x ∈ xs, ThR (wo p c T H10) x := fun x hx => (hth x hx).exN (ho_wot M10.pt)
        have gl10 := M10.k _ _ gl9
        have gr10 := M10.k _ _ gr9
        have gg10 := M10.k _ _ gg9
        have gn10 := M10.k _ _ gn9
        have ga10 := M10.k _ _ ga9
        have gb10 := M10.k _ _ gb9
        have gP10 : PrsAt (wo p c T H10) qs := gP9.ex M10.k
        have Vh10 := Vh9.ex M10.k
        have N10 := M10.now
        have N10 : Wd mg T p c H10 (i * 8000 + 800) H10 := ⟨N10.str.mono (by omega), N10.tab, N10.k⟩
        clear N9 M10 htq htq10 ntq kp10 s10 gl9 gr9 gg9 gn9 ga9 gb9 gP9 Vh9
        refine ⟨tq, rfl, ⟨_, SqL.of (wo_to _ _ gq10)⟩, ?_⟩
        refine for_it (walk_list (xs := xs)) (fun i2 σ H' => ∃ v11 v12 v13 v14, σ = [some (.ref a), some (.ref p), some (.int (0 + (i : Int))), some (.ref t), some (.ref a_), some (.ref b_), some (.ref v), some (.ref rw_), some (.ref la), some (.ref gg), some (.ref na), v11, v12, v13, v14, v15, v16, v17, v18] ∧ Wd mg T p c H10 (i * 8000 + 800 + i2 * 200) H') ⟨_, _, _, _, rfl, N10⟩ ?_ ?_ ?_
        · rintro i2 σ H' _ ⟨_, _, _, _, rfl, M⟩
          exact SqL.of (M.get gq10)
        · rintro i2 y σ H11 H12 hi2 ⟨v11', v12', v13', v14', rfl, M⟩ ⟨rfl, hy⟩
          obtain ⟨o, hrx, h100⟩ := hth y (List.mem_of_getElem? hy)
          refine ⟨_, rfl, _, rfl, by show 2 ≤ sizeLine; decide, fun t2 ht2 => ⟨t2, rfl, ⟨_, SqT.of upd_same⟩, ?_⟩⟩
          have y2 := Evl.Ex.new (o := .tup [V.ref gg, .ref na]) ht2
          have nt2 := M.ne ht2
          have M := M.ex y2
          have t2' : wo p c T (upd H12 t2 (.tup [V.ref gg, .ref na])) t2 = some (.tup [V.ref gg, .ref na]) := wo_at upd_same nt2.1 nt2.2.1 nt2.2.2
          clear y2 ht2 nt2
          generalize upd H12 t2 (.tup [V.ref gg, .ref na]) = H13 at M t2' ⊢
          have rx13 := hrx.ex M.k
          have gl13 := M.k _ _ gl10
          have gg13 := M.k _ _ gg10
          have gn13 := M.k _ _ gn10
          have ga13 := M.k _ _ ga10
          have gb13 := M.k _ _ gb10
          have gP13 : PrsAt (wo p c T H13) qs := gP10.ex M.k
          have Vh13 := Vh10.ex M.k
          have Nn := M.now
          have hxi : i2 ≤ 30 := by omega
          refine for_it (walk_tup (xs := [V.ref gg, .ref na])) (fun i3 σ H' => ∃ v12 v13 v14, σ = [some (.ref a), some (.ref p), some (.int (0 + (i : Int))), some (.ref t), some (.ref a_), some (.ref b_), some (.ref v), some (.ref rw_), some (.ref la), some (.ref gg), some (.ref na), some y, v12, v13, v14, v15, v16, v17, v18] ∧ Wd mg T p c H13 (i * 8000 + 800 + i2 * 200 + i3 * 90) H') ⟨_, _, _, rfl, Nn⟩ ?_ ?_ ?_
          · rintro i3 σ H' _ ⟨_, _, _, rfl, M⟩
            exact SqT.of (M.get t2')
          · rintro i3 y2 σ H14 H15 hi3 ⟨v12, v13, v14, rfl, M⟩ ⟨rfl, hy2⟩
            have hi3 : i3 < 2 := hi3
            obtain ⟨one, kg, rfl, gone, Lg⟩ : ∃ one kg, y2 = .ref one ∧ wo p c T H13 one = some (.dT kg) ∧ Led ps kg := by
              match i3, hy2 with
              | 0, hy2 => exact ⟨gg, kg0, (Option.some.inj hy2).symm, gg13, LG⟩
              | 1, hy2 => exact ⟨na, kn, (Option.some.inj hy2).symm, gn13, Ln⟩
              | j + 2, hy2 => simp at hy2
            refine ⟨_, rfl, _, rfl, _, rfl, _, rfl, _, rfl, a_, b_, la, one, y, o, h0 :: ht, ys, qs, ps, kl, kg, fr, way, rfl, M.get ga13, hperm, hsort, M.get gb13, (gP13.ex M.k).ex wo_to, T0, W0', by omega, by omega, hgd, hps, hpw, Tr.np, fun q hq => (hpg q hq).2, M.get gl13, hLet, M.get gone, Lg.tab, (rx13.ex M.k).ex wo_to, h100, gives_of fun xd H16 x16 fv16 hnew => ?_⟩
            have M16 := M.ex x16
            have fvw : FV (wo p c T H16) (faultO way ys ps (lcnt kl) (gcnt kg) o) xd := by
              revert fv16 hnew
              cases faultO way ys ps (lcnt kl) (gcnt kg) o with
              | none => exact fun h _ => h
              | some l =>
                rintro ⟨t9, rfl, h9⟩ hnew
                have n9 := M.ne (hnew t9 rfl)
                exact ⟨t9, rfl, wo_at h9 n9.1 n9.2.1 n9.2.2⟩
            have knd := LK.nodup Tr.nd
            have gnd := Lg.nodup Tr.np
            refine ⟨_, rfl, _, rfl, _, rfl, p, c, la, _, rfl, M16.str, by omega, .inl ⟨kl, M16.get gl13, by rw [LK.len]; omega, knd, fun d1 kl' H17 hpm1 hd1 hd17 kp17 s17 => ?_⟩⟩
            have M17 := M16.kp kp17 s17
            have nd1 := M16.ne hd1
            have gd17 := wo_at hd17 nd1.1 nd1.2.1 nd1.2.2
            have fv17 := fvw.ex (wo_kp kp17)
            refine ⟨_, rfl, _, rfl, p, c, one, _, rfl, M17.str, by omega, .inr ⟨kg, M17.get gone, by rw [Lg.len]; omega, gnd, fun d2 kg' H18 hpm2 hd2 hd18 kp18 s18 => ?_⟩⟩
            have M18 := M17.kp kp18 s18
            have gd18 := wo_kp kp18 _ _ gd17
            have fv18 := fv17.ex (wo_kp kp18)
            have LK' := LK.perm hpm1
            have Lg' := Lg.perm hpm2
            have hLet' : isLet ys (some kl') = true := by
              obtain ⟨q9, hq9, e9⟩ : ∃ q ∈ kl, posV q.2 = true := by
                have h1 : (isTab ys (some kl) && kl.any fun p => posV p.2) = true := hLet
                rw [Bool.and_eq_true] at h1
                exact List.any_eq_true.mp h1.2
              exact LK'.let_ ⟨q9, hpm1.mem_iff.mpr hq9, e9⟩
            refine ⟨_, rfl, v, .ref d1, .ref d2, y, some kl', some kg', o, ys, ps, m, fr, way, rfl, (Vh13.ex M18.k).ex wo_to, Tr, W, by omega, hord, pl, LK'.dx (by omega) (wo_to _ _ gd18), Lg'.dxt pl hd18, (rx13.ex M18.k).ex wo_to, h100, fun kl2 kg2 e1 e2 _ _ => ?_, fun h9 => absurd hLet' (by rw [h9]; decide), fun _ h9 => absurd Lg'.tab (by rw [h9]; decide)⟩
            obtain rfl := Option.some.inj e1
            obtain rfl := Option.some.inj e2
            rw [lcnt_perm hpm1 knd, gcnt_perm hpm2 gnd]
            refine gives_of fun xt H19 x19 fvt _ => ?_
            have M19 := M18.ex x19
            have fv19 := (fv18.ex (wo_ex x19)).ex wo_to
            refine ⟨_, rfl, by show 1 ≤ sizeLine; decide, fun l1 hl1 => ⟨_, rfl, by show 1 ≤ sizeLine; decide, fun l2 hl2 => ?_⟩⟩
            have z1 := Evl.Ex.new (o := .lst [xt]) hl1
            have z2 := Evl.Ex.new (o := .lst [xd]) hl2
            refine ⟨_, _, rfl, .inr (.inl ⟨l1, l2, _, _, rfl, rfl, z2 _ _ upd_same, upd_same, by show 1 ≤ 1000; decide, .cons (fv_sm fault_flat (fvt.ex (z1.trans z2)) (fv19.ex (z1.trans z2))) .nil⟩), fun H20 x20 => ⟨_, rfl, iteF ?_⟩⟩
            have M20 := M19.ex ((z1.trans z2).trans x20)
            exact ⟨_, _, _, rfl, ⟨M20.str.mono (by omega), M20.tab, M20.k⟩⟩
          · rintro σ H14 ⟨v12, v13, v14, rfl, M14⟩
            have hb2 : [V.ref gg, .ref na].length = 2 := rfl
            rw [hb2] at M14
            exact ⟨_, _, _, _, rfl, ⟨M14.str.mono (by omega), M14.tab, M.k.trans M14.k⟩⟩
        · rintro σ H11 ⟨v11', v12', v13', v14', rfl, M⟩
          have M : Wd mg T p c H10 (i * 8000 + 7000) H11 := ⟨M.str.mono (by omega), M.tab, M.k⟩
          have vil11 := Vh10.ex M.k
          have gl11 := M.k _ _ gl10
          have gr11 := M.k _ _ gr10
          have gg11 := M.k _ _ gg10
          have M := M.now
          refine ⟨_, rfl, _, rfl, p, c, la, _, ys, kl, rfl, M.str, by omega, wo_to _ _ gl11, LK, Tr.nd, hsne, by omega, hgd, fun bad H12 hbad kp12 s12 => ?_⟩
          have M12 := M.kp kp12 s12
          have hbad := hbad.exN (ho_wot M12.pt)
          refine ⟨_, rfl, _, rfl, p, c, gg, _, ps, kg0, rfl, M12.str, by omega, M12.get gg11, LG, Tr.np, pl, hord, hpg, fun odd H13 hodd kp13 s13 => ?_⟩
          have M13 := M12.kp kp13 s13
          have hodd := hodd.exN (ho_wot M13.pt)
          have hbad := hbad.ex (wo_kp kp13)
          have F13 : Fs C v ys ps m bad odd la kl rw_ (r0 :: rt) H13 := ⟨(vil11.ex M13.k).ex wo_to, hbad.ex wo_to, hodd.ex wo_to, M13.get gl11, M13.get gr11⟩
          have W13 : Wn mg T p c H13 (i * 8000 + 7100) H13 := ⟨M13.str.mono (by omega), M13.tab, fun _ _ h _ => h⟩
          clear M M12 M13 hbad hodd kp12 s12 kp13 s13 vil11 gl11 gr11 gg11 Vh10 gP10 gb10 ga10 gn10 gg10 gr10 gl10 gq10 N10 hth
          refine ⟨by show 2 ≤ sizeLine; decide, fun t14 ht14 => ⟨t14, _, rfl, SqT.of upd_same, rfl, _, _, rfl, _, _, rfl, rfl, ?_⟩⟩
          have y14 := Evl.Ex.new (o := .tup [bad, odd]) ht14
          have W14 := (W13.ex y14).now
          have F14 := F13.exN (.of y14)
          clear y14 ht14 W13 F13
          generalize upd H13 t14 (.tup [bad, odd]) = H14 at W14 F14 ⊢
          have rl : (r0 :: rt).length ≤ 100 := by omega
          have bnd : ∀ xs, some ((r0 :: rt).map V.str) = some xs → xs.length ≤ 100 := fun xs e => by
            injection e with e
            rw [← e, List.length_map]
            exact rl
          -- what is told of what is no letters
          refine ⟨trivial, W14.tab, fun H15 g15 T15 => ?_⟩
          have W15 := (W14.grow g15 T15).now
          have F15 := F14.exN (.grow W14.pt g15)
          clear W14 F14 g15 T15
          obtain ⟨oL, dl, fl, sl⟩ := F15.bad
          obtain ⟨oG, dg, fg, sg⟩ := F15.odd
          refine ⟨_, rfl, _, rfl, _, rfl, _, rfl, v, bad, odd, .ref rw_, oL, oG, _, ys, ps, m, fr, way, rfl, F15.vil, Tr, W, by omega, hord, pl, dl, dg, rx_strs F15.row (by omega), bnd, fun _ _ _ _ h9 => absurd h9 (by rw [fl]; decide), fun _ H' d e hd => ?_, fun h9 => absurd h9 (by rw [fl]; decide)⟩
          refine metL T1 (H1 := H15) (fun H16 q1 e16 hq1 hq16 => ?_) e hd
          have F16 := F15.exN (.of e16)
          have W16 := W15.ex e16
          refine ⟨by show 1 ≤ sizeLine; decide, fun fo hfo => ?_⟩
          have yf := Evl.Ex.new (o := .lst [V.ref q1]) hfo
          have Wb := W16.now
          have W17 := Wb.ex yf
          have nfo := W16.str.ne hfo
          have fo17 : upd H16 fo (.lst [V.ref q1]) fo = some (.lst [V.ref q1]) := upd_same
          clear yf Wb W16 F15 W15 hq1 e16 dl fl sl dg fg sg hd e
          generalize upd H16 fo (.lst [V.ref q1]) = H17 at W17 fo17 ⊢
          -- what is told of what is no ledger
          refine ⟨_, rfl, .inl ⟨rfl, _, SqL.of fo17⟩, trivial, W17.tab, fun H18 g18 T18 => ?_⟩
          have W18 := W17.grow g18 T18
          have F18 := F16.exN W18.e
          have fo18 := (ExN.grow W17.pt g18) _ _ fo17 (fun _ z => by cases z)
          clear W17 g18 T18 fo17
          obtain ⟨oG, dg, fg, sg⟩ := F18.odd
          refine ⟨_, rfl, _, rfl, _, rfl, v, .ref la, odd, .int 5, some kl, oG, none, ys, ps, m, fr, way, rfl, F18.vil, Tr, W, by omega, hord, pl, LK.dx (by omega) F18.la, dg, .not (.int 5) rfl, (fun xs e => by cases e), fun _ _ _ _ _ h9 => absurd h9 (by rw [fg]; decide), fun h9 => absurd hLet (by rw [h9]; decide), fun _ _ H' d e hd => ?_⟩
          refine metG T2 hno (H1 := H18) (fun H19 q2 e19 hq2 hq19 => ?_) e hd
          have W19 := W18.ex e19
          have fo19 := e19 _ _ fo18
          refine ⟨fo, _, .ref q2, rfl, rfl, fo19, by show 1 < sizeLine; decide, ?_⟩
          have foq2 : q2 ≠ fo := fun z => by rw [z, fo19] at hq19; cases hq19
          have W20 := W19.mut (ys := [V.ref q1] ++ [V.ref q2]) fo19 nfo.1 nfo.2 hfo
          have fo20 : upd H19 fo (.lst ([V.ref q1] ++ [V.ref q2])) fo = some (.lst [V.ref q1, .ref q2]) := upd_same
          have q220 : upd H19 fo (.lst ([V.ref q1] ++ [V.ref q2])) q2 = some (.tup [.str "ledger", odd]) := by rw [upd_ne foq2]; exact hq19
          have F20 := F16.exN W20.e
          have q120 := W20.e _ _ hq16 (fun _ z => by cases z)
          have W20 := W20.now
          clear W18 W19 F18 F16 dg fg sg hd e e19 hq2 hq19 fo18 fo19 foq2 hq16 hfo nfo
          generalize upd H19 fo (.lst ([V.ref q1] ++ [V.ref q2])) = H20 at W20 F20 fo20 q220 q120 ⊢
          -- what is held: the letters
          refine ⟨trivial, W20.tab, fun H21 c2 P2 g21 T21 hP2 T22 hg2 hc2 => ?_⟩
          have W21 := W20.grow g21 T21
          refine fun th hth R hR => ?_
          have th20 : H20 th = none := by
            cases z : H20 th with
            | none => rfl
            | some o =>
              have hne : th ≠ T := fun w => by
                obtain ⟨ps9, h9⟩ := W21.pt
                rw [w, h9] at hth
                cases hth
              have := g21 th o hne z
              rw [hth] at this
              cases this
          have v1' := Evl.Ex.new (o := .lst [V.non]) hth
          refine ⟨⟨v1' _ _ hc2, hg2⟩, tabD_kl _ T22 (Kl.ex v1'), fun H23 g23 T23 => ?_⟩
          have thP2 : th ≠ P2 := by
            obtain ⟨ps9, h9, _⟩ := id T22
            exact (ne_of_none h9 hth).symm
          obtain ⟨thp, thc⟩ := W21.str.ne hth
          have W23 := (W21.ex v1').grow2 hP2 (tabD_kl _ T22 (Kl.ex v1')) g23 T23
          have hth23 := g23 th _ thP2 upd_same
          have F23 := F20.exN W23.e
          clear W21 g21 T21 T22 hg2 hc2 g23 T23 v1' thP2 hP2 hth
          obtain ⟨oG, dg, fg, sg⟩ := F23.odd
          refine ⟨_, rfl, _, rfl, _, rfl, _, rfl, v, .ref th, odd, .ref rw_, none, oG, _, ys, ps, m, fr, way, rfl, F23.vil, Tr, W, by omega, hord, pl, .not (.lst hth23) rfl, dg, rx_strs F23.row (by omega), bnd, (fun _ _ e1 => by cases e1), fun _ H' d e hd => ?_, (fun h9 => by cases h9)⟩
          refine metL T1 (H1 := H23) (fun H24 r1 e24 hr1 hr24 => ?_) e hd
          have W24 := W23.ex e24
          have hth24 := e24 _ _ hth23
          refine hR _ _ ⟨r1, .str "letters", [.ref th], [.non], rfl, fun z => ?_, hr24, hth24, by decide, fun w1 hw1 => ?_⟩
          · rw [z, hth24] at hr24
            cases hr24
          have W25 := W24.mut (ys := [V.non] ++ [V.str "late"]) hth24 thp thc th20
          have yq := Evl.Ex.new (o := .tup [V.ref th]) hw1
          have W26 := W25.ex yq
          have th26 := yq _ _ (upd_same (H := H24) (a := th) (o := .lst ([V.non] ++ [V.str "late"])))
          have w126 : upd (upd H24 th (.lst ([V.non] ++ [V.str "late"]))) w1 (.tup [V.ref th]) w1 = some (.tup [V.ref th]) := upd_same
          have F26 := F20.exN W26.e
          have fo26 := W26.e _ _ fo20 (fun _ z => by cases z)
          have q126 := W26.e _ _ q120 (fun _ z => by cases z)
          have q226 := W26.e _ _ q220 (fun _ z => by cases z)
          have W26 := W26.now
          clear W20 W23 W24 W25 F20 F23 fo20 q120 q220 dg fg sg hd e e24 hr1 hr24 hth23 hth24 thp thc th20 yq hw1 hR
          generalize upd (upd H24 th (.lst ([V.non] ++ [V.str "late"]))) w1 (.tup [V.ref th]) = H26 at W26 F26 th26 w126 fo26 q126 q226 ⊢
          refine ⟨by show 1 ≤ sizeLine; decide, fun hd_ hhd => ?_⟩
          have yl := Evl.Ex.new (o := .lst [V.ref w1]) hhd
          have W27 := W26.ex yl
          have nhd := W26.str.ne hhd
          have hd27 : upd H26 hd_ (.lst [V.ref w1]) hd_ = some (.lst [V.ref w1]) := upd_same
          generalize upd H26 hd_ (.lst [V.ref w1]) = H27 at W27 hd27 yl ⊢
          -- what is held: the ledger
          refine ⟨_, rfl, .inl ⟨rfl, _, SqL.of hd27⟩, trivial, W27.tab, fun H28 c3 P3 g28 T28 hP3 T29 hg3 hc3 => ?_⟩
          have W28 := W27.grow g28 T28
          have hd28 := (ExN.grow W27.pt g28) _ _ hd27 (fun _ z => by cases z)
          refine fun th2 hth2 R2 hR2 => ?_
          have th226 : H26 th2 = none := by
            cases z : H26 th2 with
            | none => rfl
            | some o =>
              have hne : th2 ≠ T := fun w => by
                obtain ⟨ps9, h9⟩ := W28.pt
                rw [w, h9] at hth2
                cases hth2
              have := g28 th2 o hne (yl _ _ z)
              rw [hth2] at this
              cases this
          have v2' := Evl.Ex.new (o := .lst [V.non]) hth2
          refine ⟨⟨v2' _ _ hc3, hg3⟩, tabD_kl _ T29 (Kl.ex v2'), fun H30 g30 T30 => ?_⟩
          have thP3 : th2 ≠ P3 := by
            obtain ⟨ps9, h9, _⟩ := id T29
            exact (ne_of_none h9 hth2).symm
          obtain ⟨thp2, thc2⟩ := W28.str.ne hth2
          have W30 := (W28.ex v2').grow2 hP3 (tabD_kl _ T29 (Kl.ex v2')) g30 T30
          have hth30 := g30 th2 _ thP3 upd_same
          have P3t : ∃ ps9, upd H28 th2 (.lst [V.non]) P3 = some (.tbl ps9) := by
            obtain ⟨ps9, h9, _⟩ := tabD_kl _ T29 (Kl.ex v2')
            exact ⟨ps9, h9⟩
          have hd30 := (ExN.grow P3t g30) _ _ (v2' _ _ hd28) (fun _ z => by cases z)
          have hdth : hd_ ≠ th2 := ne_of_none hd28 hth2
          have F30 := F26.exN W30.e
          clear W27 W28 g28 T28 T29 hg3 hc3 g30 T30 v2' thP3 hP3 hth2 P3t hd28 hd27
          refine ⟨_, rfl, _, rfl, _, rfl, _, rfl, v, .ref la, .ref th2, .ref rw_, some kl, none, _, ys, ps, m, fr, way, rfl, F30.vil, Tr, W, by omega, hord, pl, LK.dx (by omega) F30.la, .not (.lst hth30) rfl, rx_strs F30.row (by omega), bnd, (fun _ _ _ e1 => by cases e1), fun h9 => absurd hLet (by rw [h9]; decide), fun _ _ H' d e hd => ?_⟩
          refine metG T2 hno (H1 := H30) (fun H31 r2 e31 hr2 hr31 => ?_) e hd
          have W31 := W30.ex e31
          have hth31 := e31 _ _ hth30
          have hd31 := e31 _ _ hd30
          refine hR2 _ _ ⟨r2, .str "ledger", [.ref th2], [.non], rfl, fun z => ?_, hr31, hth31, by decide, fun w2 hw2 => ?_⟩
          · rw [z, hth31] at hr31
            cases hr31
          have W32 := W31.mut (ys := [V.non] ++ [V.str "late"]) hth31 thp2 thc2 th226
          have yq := Evl.Ex.new (o := .tup [V.ref th2]) hw2
          have W33 := W32.ex yq
          have th233 := yq _ _ (upd_same (H := H31) (a := th2) (o := .lst ([V.non] ++ [V.str "late"])))
          have hd32 : upd H31 th2 (.lst ([V.non] ++ [V.str "late"])) hd_ = some (.lst [V.ref w1]) := by rw [upd_ne hdth]; exact hd31
          have hd33 := yq _ _ hd32
          have w233 : upd (upd H31 th2 (.lst ([V.non] ++ [V.str "late"]))) w2 (.tup [V.ref th2]) w2 = some (.tup [V.ref th2]) := upd_same
          have hdw2 : hd_ ≠ w2 := ne_of_none hd32 hw2
          clear W30 W31 W32 F30 hd e e31 hr2 hr31 hth30 hth31 thp2 thc2 th226 yq hw2 hR2 hd30 hd31 hd32
          generalize upd (upd H31 th2 (.lst ([V.non] ++ [V.str "late"]))) w2 (.tup [V.ref th2]) = H33 at W33 th233 hd33 w233 ⊢
          refine ⟨hd_, _, .ref w2, rfl, rfl, hd33, by show 1 < sizeLine; decide, ?_⟩
          have W34 := W33.mut (ys := [V.ref w1] ++ [V.ref w2]) hd33 nhd.1 nhd.2 hhd
          have hd34 : upd H33 hd_ (.lst ([V.ref w1] ++ [V.ref w2])) hd_ = some (.lst [V.ref w1, .ref w2]) := upd_same
          have th234 : upd H33 hd_ (.lst ([V.ref w1] ++ [V.ref w2])) th2 = some (.lst [V.non, .str "late"]) := by rw [upd_ne hdth.symm]; exact th233
          have w234 : upd H33 hd_ (.lst ([V.ref w1] ++ [V.ref w2])) w2 = some (.tup [V.ref th2]) := by rw [upd_ne hdw2.symm]; exact w233
          have F34 := F26.exN W34.e
          have fo34 := W34.e _ _ fo26 (fun _ z => by cases z)
          have q134 := W34.e _ _ q126 (fun _ z => by cases z)
          have q234 := W34.e _ _ q226 (fun _ z => by cases z)
          have th34 := W34.e _ _ th26 (fun _ z => by cases z)
          have w134 := W34.e _ _ w126 (fun _ z => by cases z)
          have W34 := W34.now
          clear W33 W26 F26 fo26 q126 q226 th26 w126 hd33 th233 w233 hdw2 hdth nhd hhd
          generalize upd H33 hd_ (.lst ([V.ref w1] ++ [V.ref w2])) = H34 at W34 hd34 th234 w234 F34 fo34 q134 q234 th34 w134 ⊢
          -- both are as they should be
          refine ⟨_, rfl, _, rfl, by show 2 ≤ sizeLine; decide, fun t1 ht1 => ⟨_, rfl, by show 2 ≤ sizeLine; decide, fun t2 ht2 => ⟨by show 2 ≤ sizeLine; decide, fun l3 hl3 => ?_⟩⟩⟩
          have z1 := Evl.Ex.new (o := .tup [V.str "letters", bad]) ht1
          have z2 := Evl.Ex.new (o := .tup [V.str "ledger", odd]) ht2
          have z3 := Evl.Ex.new (o := .lst [V.ref t1, .ref t2]) hl3
          have zz := (z1.trans z2).trans z3
          obtain ⟨_, _, _, sb⟩ := F34.bad
          obtain ⟨_, _, _, so⟩ := F34.odd
          refine ⟨_, _, rfl, .inr (.inl ⟨fo, l3, _, _, rfl, rfl, zz _ _ fo34, upd_same, by show 2 ≤ 1000; decide, .cons (.inr (.inr (.inl ⟨q1, t1, _, _, rfl, rfl, .inl (zz _ _ q134), (z2.trans z3) _ _ upd_same, by show 2 ≤ 1000; decide, .cons (.inl ⟨rfl, rfl⟩) (.cons (Sm.ex zz _ _ _ sb) .nil)⟩))) (.cons (.inr (.inr (.inl ⟨q2, t2, _, _, rfl, rfl, .inl (zz _ _ q234), z3 _ _ upd_same, by show 2 ≤ 1000; decide, .cons (.inl ⟨rfl, rfl⟩) (.cons (Sm.ex zz _ _ _ so) .nil)⟩))) .nil)⟩), fun H35 x35 => ⟨_, rfl, iteF ?_⟩⟩
          have x35 : Evl.Ex _ H35 := x35
          have zz := zz.trans x35
          have W35 := W34.ex zz
          refine ⟨_, rfl, by show 2 ≤ sizeLine; decide, fun l4 hl4 => ⟨by show 1 ≤ sizeLine; decide, fun t5 ht5 => ⟨by show 1 ≤ sizeLine; decide, fun l6 hl6 => ⟨l6, 2, _, rfl, rfl, upd_same, by decide, by decide, by show 1 * 2 ≤ sizeLine; decide, fun l7 hl7 => ?_⟩⟩⟩⟩
          have z4 := Evl.Ex.new (o := .lst [V.non, .str "late"]) hl4
          have z5 := Evl.Ex.new (o := .tup [V.ref l4]) ht5
          have z6 := Evl.Ex.new (o := .lst [V.ref t5]) hl6
          have z7 := Evl.Ex.new (o := .lst (List.replicate (Int.toNat 2) [V.ref t5]).flatten) hl7
          have z47 := ((z4.trans z5).trans z6).trans z7
          have za := zz.trans z47
          have sl : ∀ {b : Addr}, H34 b = some (.lst [V.non, .str "late"]) → Sm _ 8 (.ref b) (.ref l4) := fun {b} h => .inr (.inl ⟨b, l4, _, _, rfl, rfl, za _ _ h, ((z5.trans z6).trans z7) _ _ upd_same, by show 2 ≤ 1000; decide, .cons (.inl ⟨rfl, rfl⟩) (.cons (.inl ⟨rfl, rfl⟩) .nil)⟩)
          have t5' := (z6.trans z7) _ _ (upd_same (H := upd H35 l4 (.lst [V.non, .str "late"])) (a := t5) (o := .tup [V.ref l4]))
          refine ⟨_, _, rfl, .inr (.inl ⟨hd_, l7, _, _, rfl, rfl, za _ _ hd34, upd_same, by show 2 ≤ 1000; decide, .cons (.inr (.inr (.inl ⟨w1, t5, _, _, rfl, rfl, .inl (za _ _ w134), t5', by show 1 ≤ 1000; decide, .cons (sl th34) .nil⟩))) (.cons (.inr (.inr (.inl ⟨w2, t5, _, _, rfl, rfl, .inl (za _ _ w234), t5', by show 1 ≤ 1000; decide, .cons (sl th234) .nil⟩))) .nil)⟩), fun H36 x36 => ⟨_, rfl, iteF ?_⟩⟩
          have W36 := W35.ex (z47.trans x36)
          exact ⟨_, _, _, _, _, _, _, _, _, _, _, _, _, _, _, _, _, rfl, W36.str.mono (by omega), W36.tab⟩
      · rintro σ H2 ⟨v2, v3, v4, v5, v6, v7, v8, v9, v10, v11, v12, v13, v14, v15, v16, v17, v18, rfl, hS2, hT2⟩
        exact k _
end
end K11

namespace Gd
open PySem PySem.Spec PyProof.Rows L2
/-! ### a law's call where nothing is under way -/
/-- what is tracked as the law begins: the tables of code objects, and the script where the written part has it not -/
def H02 (T : List Addr) (free : Bool) (a : Addr) (ob : Obj) (xs : List V) : Hp := fun b => if b ∈ T then some (.tbl #[]) else if b = a ∧ free = true then some (.frz ob (.lst xs)) else none
section
variable {T : List Addr} {free : Bool} {a b : Addr} {ob : Obj} {xs : List V}
theorem h02_tab (h : b ∈ T) : H02 T free a ob xs b = some (.tbl #[]) := if_pos h
theorem h02_cases {u : HO} (h : H02 T free a ob xs b = some u) : (b ∈ T ∧ u = .tbl #[]) ∨ (b ∉ T ∧ b = a ∧ free = true ∧ u = .frz ob (.lst xs)) := by
  unfold H02 at h
  by_cases h1 : b ∈ T
  · rw [if_pos h1] at h
    exact .inl ⟨h1, (Option.some.inj h).symm⟩
  · rw [if_neg h1] at h
    by_cases h2 : b = a ∧ free = true
    · rw [if_pos h2] at h
      exact .inr ⟨h1, h2.1, h2.2, (Option.some.inj h).symm⟩
    · rw [if_neg h2] at h
      cases h
end
theorem top_run2 {P : Program} {w : World} {K : PySem.W.Frag} {mg mb : Str → Option Value} {CX : CXT} {fa a : Addr} {cs : List (Addr × Addr)} {fd : FuncData} {x : Str} {sp : Sp} {st : Shared} {vs : List Value} {ns : List Int}
    (inK : K.In st.heap) (gN : st.heap.Ns mainGlobals mg) (bN : st.heap.Ns builtinsNs mb) (bB : ∀ y : Str, y ≠ "__name__" → mb y = bootBuiltins y) (nl : st.heap.NoLimit) (g0 : st.gens = #[])
    (tabs : ∀ p ∈ cs, st.heap.get? p.2 = some { cls := .none, data := .fields #[] }) (tabK : ∀ p ∈ cs, K.lookup p.2 = none) (codes : ∀ p ∈ cs, PySem.W.CodeHd st.heap p.1 p.2)
    (bm : ∃ (m : Addr) (ob : Obj), mg "__builtins__" = some (.ref m) ∧ m ≠ builtinsNs ∧ st.heap.get? m = some ob ∧ ob.cls = .type "module" ∧ ob.dict = some builtinsNs ∧ ob.data = .plain)
    (ha : st.heap.get? a = some { cls := .type "list", data := .seq vs.toArray }) (hi : IntsAre vs ns) (hz : ns.length ≤ sizeLine)
    (F : ∀ base : Heap, K.In base → base.Ns mainGlobals mg → (∀ p ∈ cs, LamX.TabB base mg p.1 p.2) → OkAt P w K mg base CX callerA fa fd [x] sp) (bind : ∀ (t : Shared) (u : Value), BindsTo t fd ⟨[u], []⟩ [(x, u)])
    (hsp : ∀ H : Hp, (∀ p ∈ cs, H p.2 = some (.tbl #[])) → SqL K H a (ns.map V.int) → sp [.ref a] H (fun v _ => v = .bl true) fun _ _ _ => False) (hCX : ∀ H e t, CX [] H st (fun _ _ _ => False) e t → False) :
    codeAny (model P w) callerA (.call (.ref fa) ⟨[.ref a], []⟩) (fun r t => r = .ok (.ret (.bool true)) ∧ OldK st.heap t.heap ∧ t.os = st.os ∧ AllBare t.gens) st := by
  have rv := vals_ints hi
  have tabAt : ∀ b ∈ cs.map (·.2), st.heap.get? b = some { cls := .none, data := .fields #[] } ∧ K.lookup b = none := fun b hb => by
    obtain ⟨p, hp, rfl⟩ := List.mem_map.mp hb
    exact ⟨tabs p hp, tabK p hp⟩
  have aT : a ∉ cs.map (·.2) := fun z => by
    have q := (tabAt a z).1
    rw [ha] at q
    exact nomatch congrArg Obj.data (Option.some.inj q)
  obtain ⟨fr, hfr⟩ : ∃ fr : Bool, fr = (K.lookup a).isNone := ⟨_, rfl⟩
  obtain ⟨H, hH⟩ : ∃ H : Hp, H = H02 (cs.map (·.2)) fr a { cls := .type "list", data := .seq vs.toArray } (ns.map V.int) := ⟨_, rfl⟩
  have cas : ∀ {b : Addr} {u : HO}, H b = some u → (b ∈ cs.map (·.2) ∧ u = .tbl #[]) ∨ (b ∉ cs.map (·.2) ∧ b = a ∧ fr = true ∧ u = .frz { cls := .type "list", data := .seq vs.toArray } (.lst (ns.map V.int))) := fun {b u} z => h02_cases (by rw [hH] at z; exact z)
  have isTab : ∀ p ∈ cs, H p.2 = some (.tbl #[]) := fun p hp => by
    rw [hH]
    exact h02_tab (List.mem_map.mpr ⟨p, hp, rfl⟩)
  -- what is neither a list nor an empty table is not tracked, nor is what the written part has
  have away : ∀ {b : Addr} {o : Obj}, st.heap.get? b = some o → (∀ l n, o.data ≠ .seq l n) → o.data ≠ .fields #[] → H b = none := fun {b o} e n1 n2 => by
    cases z : H b with
    | none => rfl
    | some u =>
      rcases cas z with ⟨hb, _⟩ | ⟨_, rfl, _, _⟩
      · rw [(tabAt b hb).1] at e
        cases e
        exact absurd rfl n2
      · rw [ha] at e
        cases e
        exact absurd rfl (n1 _ _)
  have awayK : ∀ {b : Addr} {o : Obj}, K.lookup b = some o → H b = none := fun {b o} e => by
    cases z : H b with
    | none => rfl
    | some u =>
      rcases cas z with ⟨hb, _⟩ | ⟨_, rfl, hf, _⟩
      · rw [(tabAt b hb).2] at e
        cases e
      · rw [hfr, e] at hf
        cases hf
  have script : SqL K H a (ns.map V.int) := by
    cases q : K.lookup a with
    | some o =>
      have e := inK a o q
      rw [ha] at e
      cases e
      exact .inr ⟨_, vs.toArray, _, q, rfl, rfl, rfl, by rw [List.size_toArray, hi.length]; exact hz, by simpa using rv⟩
    | none =>
      refine .inl (.inr ⟨{ cls := .type "list", data := .seq vs.toArray }, ?_⟩)
      rw [hH]
      unfold H02
      rw [if_neg aT, if_pos ⟨rfl, by rw [hfr, q]; rfl⟩]
  have ok : HOk P w H st.heap := fun b u z => by
    rcases cas z with ⟨hb, rfl⟩ | ⟨_, rfl, _, rfl⟩
    · exact (tabAt b hb).1
    · exact ⟨ha, by rw [List.length_map]; exact hz, vs, _, rv, ha⟩
  have ns_at : ∀ {b : Addr} {m : Str → Option Value}, st.heap.Ns b m → (hidT st.heap H).Ns b m := fun {b m} ⟨o, es, ep, e, d, r⟩ =>
    ⟨o, es, ep, hidT_get e (away e (fun l n y => by rw [d] at y; cases y) fun y => by rw [d] at y; cases y), d, r⟩
  have inB : K.In (hidT st.heap H) := fun b o e => hidT_get (inK b o e) (awayK e)
  have tabB : ∀ p ∈ cs, LamX.TabB (hidT st.heap H) mg p.1 p.2 := fun p hp => by
    refine ⟨?_, ?_, fun y => ?_⟩
    · obtain ⟨o, us, r0, r1, r2, r3, r4, r5, r6, e1, q1, q2, q3, q⟩ := codes p hp
      refine ⟨o, us, r0, r1, r2, r3, r4, r5, r6, hidT_get e1 (away e1 (fun l n y => by rw [q2] at y; cases y) fun y => ?_), q1, q2, q3, q⟩
      rw [q2] at y
      cases y
      simp at q3
    · obtain ⟨m, ob, b1, b2, b3, b4, b5, b6⟩ := bm
      have hm : H m = none := away b3 (fun l n y => by rw [b6] at y; cases y) fun y => by rw [b6] at y; cases y
      refine ⟨m, ob, b1, b2, fun y => ?_, fun y => ?_, hidT_get b3 hm, b4, b5, b6⟩
      · obtain ⟨o, es, ep, e, d, _⟩ := gN
        rw [y, e] at b3
        cases b3
        rw [d] at b6
        cases b6
      · rw [y, isTab p hp] at hm
        cases hm
    · obtain ⟨o, es, ep, e, d, _⟩ := gN
      rw [y, tabs p hp] at e
      cases e
      cases d
  obtain ⟨mc, l1, l2⟩ := nl
  have env0 : Env0 P w K mg (hidT st.heap H) callerA [] st H := ⟨rfl, ⟨inB, ns_at gN, ⟨mb, ns_at bN, bB⟩, ⟨mc, ns_at l1, l2⟩⟩, fun b o e => of_hidT e, Nat.le_of_eq (hidT_size _ _), trivial, fun b hb => (nomatch hb), ok, .of_eq g0⟩
  refine codeAny_mono (F _ inB (ns_at gN) tabB [] st H ⟨[.ref a], []⟩ [.ref a] [.ref a] _ _ env0 (bind st (.ref a)) (.cons rfl .nil) (hsp H isTab script)) fun r t h => ?_
  match r, h with
  | .error e, h => exact (hCX H e t h).elim
  | .ok .next, h => exact False.elim h
  | .ok .brk, h => exact False.elim h
  | .ok .cont, h => exact False.elim h
  | .ok (.ret u), ⟨v, H', o1, b1, un, ok2, rr, hv⟩ =>
    have hv : v = .bl true := hv
    subst hv
    obtain rfl : u = Value.bool true := rr
    have keep : ∀ {b : Addr} {o : Obj}, st.heap.get? b = some o → b ∉ cs.map (·.2) → t.heap.get? b = some o := fun {b o} e nb => by
      cases z : H b with
      | none => exact un.keep b o e z (fun y => nomatch y) (fun y => nomatch y)
      | some u =>
        rcases cas z with ⟨hb, _⟩ | ⟨_, rfl, _, rfl⟩
        · exact absurd hb nb
        · have y := (ok2 _ _ (un.frzs _ _ _ z)).1
          rw [ha] at e
          cases e
          exact y
    have more : ∀ p ∈ cs, ∃ m : Array Value, t.heap.get? p.2 = some { cls := .none, data := .fields m } := fun p hp => by
      obtain ⟨m, y⟩ := un.tbls _ _ (isTab p hp)
      exact ⟨_, ok2 _ _ y⟩
    refine ⟨rfl, ⟨fun b o e => ?_, fun b o e => ?_⟩, o1, b1⟩
    · by_cases hb : b ∈ cs.map (·.2)
      · obtain ⟨p, hp, rfl⟩ := List.mem_map.mp hb
        obtain ⟨m, y⟩ := more p hp
        rw [tabs p hp] at e
        cases e
        refine .inr (.inl ⟨((codes p hp).tab (tabs p hp)).isCodeTable, rfl, #[], m, rfl, ?_⟩)
        rw [Array.empty_append]
        exact y
      · exact .inl (keep e hb)
    · by_cases hb : b ∈ cs.map (·.2)
      · obtain ⟨p, hp, rfl⟩ := List.mem_map.mp hb
        exact ⟨_, (more p hp).choose_spec⟩
      · exact ⟨_, keep e hb⟩
/-- the walk of a law's row: what the head tells, then the law at its caller's -/
theorem walk_at2 {l : PySem.W.OpenLaw} {n : Nat} {q : Program} {loose : List Str} {XP : (Str → Option Value) → Heap → Prop} {YP : World → Heap → Prop} {d : DefRec} {CX : World → CXT} {x : Str} (hn : l.most = some n) (hn2 : n ≤ sizeLine) (hdf : d.params.defaults = [])
    (F : ∀ (w : World) (mg : Str → Option Value) (fa : Addr) (h : Heap), YP w h → h.Ns mainGlobals mg → mg d.name = some (.ref fa) → ∃ (K : PySem.W.Frag) (fd : FuncData) (cs : List (Addr × Addr)) (sp : Sp), K.In h ∧ (∀ p ∈ cs, h.get? p.2 = some { cls := .none, data := .fields #[] }) ∧ (∀ p ∈ cs, K.lookup p.2 = none) ∧ (∀ p ∈ cs, PySem.W.CodeHd h p.1 p.2) ∧
      (∀ (t : Shared) (u : Value), BindsTo t fd ⟨[u], []⟩ [(x, u)]) ∧ (∀ (H : Hp) (a : Addr) (ns : List Int), ns.length ≤ n → (∀ p ∈ cs, H p.2 = some (.tbl #[])) → SqL K H a (ns.map V.int) → sp [.ref a] H (fun v _ => v = .bl true) fun _ _ _ => False) ∧
      ∀ base : Heap, K.In base → base.Ns mainGlobals mg → (∀ p ∈ cs, LamX.TabB base mg p.1 p.2) → OkAt l.prog w K mg base (CX w) callerA fa fd [x] sp)
    (hCX : ∀ (w : World) (H : Hp) (s : Shared) (e : Value) (t : Shared), CX w [] H s (fun _ _ _ => False) e t → False) : PySem.W.WalkO q loose XP YP l.row.toRowW d [] (fun f vs => PySem.call f vs) := by
  refine Att.attach_callB hn hdf fun w s0 st mg mb fa o pm cd doc a vs ns G Y ho hd hcd hmg hobj hints hlen _ hg => ?_
  obtain ⟨K, fd, cs, sp, inK, tabs, tabK, codes, bind, hsp, ok⟩ := F w mg fa _ Y G.T.g hmg
  exact top_run2 inK G.T.g G.T.b G.T.builtins G.T.nolimit hg tabs tabK codes G.T.bmain hobj hints (Nat.le_trans hlen hn2) ok bind (fun H h1 h2 => hsp H a ns hlen h1 h2) fun H e t => hCX w H st e t
end Gd

namespace K11
open PySem PySem.Spec PyProof.Rows L2 Tr Sq Dk Exs K11H
theorem code_of {K : PySem.W.Frag} {p : Str × Option Str} {x qual : Str} {pa : Arguments} {bd : List Stmt} {sc : Scope} {fd : FuncData} (F : FunD K x qual pa bd sc [] [] (He.fAd K p) fd) : fd.code = .ref (He.cT K p).1 := by
  obtain ⟨oc, od, dV, kV, doc, pm, an, cdv, ct, osl, rfl, lk, hcd, _, _⟩ := F.ex
  obtain ⟨c, rfl⟩ := He.codeIn_ref hcd
  exact congrArg Value.ref (He.codeOf_eq lk rfl).symm
theorem facts {P : Program} {w : World} {K : PySem.W.Frag} {h : Heap} {mg : Str → Option Value} (X : K.In h) (G : h.Ns mainGlobals mg) (c : He.SaysX fa fn [] tf ex w h K) :
    ∃ fd : FuncData, (∀ (s : Shared) (v : Value), BindsTo s fd ⟨[v], []⟩ [("script", v)]) ∧ mg ("law" : Str) = some (.ref (He.fAd K ("law", none))) ∧ ∀ base : Heap, (∀ q ∈ tf, LamX.TabB base mg (He.cT K q).1 (He.cT K q).2) → Gd.OkAt P w K mg base CX0 callerA (He.fAd K ("law", none)) fd ["script"] (spLaw K (He.cT K ("law", none)).2) := by
  have d := c.t.d
  have mo := c.more
  unfold ex at mo
  rw [Bool.and_eq_true, Bool.and_eq_true] at mo
  have e1 := errB_ok mo.1.1
  have e2 := errB_ok mo.1.2
  have e3 := errB_ok mo.2
  have g_is_name : mg "is_name" = some (.ref (He.ga K "is_name")) := He.glo_ok X G (d.fact 0 (f := .glo "is_name") rfl)
  have g_is_integer : mg "is_integer" = some (.ref (He.ga K "is_integer")) := He.glo_ok X G (d.fact 1 (f := .glo "is_integer") rfl)
  have g_is_number : mg "is_number" = some (.ref (He.ga K "is_number")) := He.glo_ok X G (d.fact 2 (f := .glo "is_number") rfl)
  have g_is_listed : mg "is_listed" = some (.ref (He.ga K "is_listed")) := He.glo_ok X G (d.fact 3 (f := .glo "is_listed") rfl)
  have g_is_pair : mg "is_pair" = some (.ref (He.ga K "is_pair")) := He.glo_ok X G (d.fact 4 (f := .glo "is_pair") rfl)
  have g_has_just : mg "has_just" = some (.ref (He.ga K "has_just")) := He.glo_ok X G (d.fact 5 (f := .glo "has_just") rfl)
  have g_is_table : mg "is_table" = some (.ref (He.ga K "is_table")) := He.glo_ok X G (d.fact 6 (f := .glo "is_table") rfl)
  have g_check_houses : mg "check_houses" = some (.ref (He.ga K "check_houses")) := He.glo_ok X G (d.fact 7 (f := .glo "check_houses") rfl)
  have g_checked_paths : mg "checked_paths" = some (.ref (He.ga K "checked_paths")) := He.glo_ok X G (d.fact 8 (f := .glo "checked_paths") rfl)
  have g_joined_groups : mg "joined_groups" = some (.ref (He.ga K "joined_groups")) := He.glo_ok X G (d.fact 9 (f := .glo "joined_groups") rfl)
  have g_near_houses : mg "near_houses" = some (.ref (He.ga K "near_houses")) := He.glo_ok X G (d.fact 10 (f := .glo "near_houses") rfl)
  have g_path_between : mg "path_between" = some (.ref (He.ga K "path_between")) := He.glo_ok X G (d.fact 11 (f := .glo "path_between") rfl)
  have g_is_house : mg "is_house" = some (.ref (He.ga K "is_house")) := He.glo_ok X G (d.fact 12 (f := .glo "is_house") rfl)
  have g_rooted : mg "rooted" = some (.ref (He.ga K "rooted")) := He.glo_ok X G (d.fact 13 (f := .glo "rooted") rfl)
  have g_steps_towards : mg "steps_towards" = some (.ref (He.ga K "steps_towards")) := He.glo_ok X G (d.fact 14 (f := .glo "steps_towards") rfl)
  have g_is_letters : mg "is_letters" = some (.ref (He.ga K "is_letters")) := He.glo_ok X G (d.fact 15 (f := .glo "is_letters") rfl)
  have g_ask_letters : mg "ask_letters" = some (.ref (He.ga K "ask_letters")) := He.glo_ok X G (d.fact 16 (f := .glo "ask_letters") rfl)
  have g_first_no_house : mg "first_no_house" = some (.ref (He.ga K "first_no_house")) := He.glo_ok X G (d.fact 17 (f := .glo "first_no_house") rfl)
  have g_round_flaw : mg "round_flaw" = some (.ref (He.ga K "round_flaw")) := He.glo_ok X G (d.fact 18 (f := .glo "round_flaw") rfl)
  have g_ask_round : mg "ask_round" = some (.ref (He.ga K "ask_round")) := He.glo_ok X G (d.fact 19 (f := .glo "ask_round") rfl)
  have g_letters_of : mg "letters_of" = some (.ref (He.ga K "letters_of")) := He.glo_ok X G (d.fact 20 (f := .glo "letters_of") rfl)
  have g_walked : mg "walked" = some (.ref (He.ga K "walked")) := He.glo_ok X G (d.fact 21 (f := .glo "walked") rfl)
  have g_times_gone : mg "times_gone" = some (.ref (He.ga K "times_gone")) := He.glo_ok X G (d.fact 22 (f := .glo "times_gone") rfl)
  have g_walk_of : mg "walk_of" = some (.ref (He.ga K "walk_of")) := He.glo_ok X G (d.fact 23 (f := .glo "walk_of") rfl)
  have g_ledger_of : mg "ledger_of" = some (.ref (He.ga K "ledger_of")) := He.glo_ok X G (d.fact 24 (f := .glo "ledger_of") rfl)
  have g_is_ledger : mg "is_ledger" = some (.ref (He.ga K "is_ledger")) := He.glo_ok X G (d.fact 25 (f := .glo "is_ledger") rfl)
  have g_ask_ledger : mg "ask_ledger" = some (.ref (He.ga K "ask_ledger")) := He.glo_ok X G (d.fact 26 (f := .glo "ask_ledger") rfl)
  have g_ask_both : mg "ask_both" = some (.ref (He.ga K "ask_both")) := He.glo_ok X G (d.fact 27 (f := .glo "ask_both") rfl)
  have g_round_fault : mg "round_fault" = some (.ref (He.ga K "round_fault")) := He.glo_ok X G (d.fact 28 (f := .glo "round_fault") rfl)
  have g__law_m_made : mg "_law_m_made" = some (.ref (He.ga K "_law_m_made")) := He.glo_ok X G (d.fact 29 (f := .glo "_law_m_made") rfl)
  have g__law_m_ledger : mg "_law_m_ledger" = some (.ref (He.ga K "_law_m_ledger")) := He.glo_ok X G (d.fact 30 (f := .glo "_law_m_ledger") rfl)
  have g__law_m_shown : mg "_law_m_shown" = some (.ref (He.ga K "_law_m_shown")) := He.glo_ok X G (d.fact 31 (f := .glo "_law_m_shown") rfl)
  have g__law_m_near : mg "_law_m_near" = some (.ref (He.ga K "_law_m_near")) := He.glo_ok X G (d.fact 32 (f := .glo "_law_m_near") rfl)
  have g__law_m_odd_letters : mg "_law_m_odd_letters" = some (.ref (He.ga K "_law_m_odd_letters")) := He.glo_ok X G (d.fact 33 (f := .glo "_law_m_odd_letters") rfl)
  have g__law_m_odd_ledger : mg "_law_m_odd_ledger" = some (.ref (He.ga K "_law_m_odd_ledger")) := He.glo_ok X G (d.fact 34 (f := .glo "_law_m_odd_ledger") rfl)
  have g__law_m_held : mg "_law_m_held" = some (.ref (He.ga K "_law_m_held")) := He.glo_ok X G (d.fact 35 (f := .glo "_law_m_held") rfl)
  have g__law_start : mg "_law_start" = some (.ref (He.ga K "_law_start")) := He.glo_ok X G (d.fact 36 (f := .glo "_law_start") rfl)
  have g__law_draw : mg "_law_draw" = some (.ref (He.ga K "_law_draw")) := He.glo_ok X G (d.fact 37 (f := .glo "_law_draw") rfl)
  have g__law_pick : mg "_law_pick" = some (.ref (He.ga K "_law_pick")) := He.glo_ok X G (d.fact 38 (f := .glo "_law_pick") rfl)
  have g__law_mixed : mg "_law_mixed" = some (.ref (He.ga K "_law_mixed")) := He.glo_ok X G (d.fact 39 (f := .glo "_law_mixed") rfl)
  have g__law_same : mg "_law_same" = some (.ref (He.ga K "_law_same")) := He.glo_ok X G (d.fact 40 (f := .glo "_law_same") rfl)
  have g__law_loose : mg "_law_loose" = some (.ref (He.ga K "_law_loose")) := He.glo_ok X G (d.fact 41 (f := .glo "_law_loose") rfl)
  have g__law_v_names : mg "_law_v_names" = some (.ref (He.ga K "_law_v_names")) := He.glo_ok X G (d.fact 42 (f := .glo "_law_v_names") rfl)
  have g__law_v_paths : mg "_law_v_paths" = some (.ref (He.ga K "_law_v_paths")) := He.glo_ok X G (d.fact 43 (f := .glo "_law_v_paths") rfl)
  have g__law_v_village : mg "_law_v_village" = some (.ref (He.ga K "_law_v_village")) := He.glo_ok X G (d.fact 44 (f := .glo "_law_v_village") rfl)
  have g__law_v_keys : mg "_law_v_keys" = some (.ref (He.ga K "_law_v_keys")) := He.glo_ok X G (d.fact 45 (f := .glo "_law_v_keys") rfl)
  have g__law_v_beside : mg "_law_v_beside" = some (.ref (He.ga K "_law_v_beside")) := He.glo_ok X G (d.fact 46 (f := .glo "_law_v_beside") rfl)
  have g__law_v_way : mg "_law_v_way" = some (.ref (He.ga K "_law_v_way")) := He.glo_ok X G (d.fact 47 (f := .glo "_law_v_way") rfl)
  have g__law_v_round : mg "_law_v_round" = some (.ref (He.ga K "_law_v_round")) := He.glo_ok X G (d.fact 48 (f := .glo "_law_v_round") rfl)
  have g__law_v_letters : mg "_law_v_letters" = some (.ref (He.ga K "_law_v_letters")) := He.glo_ok X G (d.fact 49 (f := .glo "_law_v_letters") rfl)
  have g__law_v_walk : mg "_law_v_walk" = some (.ref (He.ga K "_law_v_walk")) := He.glo_ok X G (d.fact 50 (f := .glo "_law_v_walk") rfl)
  have g__law_v_ledger : mg "_law_v_ledger" = some (.ref (He.ga K "_law_v_ledger")) := He.glo_ok X G (d.fact 51 (f := .glo "_law_v_ledger") rfl)
  have g__law_met : mg "_law_met" = some (.ref (He.ga K "_law_met")) := He.glo_ok X G (d.fact 52 (f := .glo "_law_met") rfl)
  have g__law_fault : mg "_law_fault" = some (.ref (He.ga K "_law_fault")) := He.glo_ok X G (d.fact 53 (f := .glo "_law_fault") rfl)
  have g__law_things : mg "_law_things" = some (.ref (He.ga K "_law_things")) := He.glo_ok X G (d.fact 54 (f := .glo "_law_things") rfl)
  have g_law : mg "law" = some (.ref (He.ga K "law")) := He.glo_ok X G (d.fact 55 (f := .glo "law") rfl)
  have g_BadLetters : mg "BadLetters" = some (.ref (He.ga K "BadLetters")) := He.glo_ok X G (d.fact 56 (f := .glo "BadLetters") rfl)
  have g_BadLedger : mg "BadLedger" = some (.ref (He.ga K "BadLedger")) := He.glo_ok X G (d.fact 57 (f := .glo "BadLedger") rfl)
  have g_BadRound : mg "BadRound" = some (.ref (He.ga K "BadRound")) := He.glo_ok X G (d.fact 58 (f := .glo "BadRound") rfl)
  have g_Village : mg "Village" = some (.ref (He.ga K "Village")) := He.glo_ok X G (d.fact 59 (f := .glo "Village") rfl)
  have n_int : mg "int" = none := He.free_ok X G (d.fact 60 (f := .free "int") rfl)
  have n_bool : mg "bool" = none := He.free_ok X G (d.fact 61 (f := .free "bool") rfl)
  have n_str : mg "str" = none := He.free_ok X G (d.fact 62 (f := .free "str") rfl)
  have n_isinstance : mg "isinstance" = none := He.free_ok X G (d.fact 63 (f := .free "isinstance") rfl)
  have n_list : mg "list" = none := He.free_ok X G (d.fact 64 (f := .free "list") rfl)
  have n_tuple : mg "tuple" = none := He.free_ok X G (d.fact 65 (f := .free "tuple") rfl)
  have n_len : mg "len" = none := He.free_ok X G (d.fact 66 (f := .free "len") rfl)
  have n_all : mg "all" = none := He.free_ok X G (d.fact 67 (f := .free "all") rfl)
  have n_zip : mg "zip" = none := He.free_ok X G (d.fact 68 (f := .free "zip") rfl)
  have n_enumerate : mg "enumerate" = none := He.free_ok X G (d.fact 69 (f := .free "enumerate") rfl)
  have n_range : mg "range" = none := He.free_ok X G (d.fact 70 (f := .free "range") rfl)
  have n_max : mg "max" = none := He.free_ok X G (d.fact 71 (f := .free "max") rfl)
  have n_min : mg "min" = none := He.free_ok X G (d.fact 72 (f := .free "min") rfl)
  have n_sorted : mg "sorted" = none := He.free_ok X G (d.fact 73 (f := .free "sorted") rfl)
  have n_dict : mg "dict" = none := He.free_ok X G (d.fact 74 (f := .free "dict") rfl)
  have n_any : mg "any" = none := He.free_ok X G (d.fact 75 (f := .free "any") rfl)
  have i_ln := He.int_ok X G (d.fact 76 (f := .int "LONGEST_NAME" 12) rfl)
  have i_sm := He.str_ok X G (d.fact 77 (f := .str "SMALL_LETTERS" "abcdefghijklmnopqrstuvwxyz") rfl)
  have i_fi := He.str_ok X G (d.fact 78 (f := .str "FIGURES" "0123456789") rfl)
  have v_cl := He.cls_ok (d.fact 79 (f := .cls "Village") rfl)
  have v_n1 := He.noat_ok (d.fact 80 (f := .noat "Village" "_houses") rfl)
  have v_n2 := He.noat_ok (d.fact 81 (f := .noat "Village" "_paths") rfl)
  have v_n3 := He.noat_ok (d.fact 82 (f := .noat "Village" "_near") rfl)
  have v_m_houses := He.meth_ok (d.fact 83 (f := .meth "Village" "houses") rfl)
  have v_m_near := He.meth_ok (d.fact 84 (f := .meth "Village" "near") rfl)
  have v_m_paths := He.meth_ok (d.fact 85 (f := .meth "Village" "paths") rfl)
  have v_mk := He.mkr_ok (d.fact 86 (f := .mkr "Village") rfl)
  have hno := He.exm_ok (d.fact 87 (f := .exm "BadLedger" "BadLetters" false) rfl)
  obtain ⟨d_is_name, F_is_name⟩ := d.def_ 0 (d := dd "is_name" 13) rfl
  obtain ⟨d_is_integer, F_is_integer⟩ := d.def_ 1 (d := dd "is_integer" 14) rfl
  obtain ⟨d_is_number, F_is_number⟩ := d.def_ 2 (d := dd "is_number" 15) rfl
  obtain ⟨d_is_listed, F_is_listed⟩ := d.def_ 3 (d := dd "is_listed" 16) rfl
  obtain ⟨d_is_pair, F_is_pair⟩ := d.def_ 4 (d := dd "is_pair" 17) rfl
  obtain ⟨d_has_just, F_has_just⟩ := d.def_ 5 (d := dd "has_just" 18) rfl
  obtain ⟨d_is_table, F_is_table⟩ := d.def_ 6 (d := dd "is_table" 19) rfl
  obtain ⟨d_check_houses, F_check_houses⟩ := d.def_ 7 (d := dd "check_houses" 22) rfl
  obtain ⟨d_checked_paths, F_checked_paths⟩ := d.def_ 8 (d := dd "checked_paths" 23) rfl
  obtain ⟨d_joined_groups, F_joined_groups⟩ := d.def_ 9 (d := dd "joined_groups" 24) rfl
  obtain ⟨d_near_houses, F_near_houses⟩ := d.def_ 10 (d := dd "near_houses" 25) rfl
  obtain ⟨d_path_between, F_path_between⟩ := d.def_ 11 (d := dd "path_between" 26) rfl
  obtain ⟨d_is_house, F_is_house⟩ := d.def_ 12 (d := dd "is_house" 27) rfl
  obtain ⟨d_rooted, F_rooted⟩ := d.def_ 13 (d := dd "rooted" 29) rfl
  obtain ⟨d_steps_towards, F_steps_towards⟩ := d.def_ 14 (d := dd "steps_towards" 30) rfl
  obtain ⟨d_is_letters, F_is_letters⟩ := d.def_ 15 (d := dd "is_letters" 32) rfl
  obtain ⟨d_ask_letters, F_ask_letters⟩ := d.def_ 16 (d := dd "ask_letters" 33) rfl
  obtain ⟨d_first_no_house, F_first_no_house⟩ := d.def_ 17 (d := dd "first_no_house" 34) rfl
  obtain ⟨d_round_flaw, F_round_flaw⟩ := d.def_ 18 (d := dd "round_flaw" 35) rfl
  obtain ⟨d_ask_round, F_ask_round⟩ := d.def_ 19 (d := dd "ask_round" 36) rfl
  obtain ⟨d_letters_of, F_letters_of⟩ := d.def_ 20 (d := dd "letters_of" 37) rfl
  obtain ⟨d_walked, F_walked⟩ := d.def_ 21 (d := dd "walked" 39) rfl
  obtain ⟨d_times_gone, F_times_gone⟩ := d.def_ 22 (d := dd "times_gone" 40) rfl
  obtain ⟨d_walk_of, F_walk_of⟩ := d.def_ 23 (d := dd "walk_of" 41) rfl
  obtain ⟨d_ledger_of, F_ledger_of⟩ := d.def_ 24 (d := dd "ledger_of" 42) rfl
  obtain ⟨d_is_ledger, F_is_ledger⟩ := d.def_ 25 (d := dd "is_ledger" 43) rfl
  obtain ⟨d_ask_ledger, F_ask_ledger⟩ := d.def_ 26 (d := dd "ask_ledger" 44) rfl
  obtain ⟨d_ask_both, F_ask_both⟩ := d.def_ 27 (d := dd "ask_both" 46) rfl
  obtain ⟨d_round_fault, F_round_fault⟩ := d.def_ 28 (d := dd "round_fault" 47) rfl
  obtain ⟨d__law_m_made, F__law_m_made⟩ := d.def_ 29 (d := dd "_law_m_made" 49) rfl
  obtain ⟨d__law_m_ledger, F__law_m_ledger⟩ := d.def_ 30 (d := dd "_law_m_ledger" 50) rfl
  obtain ⟨d__law_m_shown, F__law_m_shown⟩ := d.def_ 31 (d := dd "_law_m_shown" 51) rfl
  obtain ⟨d__law_m_near, F__law_m_near⟩ := d.def_ 32 (d := dd "_law_m_near" 52) rfl
  obtain ⟨d__law_m_odd_letters, F__law_m_odd_letters⟩ := d.def_ 33 (d := dd "_law_m_odd_letters" 53) rfl
  obtain ⟨d__law_m_odd_ledger, F__law_m_odd_ledger⟩ := d.def_ 34 (d := dd "_law_m_odd_ledger" 54) rfl
  obtain ⟨d__law_m_held, F__law_m_held⟩ := d.def_ 35 (d := dd "_law_m_held" 55) rfl
  obtain ⟨d__law_start, F__law_start⟩ := d.def_ 36 (d := dd "_law_start" 56) rfl
  obtain ⟨d__law_draw, F__law_draw⟩ := d.def_ 37 (d := dd "_law_draw" 57) rfl
  obtain ⟨d__law_pick, F__law_pick⟩ := d.def_ 38 (d := dd "_law_pick" 58) rfl
  obtain ⟨d__law_mixed, F__law_mixed⟩ := d.def_ 39 (d := dd "_law_mixed" 59) rfl
  obtain ⟨d__law_same, F__law_same⟩ := d.def_ 40 (d := dd "_law_same" 60) rfl
  obtain ⟨d__law_loose, F__law_loose⟩ := d.def_ 41 (d := dd "_law_loose" 61) rfl
  obtain ⟨d__law_v_names, F__law_v_names⟩ := d.def_ 42 (d := dd "_law_v_names" 62) rfl
  obtain ⟨d__law_v_paths, F__law_v_paths⟩ := d.def_ 43 (d := dd "_law_v_paths" 63) rfl
  obtain ⟨d__law_v_village, F__law_v_village⟩ := d.def_ 44 (d := dd "_law_v_village" 64) rfl
  obtain ⟨d__law_v_keys, F__law_v_keys⟩ := d.def_ 45 (d := dd "_law_v_keys" 65) rfl
  obtain ⟨d__law_v_beside, F__law_v_beside⟩ := d.def_ 46 (d := dd "_law_v_beside" 66) rfl
  obtain ⟨d__law_v_way, F__law_v_way⟩ := d.def_ 47 (d := dd "_law_v_way" 67) rfl
  obtain ⟨d__law_v_round, F__law_v_round⟩ := d.def_ 48 (d := dd "_law_v_round" 68) rfl
  obtain ⟨d__law_v_letters, F__law_v_letters⟩ := d.def_ 49 (d := dd "_law_v_letters" 69) rfl
  obtain ⟨d__law_v_walk, F__law_v_walk⟩ := d.def_ 50 (d := dd "_law_v_walk" 70) rfl
  obtain ⟨d__law_v_ledger, F__law_v_ledger⟩ := d.def_ 51 (d := dd "_law_v_ledger" 71) rfl
  obtain ⟨d__law_met, F__law_met⟩ := d.def_ 52 (d := dd "_law_met" 72) rfl
  obtain ⟨d__law_fault, F__law_fault⟩ := d.def_ 53 (d := dd "_law_fault" 73) rfl
  obtain ⟨d__law_things, F__law_things⟩ := d.def_ 54 (d := dd "_law_things" 74) rfl
  obtain ⟨d_law, F_law⟩ := d.def_ 55 (d := dd "law" 75) rfl
  obtain ⟨d_e1, F_e1⟩ := d.def_ 56 (d := di "BadLetters" "BadLetters.__init__" 4) rfl
  obtain ⟨d_e2, F_e2⟩ := d.def_ 57 (d := di "BadLedger" "BadLedger.__init__" 3) rfl
  obtain ⟨d_e3, F_e3⟩ := d.def_ 58 (d := di "BadRound" "BadRound.__init__" 6) rfl
  obtain ⟨d_vi, F_vi⟩ := d.def_ 59 (d := dm "__init__" "Village.__init__" 0) rfl
  obtain ⟨d_v_houses, F_v_houses⟩ := d.def_ 60 (d := dm "houses" "Village.houses" 1) rfl
  obtain ⟨d_v_near, F_v_near⟩ := d.def_ 61 (d := dm "near" "Village.near" 3) rfl
  obtain ⟨d_v_paths, F_v_paths⟩ := d.def_ 62 (d := dm "paths" "Village.paths" 2) rfl
  have b_is_name : L2.Binds K d_is_name ["thing"] [] := F_is_name.bindsN fun _ _ _ _ _ _ us hl => match us, hl with | [_], _ => rfl
  have b_is_integer : L2.Binds K d_is_integer ["thing"] [] := F_is_integer.bindsN fun _ _ _ _ _ _ us hl => match us, hl with | [_], _ => rfl
  have b_is_number : L2.Binds K d_is_number ["thing"] [] := F_is_number.bindsN fun _ _ _ _ _ _ us hl => match us, hl with | [_], _ => rfl
  have b_is_listed : L2.Binds K d_is_listed ["thing"] [] := F_is_listed.bindsN fun _ _ _ _ _ _ us hl => match us, hl with | [_], _ => rfl
  have b_is_pair : L2.Binds K d_is_pair ["thing"] [] := F_is_pair.bindsN fun _ _ _ _ _ _ us hl => match us, hl with | [_], _ => rfl
  have b_has_just : L2.Binds K d_has_just ["thing", "keys"] [] := F_has_just.bindsN fun _ _ _ _ _ _ us hl => match us, hl with | [_, _], _ => rfl
  have b_is_table : L2.Binds K d_is_table ["thing", "keys"] [] := F_is_table.bindsN fun _ _ _ _ _ _ us hl => match us, hl with | [_, _], _ => rfl
  have b_check_houses : L2.Binds K d_check_houses ["houses"] [] := F_check_houses.bindsN fun _ _ _ _ _ _ us hl => match us, hl with | [_], _ => rfl
  have b_checked_paths : L2.Binds K d_checked_paths ["houses", "paths"] [] := F_checked_paths.bindsN fun _ _ _ _ _ _ us hl => match us, hl with | [_, _], _ => rfl
  have b_joined_groups : L2.Binds K d_joined_groups ["group", "one", "other"] [] := F_joined_groups.bindsN fun _ _ _ _ _ _ us hl => match us, hl with | [_, _, _], _ => rfl
  have b_near_houses : L2.Binds K d_near_houses ["houses", "paths"] [] := F_near_houses.bindsN fun _ _ _ _ _ _ us hl => match us, hl with | [_, _], _ => rfl
  have b_path_between : L2.Binds K d_path_between ["one", "other"] [] := F_path_between.bindsN fun _ _ _ _ _ _ us hl => match us, hl with | [_, _], _ => rfl
  have b_is_house : L2.Binds K d_is_house ["village", "thing"] [] := F_is_house.bindsN fun _ _ _ _ _ _ us hl => match us, hl with | [_, _], _ => rfl
  have b_rooted : L2.Binds K d_rooted ["village", "root"] [] := F_rooted.bindsN fun _ _ _ _ _ _ us hl => match us, hl with | [_, _], _ => rfl
  have b_steps_towards : L2.Binds K d_steps_towards ["village", "root"] [] := F_steps_towards.bindsN fun _ _ _ _ _ _ us hl => match us, hl with | [_, _], _ => rfl
  have b_is_letters : L2.Binds K d_is_letters ["village", "thing"] [] := F_is_letters.bindsN fun _ _ _ _ _ _ us hl => match us, hl with | [_, _], _ => rfl
  have b_ask_letters : L2.Binds K d_ask_letters ["village", "letters"] [] := F_ask_letters.bindsN fun _ _ _ _ _ _ us hl => match us, hl with | [_, _], _ => rfl
  have b_first_no_house : L2.Binds K d_first_no_house ["village", "thing"] [] := F_first_no_house.bindsN fun _ _ _ _ _ _ us hl => match us, hl with | [_, _], _ => rfl
  have b_round_flaw : L2.Binds K d_round_flaw ["village", "thing"] [] := F_round_flaw.bindsN fun _ _ _ _ _ _ us hl => match us, hl with | [_, _], _ => rfl
  have b_ask_round : L2.Binds K d_ask_round ["village", "row"] [] := F_ask_round.bindsN fun _ _ _ _ _ _ us hl => match us, hl with | [_, _], _ => rfl
  have b_letters_of : L2.Binds K d_letters_of ["village", "row"] [] := F_letters_of.bindsN fun _ _ _ _ _ _ us hl => match us, hl with | [_, _], _ => rfl
  have b_walked : L2.Binds K d_walked ["village", "row"] [] := F_walked.bindsN fun _ _ _ _ _ _ us hl => match us, hl with | [_, _], _ => rfl
  have b_times_gone : L2.Binds K d_times_gone ["village", "steps"] [] := F_times_gone.bindsN fun _ _ _ _ _ _ us hl => match us, hl with | [_, _], _ => rfl
  have b_walk_of : L2.Binds K d_walk_of ["village", "row"] [] := F_walk_of.bindsN fun _ _ _ _ _ _ us hl => match us, hl with | [_, _], _ => rfl
  have b_ledger_of : L2.Binds K d_ledger_of ["village", "row"] [] := F_ledger_of.bindsN fun _ _ _ _ _ _ us hl => match us, hl with | [_, _], _ => rfl
  have b_is_ledger : L2.Binds K d_is_ledger ["village", "thing"] [] := F_is_ledger.bindsN fun _ _ _ _ _ _ us hl => match us, hl with | [_, _], _ => rfl
  have b_ask_ledger : L2.Binds K d_ask_ledger ["village", "ledger"] [] := F_ask_ledger.bindsN fun _ _ _ _ _ _ us hl => match us, hl with | [_, _], _ => rfl
  have b_ask_both : L2.Binds K d_ask_both ["village", "letters", "ledger"] [] := F_ask_both.bindsN fun _ _ _ _ _ _ us hl => match us, hl with | [_, _, _], _ => rfl
  have b_round_fault : L2.Binds K d_round_fault ["village", "letters", "ledger", "thing"] [] := F_round_fault.bindsN fun _ _ _ _ _ _ us hl => match us, hl with | [_, _, _, _], _ => rfl
  have b__law_m_made : L2.Binds K d__law_m_made ["stream", "some"] [] := F__law_m_made.bindsN fun _ _ _ _ _ _ us hl => match us, hl with | [_, _], _ => rfl
  have b__law_m_ledger : L2.Binds K d__law_m_ledger ["keys", "numbers"] [] := F__law_m_ledger.bindsN fun _ _ _ _ _ _ us hl => match us, hl with | [_, _], _ => rfl
  have b__law_m_shown : L2.Binds K d__law_m_shown ["stream", "given"] [] := F__law_m_shown.bindsN fun _ _ _ _ _ _ us hl => match us, hl with | [_, _], _ => rfl
  have b__law_m_near : L2.Binds K d__law_m_near ["stream", "keys", "numbers"] [] := F__law_m_near.bindsN fun _ _ _ _ _ _ us hl => match us, hl with | [_, _, _], _ => rfl
  have b__law_m_odd_letters : L2.Binds K d__law_m_odd_letters ["stream", "letters"] [] := F__law_m_odd_letters.bindsN fun _ _ _ _ _ _ us hl => match us, hl with | [_, _], _ => rfl
  have b__law_m_odd_ledger : L2.Binds K d__law_m_odd_ledger ["stream", "ledger"] [] := F__law_m_odd_ledger.bindsN fun _ _ _ _ _ _ us hl => match us, hl with | [_, _], _ => rfl
  have b__law_start : L2.Binds K d__law_start ["script"] [] := F__law_start.bindsN fun _ _ _ _ _ _ us hl => match us, hl with | [_], _ => rfl
  have b__law_draw : L2.Binds K d__law_draw ["stream", "many"] [] := F__law_draw.bindsN fun _ _ _ _ _ _ us hl => match us, hl with | [_, _], _ => rfl
  have b__law_pick : L2.Binds K d__law_pick ["stream", "some"] [] := F__law_pick.bindsN fun _ _ _ _ _ _ us hl => match us, hl with | [_, _], _ => rfl
  have b__law_mixed : L2.Binds K d__law_mixed ["stream", "some"] [] := F__law_mixed.bindsN fun _ _ _ _ _ _ us hl => match us, hl with | [_, _], _ => rfl
  have b__law_same : L2.Binds K d__law_same ["found", "due"] [] := F__law_same.bindsN fun _ _ _ _ _ _ us hl => match us, hl with | [_, _], _ => rfl
  have b__law_loose : L2.Binds K d__law_loose ["stream", "thing"] [] := F__law_loose.bindsN fun _ _ _ _ _ _ us hl => match us, hl with | [_, _], _ => rfl
  have b__law_v_names : L2.Binds K d__law_v_names ["stream", "many"] [] := F__law_v_names.bindsN fun _ _ _ _ _ _ us hl => match us, hl with | [_, _], _ => rfl
  have b__law_v_paths : L2.Binds K d__law_v_paths ["stream", "houses"] [] := F__law_v_paths.bindsN fun _ _ _ _ _ _ us hl => match us, hl with | [_, _], _ => rfl
  have b__law_v_village : L2.Binds K d__law_v_village ["stream", "most"] [] := F__law_v_village.bindsN fun _ _ _ _ _ _ us hl => match us, hl with | [_, _], _ => rfl
  have b__law_v_keys : L2.Binds K d__law_v_keys ["paths"] [] := F__law_v_keys.bindsN fun _ _ _ _ _ _ us hl => match us, hl with | [_], _ => rfl
  have b__law_v_beside : L2.Binds K d__law_v_beside ["paths", "house"] [] := F__law_v_beside.bindsN fun _ _ _ _ _ _ us hl => match us, hl with | [_, _], _ => rfl
  have b__law_v_way : L2.Binds K d__law_v_way ["paths", "one", "other"] [] := F__law_v_way.bindsN fun _ _ _ _ _ _ us hl => match us, hl with | [_, _, _], _ => rfl
  have b__law_v_round : L2.Binds K d__law_v_round ["stream", "houses", "most"] [] := F__law_v_round.bindsN fun _ _ _ _ _ _ us hl => match us, hl with | [_, _, _], _ => rfl
  have b__law_v_letters : L2.Binds K d__law_v_letters ["houses", "row"] [] := F__law_v_letters.bindsN fun _ _ _ _ _ _ us hl => match us, hl with | [_, _], _ => rfl
  have b__law_v_walk : L2.Binds K d__law_v_walk ["paths", "row"] [] := F__law_v_walk.bindsN fun _ _ _ _ _ _ us hl => match us, hl with | [_, _], _ => rfl
  have b__law_v_ledger : L2.Binds K d__law_v_ledger ["paths", "row"] [] := F__law_v_ledger.bindsN fun _ _ _ _ _ _ us hl => match us, hl with | [_, _], _ => rfl
  have b__law_fault : L2.Binds K d__law_fault ["houses", "paths", "letters", "ledger", "thing"] [] := F__law_fault.bindsN fun _ _ _ _ _ _ us hl => match us, hl with | [_, _, _, _, _], _ => rfl
  have b__law_things : L2.Binds K d__law_things ["stream", "houses", "row"] [] := F__law_things.bindsN fun _ _ _ _ _ _ us hl => match us, hl with | [_, _, _], _ => rfl
  have bL := FunD.bindsA (ps := ["script"]) F_law fun _ _ _ _ _ _ us hl => match us, hl with | [_], _ => rfl
  refine ⟨d_law, fun s v => bL s [v] rfl, g_law, fun base TB => ?_⟩
  have b_e1 : L2.Binds K d_e1 ["self", "thing"] [] := F_e1.bindsN fun _ _ _ _ _ _ us hl => match us, hl with | [_, _], _ => rfl
  have b_e2 : L2.Binds K d_e2 ["self", "thing"] [] := F_e2.bindsN fun _ _ _ _ _ _ us hl => match us, hl with | [_, _], _ => rfl
  have b_e3 : L2.Binds K d_e3 ["self", "index"] [] := F_e3.bindsN fun _ _ _ _ _ _ us hl => match us, hl with | [_, _], _ => rfl
  have b_vi : L2.Binds K d_vi ["self", "houses", "paths"] [] := F_vi.bindsN fun _ _ _ _ _ _ us hl => match us, hl with | [_, _, _], _ => rfl
  have b_v_houses : L2.Binds K d_v_houses ["self"] [] := F_v_houses.bindsN fun _ _ _ _ _ _ us hl => match us, hl with | [_], _ => rfl
  have b_v_near : L2.Binds K d_v_near ["self"] [] := F_v_near.bindsN fun _ _ _ _ _ _ us hl => match us, hl with | [_], _ => rfl
  have b_v_paths : L2.Binds K d_v_paths ["self"] [] := F_v_paths.bindsN fun _ _ _ _ _ _ us hl => match us, hl with | [_], _ => rfl
  have T1 : Err P w K mg base "BadLetters" "thing" (He.ga K "BadLetters") (He.fAd K ("BadLetters", some "__init__")) := ⟨e1, g_BadLetters, d_e1, Exs.ok_init e1 F_e1 rfl ⟨rfl, rfl, rfl, by decide +kernel, rfl, by decide +kernel, by decide +kernel⟩ rfl rfl (by decide) (by decide), b_e1⟩
  have T2 : Err P w K mg base "BadLedger" "thing" (He.ga K "BadLedger") (He.fAd K ("BadLedger", some "__init__")) := ⟨e2, g_BadLedger, d_e2, Exs.ok_init e2 F_e2 rfl ⟨rfl, rfl, rfl, by decide +kernel, rfl, by decide +kernel, by decide +kernel⟩ rfl rfl (by decide) (by decide), b_e2⟩
  have T3 : Err P w K mg base "BadRound" "index" (He.ga K "BadRound") (He.fAd K ("BadRound", some "__init__")) := ⟨e3, g_BadRound, d_e3, Exs.ok_init e3 F_e3 rfl ⟨rfl, rfl, rfl, by decide +kernel, rfl, by decide +kernel, by decide +kernel⟩ rfl rfl (by decide) (by decide), b_e3⟩
  have o_draw := ok_draw (P := P) (w := w) (base := base) F__law_draw n_int
  have o_pick := ok_pick (P := P) (w := w) (base := base) F__law_pick F__law_draw n_int g__law_draw n_len
  have o_mixed := ok_mixed (P := P) (w := w) (base := base) F__law_mixed F__law_draw n_int g__law_draw n_len n_list n_range
  have o_names := ok_names F__law_v_names o_mixed b__law_mixed F__law_mixed.kp g__law_mixed
  have o_paths := ok_paths F__law_v_paths o_draw b__law_draw F__law_draw.kp g__law_draw o_mixed b__law_mixed F__law_mixed.kp g__law_mixed n_range n_len n_max
  have o_vill := ok_vill F__law_v_village o_draw b__law_draw F__law_draw.kp g__law_draw o_mixed b__law_mixed F__law_mixed.kp g__law_mixed o_names b__law_v_names F__law_v_names.kp g__law_v_names o_paths b__law_v_paths F__law_v_paths.kp g__law_v_paths
  have o_bes := ok_bes (P := P) (w := w) (base := base) F__law_v_beside n_sorted
  have o_way := ok_way F__law_v_way o_bes b__law_v_beside F__law_v_beside.kp g__law_v_beside
  have o_lst := ok_isLst (P := P) (w := w) (base := base) F_is_listed n_list n_tuple n_isinstance
  have o_name := ok_isName (P := P) (w := w) (base := base) F_is_name n_isinstance n_str n_len n_all i_ln i_sm i_fi
  have o_check := ok_checkL F_check_houses o_name b_is_name F_is_name.kp g_is_name o_lst b_is_listed F_is_listed.kp g_is_listed n_len n_enumerate
  have o_pair := ok_isPairL F_is_pair o_lst b_is_listed F_is_listed.kp g_is_listed n_len
  have o_btw := ok_between (P := P) (w := w) (mg := mg) (base := base) F_path_between
  have o_join := ok_joined (P := P) (w := w) (mg := mg) (base := base) F_joined_groups
  have o_near := ok_near (P := P) (w := w) (mg := mg) (base := base) F_near_houses
  have o_pc := ok_pathsCL F_checked_paths o_lst b_is_listed F_is_listed.kp g_is_listed o_pair b_is_pair F_is_pair.kp g_is_pair o_join b_joined_groups F_joined_groups.kp g_joined_groups o_btw b_path_between F_path_between.kp g_path_between n_isinstance n_str n_enumerate n_all n_sorted
  have o_vi := ok_initL F_vi o_check b_check_houses F_check_houses.kp g_check_houses o_pc b_checked_paths F_checked_paths.kp g_checked_paths o_near b_near_houses F_near_houses.kp g_near_houses n_sorted
  have vc : VC P w K mg base (He.ga K "Village") := ⟨v_cl, v_n1, v_n2, v_n3, ⟨_, _, v_m_houses, ok_houses F_v_houses n_list, b_v_houses⟩, ⟨_, _, v_m_near, ok_nearM F_v_near, b_v_near⟩⟩
  have vp : VP P w K mg base (He.ga K "Village") := ⟨⟨_, _, v_m_paths, ok_pathsM F_v_paths n_list, b_v_paths⟩⟩
  have o_ish := ok_isHouse F_is_house vc n_isinstance n_str
  have o_rt := ok_rooted F_rooted vc
  have o_st := ok_steps F_steps_towards o_rt b_rooted F_rooted.kp g_rooted
  have o_wd := ok_walked F_walked o_st b_steps_towards F_steps_towards.kp g_steps_towards
  have o_tg := ok_times F_times_gone vc vp o_btw b_path_between F_path_between.kp g_path_between n_zip
  have o_num := ok_isNum (P := P) (w := w) (base := base) F_is_number F_is_integer n_int n_bool n_isinstance g_is_integer
  have o_hj := ok_hasJ (P := P) (w := w) (base := base) F_has_just n_isinstance n_dict n_len n_all
  have o_hjt := ok_hasJT (P := P) (w := w) (base := base) F_has_just n_isinstance n_dict n_len n_all
  have o_it := ok_isTab F_is_table o_hj b_has_just F_has_just.kp g_has_just o_num b_is_number F_is_number.kp g_is_number n_all
  have o_itt := ok_isTabT F_is_table o_hjt b_has_just F_has_just.kp g_has_just o_num b_is_number F_is_number.kp g_is_number n_all
  have o_il := ok_isLet F_is_letters vc o_it b_is_table F_is_table.kp g_is_table n_any
  have o_ig := ok_isLed F_is_ledger vc vp o_itt b_is_table F_is_table.kp g_is_table
  have o_fnh := ok_fnh F_first_no_house o_ish b_is_house F_is_house.kp g_is_house o_lst b_is_listed F_is_listed.kp g_is_listed n_enumerate
  have o_flaw := ok_flaw F_round_flaw o_fnh b_first_no_house F_first_no_house.kp g_first_no_house o_lst b_is_listed F_is_listed.kp g_is_listed n_len
  have o_ar := ok_askR F_ask_round T3 o_flaw b_round_flaw F_round_flaw.kp g_round_flaw
  have o_lo := ok_letOf F_letters_of vc o_ar b_ask_round F_ask_round.kp g_ask_round
  have o_wo := ok_walkOf F_walk_of o_ar b_ask_round F_ask_round.kp g_ask_round o_wd b_walked F_walked.kp g_walked
  have o_lg := ok_ledger F_ledger_of o_tg b_times_gone F_times_gone.kp g_times_gone o_wo b_walk_of F_walk_of.kp g_walk_of
  have o_al := ok_askL F_ask_letters T1 o_il b_is_letters F_is_letters.kp g_is_letters
  have o_ag := ok_askG F_ask_ledger T2 o_ig b_is_ledger F_is_ledger.kp g_is_ledger
  have o_ab := ok_askB F_ask_both o_al b_ask_letters F_ask_letters.kp g_ask_letters o_ag b_ask_ledger F_ask_ledger.kp g_ask_ledger
  have o_rf := ok_rFlt F_round_fault vc vp o_ab b_ask_both F_ask_both.kp g_ask_both o_flaw b_round_flaw F_round_flaw.kp g_round_flaw o_lo b_letters_of F_letters_of.kp g_letters_of o_lg b_ledger_of F_ledger_of.kp g_ledger_of
  have o_same := ok_same (P := P) (w := w) (base := base) F__law_same g__law_same n_int n_bool n_list n_tuple n_dict n_isinstance n_len n_all n_zip
  have o_l2 := ok_loose2 F__law_loose o_draw b__law_draw F__law_draw.kp g__law_draw g__law_loose n_list n_tuple n_isinstance
  have o_l3 := ok_loose3 F__law_loose o_draw b__law_draw F__law_draw.kp g__law_draw g__law_loose n_list n_tuple n_isinstance
  have o_md := ok_made F__law_m_made o_mixed b__law_mixed F__law_mixed.kp g__law_mixed o_l2 o_l3 b__law_loose F__law_loose.kp g__law_loose g_Village v_mk o_vi b_vi vc
  have o_ml := ok_mLed (P := P) (w := w) (base := base) F__law_m_ledger n_list n_zip n_dict
  have o_sh := ok_shown F__law_m_shown o_mixed b__law_mixed F__law_mixed.kp g__law_mixed n_list n_dict
  have o_mn := ok_mNear F__law_m_near o_draw b__law_draw F__law_draw.kp g__law_draw o_pick b__law_pick F__law_pick.kp g__law_pick o_ml b__law_m_ledger F__law_m_ledger.kp g__law_m_ledger n_list n_range n_len n_max
  have o_ol := ok_oddL F__law_m_odd_letters o_pick b__law_pick F__law_pick.kp g__law_pick n_list n_dict n_sorted
  have o_og := ok_oddG F__law_m_odd_ledger o_pick b__law_pick F__law_pick.kp g__law_pick n_list n_dict n_sorted
  have o_rd := ok_round F__law_v_round o_draw b__law_draw F__law_draw.kp g__law_draw o_pick b__law_pick F__law_pick.kp g__law_pick n_range
  have o_keys := ok_keys (P := P) (w := w) (base := base) F__law_v_keys n_sorted n_min n_max
  have o_vt := ok_vLet (P := P) (w := w) (base := base) F__law_v_letters n_dict n_sorted
  have o_vw := ok_vWalk F__law_v_walk o_way b__law_v_way F__law_v_way.kp g__law_v_way
  have o_vl := ok_vLed F__law_v_ledger o_vw b__law_v_walk F__law_v_walk.kp g__law_v_walk o_keys b__law_v_keys F__law_v_keys.kp g__law_v_keys n_list n_zip n_dict
  have o_fa := ok_fault F__law_fault o_vt b__law_v_letters F__law_v_letters.kp g__law_v_letters o_vl b__law_v_ledger F__law_v_ledger.kp g__law_v_ledger o_keys b__law_v_keys F__law_v_keys.kp g__law_v_keys n_isinstance n_list n_tuple n_str n_len n_enumerate n_sorted
  have o_th := ok_things F__law_things o_pick b__law_pick F__law_pick.kp g__law_pick o_draw b__law_draw F__law_draw.kp g__law_draw o_mixed b__law_mixed F__law_mixed.kp g__law_mixed n_len n_tuple n_enumerate
  exact ok_law F_law (code_of F_law) (TB (("law" : Str), none) (by simp [tf])) ⟨rfl, by decide, by decide⟩ {
    start := ⟨_, _, g__law_start, ok_start F__law_start n_list, F__law_start.kp, b__law_start⟩
    vill := ⟨_, _, g__law_v_village, o_vill, F__law_v_village.kp, b__law_v_village⟩
    made := ⟨_, _, g__law_m_made, o_md, F__law_m_made.kp, b__law_m_made⟩
    round := ⟨_, _, g__law_v_round, o_rd, F__law_v_round.kp, b__law_v_round⟩
    vlet := ⟨_, _, g__law_v_letters, o_vt, F__law_v_letters.kp, b__law_v_letters⟩
    vled := ⟨_, _, g__law_v_ledger, o_vl, F__law_v_ledger.kp, b__law_v_ledger⟩
    keys := ⟨_, _, g__law_v_keys, o_keys, F__law_v_keys.kp, b__law_v_keys⟩
    near := ⟨_, _, g__law_m_near, o_mn, F__law_m_near.kp, b__law_m_near⟩
    things := ⟨_, _, g__law_things, o_th, F__law_things.kp, b__law_things⟩
    fault := ⟨_, _, g__law_fault, o_fa, F__law_fault.kp, b__law_fault⟩
    shown := ⟨_, _, g__law_m_shown, o_sh, F__law_m_shown.kp, b__law_m_shown⟩
    same := ⟨_, _, g__law_same, o_same, F__law_same.kp, b__law_same⟩
    oddl := ⟨_, _, g__law_m_odd_letters, o_ol, F__law_m_odd_letters.kp, b__law_m_odd_letters⟩
    oddg := ⟨_, _, g__law_m_odd_ledger, o_og, F__law_m_odd_ledger.kp, b__law_m_odd_ledger⟩
    flt := ⟨_, _, g_round_fault, o_rf, F_round_fault.kp, b_round_fault⟩
    met := ⟨_, _, g__law_met, F__law_met⟩
    held := ⟨_, _, g__law_m_held, F__law_m_held⟩
    el := ⟨_, T1⟩, eg := ⟨_, T2⟩, no := hno, gRange := n_range, gList := n_list }
end K11
open PySem PySem.W PySem.Calls PyProof.Rows
theorem PySem.Challenge.cw_letterround_k11_whole_claims_holds : PySem.Challenge.rw_letterround_k11_whole_claims.Holds := by
  w_on; o_law
  refine HandSHeadRun.head_any (r := OpenLaw.row PySem.Challenge.rw_letterround_k11_whole_claims) (q := view (OpenLaw.row PySem.Challenge.rw_letterround_k11_whole_claims).prog [75]) (H := K11H.hk) (ob := K11H.ob) (M := 40000) (loose := K11H.loose) (d := HandSHeadRun.topDef (OpenLaw.row PySem.Challenge.rw_letterround_k11_whole_claims).prog 75) (kwd := []) K11H.ob_eq
    ?op ?fe K11H.run (by kernel_rfl) (by kernel_rfl) (by kernel_rfl) (by rfl) (by first | assumption | decide +kernel) (by decide +kernel) ⟨rfl, rfl, rfl, rfl, rfl, by decide +kernel⟩ ?hw ?hc
  case op => kernel_rfl
  case fe =>
    intro s
    rfl
  case hw => w_witness2
  case hc =>
    refine Gd.walk_at2 (l := PySem.Challenge.rw_letterround_k11_whole_claims) (n := 63) (x := "script") (CX := fun _ => L2.CX0) rfl (by decide) (by kernel_rfl) ?F (fun _ _ _ _ _ z => z)
    intro w mg fa h Y G hmg0
    obtain ⟨K, KX, c⟩ := Y
    have hmg : mg ("law" : PySem.Str) = some (.ref fa) := by
      have e : (HandSHeadRun.topDef (OpenLaw.row PySem.Challenge.rw_letterround_k11_whole_claims).prog 75).name = ("law" : PySem.Str) := by kernel_rfl
      rw [← e]
      exact hmg0
    obtain ⟨fd, hb, hl, hF⟩ := K11.facts (P := (PySem.Challenge.rw_letterround_k11_whole_claims).prog) (w := w) KX G c
    have e := hmg.symm.trans hl
    cases e
    have tm : ∀ p ∈ K11H.tf.map (He.cT K), ∃ q ∈ K11H.tf, p = He.cT K q := fun p hp => by
      obtain ⟨q, hq, rfl⟩ := List.mem_map.mp hp
      exact ⟨q, hq, rfl⟩
    refine ⟨K, fd, K11H.tf.map (He.cT K), K11.spLaw K (He.cT K ("law", none)).2, KX, fun p hp => ?_, fun p hp => ?_, fun p hp => ?_, hb, fun H a ns hl hH hS => ⟨a, ns, rfl, hS, hl, ?_, fun _ => rfl⟩, fun base _ _ hT => hF base fun q hq => hT _ (List.mem_map.mpr ⟨q, hq, rfl⟩)⟩
    · obtain ⟨q, hq, rfl⟩ := tm p hp
      exact c.empty _ hq
    · obtain ⟨q, hq, rfl⟩ := tm p hp
      exact c.out _ hq
    · obtain ⟨q, hq, rfl⟩ := tm p hp
      exact codeHd_of_K KX (c.hd _ hq)
    · exact hH _ (List.mem_map.mpr ⟨("law", none), by simp [K11H.tf], rfl⟩)

