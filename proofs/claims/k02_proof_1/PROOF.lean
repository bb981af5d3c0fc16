import PyProof.Rows.All
import Wide.All
import OpenK.AllK
import Wide.FinOn
import KE.KStateDown
import HandS.ForMost
import HandS.Lambda
import HandS.HeadWalk
import HandS.Head2
import HandS.HeadHook4
import HandS.Style
import HandS.IsInst
import HandS.WordsExc
import HandS.ExcOwn
import HandS.Star
import HandS.NoneIn
import HandS.DictComp
import HandS.ListItems
import HandS.SetFor
import HandS.Evl
import PySem.Challenge.RW_letterround_k02_whole_ways
import KE.GoesEnum
import KE.GoesZip
import KE.GoesMore
import HandS.Walk
import HandS.ExcInit
import HandS.ExcField
import HandS.TryMany
import HandS.Defaults
import HandS.HeadHook1
import HandS.Codes
import HandS.Base
import HandS.Call
import HandS.List
import HandS.Keys
import KE.KIsAll
import HandS.Dict
import HandS.Iter
import HandS.Comp
import PyProof.CompUse
import HandS.Sort
import HandS.SortOrd
import HandS.SortRule
import PyProof.Rows.SortKeyStr
import PyProof.DictKinds
import HandS.DeepEq
import PyProof.FString5
import HandS.Conv
import HandS.TupLen
import HandS.DictTup
import HandS.Finally
import KE.KDictItemsList
import KE.KDictPairs
import KE.DataFind
import KE.KLam
import PyProof.ReprRoads
import PyProof.ReprText
import PyProof.StrBlockL
import KE.KxText
import HandS.EndBits
import HandS.EndTab
set_option Elab.async false
set_option linter.all false
set_option maxRecDepth 100000
set_option maxHeartbeats 4000000
namespace K02
open PySem PySem.Spec PyProof.Rows L2
abbrev FnP (K : PySem.W.Frag) (x : Str) (st : Stmt) (f : Addr) (fd : FuncData) : Prop := FunD K x x (defArgs st) (defBody st) (defScope st) [] [] f fd
def top (i : Nat) : Stmt := PySem.Challenge.pw_letterround_k02_whole_ways.main.body.getD i (.Pass ⟨0, 0, 0, 0⟩)
abbrev sDraw : Stmt := top 42
/-- the stream at p, its cells at c, at most n draws so far -/
def StrN (H : Hp) (p c : Addr) (n L : Nat) : Prop := ∃ (cells : List Int) (a k m : Int), H p = some (.lst [.ref c, .int a, .int k, .int m]) ∧ H c = some (.lst (cells.map V.int)) ∧ cells.length = L ∧ L ≤ 63 ∧ 0 ≤ a ∧ 0 ≤ k ∧ k ≤ n ∧ 0 ≤ m ∧ m < 2147483647
def StrAt (H : Hp) (p c : Addr) (n : Nat) : Prop := ∃ L, StrN H p c n L
theorem str_ne {H : Hp} {p c : Addr} {n L : Nat} (h : StrN H p c n L) : p ≠ c := by
  obtain ⟨cells, a, k, m, h1, h2, _⟩ := h
  refine ne_of h1 h2 fun z => ?_
  injection z with z
  cases cells with
  | nil => cases z
  | cons i r =>
    rw [List.map_cons] at z
    injection z with z1 z2
    cases z1
theorem StrN.set {H : Hp} {p c : Addr} {n' L : Nat} {cells : List Int} {a k m : Int} (h2 : H c = some (.lst (cells.map V.int))) (hne : p ≠ c) (hL : cells.length = L) (hL' : L ≤ 63) (ha : 0 ≤ a) (hk : 0 ≤ k) (hk' : k ≤ n') (hm : 0 ≤ m) (hm' : m < 2147483647) :
    StrN (upd H p (.lst [.ref c, .int a, .int k, .int m])) p c n' L := ⟨cells, a, k, m, upd_same, by rw [upd_ne hne.symm]; exact h2, hL, hL', ha, hk, hk', hm, hm'⟩
theorem StrN.keep {H H' : Hp} {p c : Addr} {n L : Nat} (h : StrN H p c n L) (e : ∀ b o, H b = some o → H' b = some o) : StrN H' p c n L := by
  obtain ⟨cells, a, k, m, h1, h2, r⟩ := h
  exact ⟨cells, a, k, m, e _ _ h1, e _ _ h2, r⟩
theorem StrAt.keep {H H' : Hp} {p c : Addr} {n : Nat} (h : StrAt H p c n) (e : ∀ b o, H b = some o → H' b = some o) : StrAt H' p c n := by
  obtain ⟨L, h⟩ := h
  exact ⟨L, h.keep e⟩
theorem StrAt.new {H : Hp} {p c q : Addr} {n : Nat} {o : HO} (h : StrAt H p c n) (hq : H q = none) : StrAt (upd H q o) p c n := h.keep fun b u e => by
  rw [upd_ne (ne_of_none e hq)]
  exact e
theorem StrAt.mono {H : Hp} {p c : Addr} {n n' : Nat} (h : StrAt H p c n) (hn : n ≤ n') : StrAt H p c n' := by
  obtain ⟨L, cells, a, k, m, h1, h2, h3, h4, h5, h6, h7, h8⟩ := h
  exact ⟨L, cells, a, k, m, h1, h2, h3, h4, h5, h6, by omega, h8⟩
/-- all but the stream stays -/
def Kp (p c : Addr) (H H' : Hp) : Prop := ∀ b o, H b = some o → b ≠ p → b ≠ c → H' b = some o
theorem Kp.refl {p c : Addr} (H : Hp) : Kp p c H H := fun _ _ e _ _ => e
theorem Kp.trans {p c : Addr} {H H1 H2 : Hp} (a : Kp p c H H1) (b : Kp p c H1 H2) : Kp p c H H2 := fun x o e h1 h2 => b x o (a x o e h1 h2) h1 h2
theorem Kp.new {p c q : Addr} {o : HO} {H H' : Hp} (a : Kp p c H H') (h : H' q = none) : Kp p c H (upd H' q o) := fun x u e h1 h2 => by
  have := a x u e h1 h2
  rw [upd_ne (ne_of_none this h)]
  exact this
theorem Kp.stream {p c : Addr} {o : HO} {H H' : Hp} (a : Kp p c H H') : Kp p c H (upd H' p o) := fun x u e h1 h2 => by
  rw [upd_ne h1]
  exact a x u e h1 h2
theorem Kp.cells {p c : Addr} {o : HO} {H H' : Hp} (a : Kp p c H H') : Kp p c H (upd H' c o) := fun x u e h1 h2 => by
  rw [upd_ne h2]
  exact a x u e h1 h2
theorem StrAt.ne {H : Hp} {p c q : Addr} {n : Nat} (h : StrAt H p c n) (hq : H q = none) : q ≠ p ∧ q ≠ c := by
  obtain ⟨L, cells, a, k, m, h1, h2, r⟩ := h
  exact ⟨(ne_of_none h1 hq).symm, (ne_of_none h2 hq).symm⟩
theorem StrAt.upd {H : Hp} {p c q : Addr} {n : Nat} {o : HO} (h : StrAt H p c n) (h1 : q ≠ p) (h2 : q ≠ c) : StrAt (L2.upd H q o) p c n := by
  obtain ⟨L, cells, a, k, m, e1, e2, r⟩ := h
  exact ⟨L, cells, a, k, m, by rw [upd_ne h1.symm]; exact e1, by rw [upd_ne h2.symm]; exact e2, r⟩
theorem Kp.mut {p c q : Addr} {o : HO} {H H' : Hp} (a : Kp p c H H') (h : H q = none) : Kp p c H (L2.upd H' q o) := fun x u e h1 h2 => by
  rw [upd_ne (ne_of_none e h)]
  exact a x u e h1 h2
theorem seq_nat {n j : Nat} (hj : j < n) : seqIndex? (j : Int) n = some j := (ixN_seq (Evl.ixN_nat hj)).1
/-- len of a list or tuple -/
abbrev rLn (K : PySem.W.Frag) : List V → Hp → VK → Prop := fun xs H Q => ∃ p ys, xs = [.ref p] ∧ (SqL K H p ys ∨ SqT K H p ys) ∧ Q (.int ys.length) H
def spDraw : Sp := fun vs H Q _ => ∃ (p c : Addr) (n : Nat) (many : Int), vs = [.ref p, .int many] ∧ StrAt H p c n ∧ n ≤ 1000000000 ∧ 1 ≤ many ∧ many < 1073741824 ∧
  ∀ (d : Int) (H' : Hp), 0 ≤ d → d < many → Kp p c H H' → StrAt H' p c (n + 1) → Q (.int d) H'
theorem dpa_ints {K : PySem.W.Frag} {H : Hp} : ∀ ns : List Int, DpAll K H (ns.map V.int) (ns.map PyData.int)
  | [] => .nil
  | n :: r => .cons (.int n) (dpa_ints r)
theorem dp_ints {K : PySem.W.Frag} {H : Hp} {a : Addr} {ns : List Int} (h : SqL K H a (ns.map V.int)) : Dp K H (.ref a) (.list (ns.map PyData.int)) := .lst h (dpa_ints ns)
theorem lay_ints : ∀ ns : List Int, PyData.canLayAll0 (ns.map PyData.int) = true
  | [] => by simp [PyData.canLayAll0]
  | n :: r => by simp [PyData.canLayAll0, PyData.canLay0, lay_ints r]
theorem depth_ints : ∀ ns : List Int, PyData.depthAll (ns.map PyData.int) = 0
  | [] => by simp [PyData.depthAll]
  | n :: r => by simp [PyData.depthAll, PyData.depth, depth_ints r]
theorem shaped_ints (ns : List Int) : SeqAt.shaped (.list (ns.map PyData.int)) = true := by
  unfold SeqAt.shaped
  simp [PyData.canLay0, PyData.depth, lay_ints, depth_ints]
theorem eqv_nil_ints : ∀ ns : List Int, PyData.eqv (.list (ns.map PyData.int)) (.list []) = ns.isEmpty
  | [] => by simp [PyData.eqv, PyData.eqvAll]
  | n :: r => by simp [PyData.eqv, PyData.eqvAll]
section
variable {P : Program} {w : World} {K : PySem.W.Frag} {mg : Str → Option Value} {base : Heap}
theorem scDraw : FnScope ["stream", "many", "cell", "digit", "mixed"] ["stream", "many"] (defScope sDraw) := ⟨rfl, rfl, rfl, by decide +kernel, rfl, by decide +kernel, by decide +kernel⟩
theorem ok_draw {f : Addr} {fd : FuncData} (F : FnP K "_law_draw" sDraw f fd) (gI : mg "int" = none) : FnOk P w K mg base CX0 1 f fd ["stream", "many"] spDraw := by
  refine F.ok scDraw (fun vs H Q E h => ?_) (fun cdv A outer s H vs Q E hr h => ?_)
  · obtain ⟨p, c, n, many, rfl, _⟩ := h
    rfl
  · obtain ⟨p, c, n, many, rfl, hS, hn, hm1, hm2, k⟩ := h
    refine ⟨_, PSs.nox (pss_cons (ps_asg (pe_op op_add (pe_ix ix_list (pv 0) pe_int (fun _ _ => rfl)) pe_int) (pg_sub (pv 0) pe_int set_list))
      (Evl.pss_cut (ps_while PassesOwn.never (PW.pt (pw_and (pt_cmpR op_eq (pe_ix ix_list (pv 0) pe_int (fun _ _ => rfl)) pe_int (nomark _)) (pw_and1 (pt_cmpR (op_neD hr.units) (pe_ix ix_list (pv 0) pe_int (fun _ _ => rfl)) (pe_lst pa_nil) (nomark _)))))
        (pss_cons (ps_set (i := 2) scDraw.nd rfl (.inl rfl) (pe_bm PySem.F.plainAttrs_list PySem.F.slot_list_pop PySem.F.type_list_pop mt_popAt (pe_ix ix_list (pv 0) pe_int (fun _ _ => rfl)) (pa_cons pe_int pa_nil)))
        (pss_cons (ps_asg (pe_op op_mod (pe_callTy call_int1 rfl gI (by decide +kernel) (pa_cons (pe_op op_add (pe_op op_add (pe_op op_mul (pe_ix ix_list (pv 0) pe_int (fun _ _ => rfl)) pe_int) (pv 2)) pe_int) pa_nil)) pe_int) (pg_sub (pv 0) pe_int set_list))
        (pss_one (ps_asg (pe_ifExp (pt_cmpR op_ge (pv 2) (pe_op op_pow pe_int pe_int) (nomark _)) (pv 2) pe_int) (pg_sub (pv 0) pe_int set_list))))))
      (pss_cons (ps_if (pt_cmpR op_gt (pe_ix ix_list (pv 0) pe_int (fun _ _ => rfl)) pe_int (nomark _))
        (pss_cons (ps_set (i := 3) scDraw.nd rfl (.inl rfl) (pe_op op_mod (pe_callTy call_int1 rfl gI (by decide +kernel) (pa_cons (pe_ix ix_list (pv 0) pe_int (fun _ _ => rfl)) pa_nil)) (pv 1)))
        (pss_cons (ps_asg (pe_op op_fdiv (pe_ix ix_list (pv 0) pe_int (fun _ _ => rfl)) (pv 1)) (pg_sub (pv 0) pe_int set_list))
        (pss_one (ps_ret (pv 3))))) pss_nil)
      (pss_cons (ps_set (i := 4) scDraw.nd rfl (.inl rfl) (pe_op op_mod (pe_callTy call_int1 rfl gI (by decide +kernel) (pa_cons (pe_op op_pow (pe_op op_add (pe_op op_add (pe_ix ix_list (pv 0) pe_int (fun _ _ => rfl)) (pe_op op_mul pe_int (pe_ix ix_list (pv 0) pe_int (fun _ _ => rfl)))) pe_int) pe_int) pa_nil)) pe_int))
      (pss_one (ps_ret (pe_op op_mod (pe_op op_mod (pe_callTy call_int1 rfl gI (by decide +kernel) (pa_cons (pe_op op_pow (pe_op op_add (pe_op op_add (pe_op op_mul (pv 4) pe_int) (pe_op op_mul pe_int (pe_ix ix_list (pv 0) pe_int (fun _ _ => rfl)))) pe_int) pe_int) pa_nil)) pe_int) (pv 1)))))))), ?_⟩
    obtain ⟨L, hS⟩ := hS
    have hpc := str_ne hS
    obtain ⟨cells, a, kk, m, h1, h2, hL, hL6, ha, hk0, hk, hm0, hm⟩ := hS
    refine ⟨_, rfl, p, _, _, _, rfl, rfl, SqL.of h1, rfl, _, _, rfl, rfl, _, rfl, p, _, _, 2, rfl, rfl, h1, rfl, ?_⟩
    show tSeq _ _ _ _ (upd H p (.lst [.ref c, .int a, .int (kk + 1), .int m]))
    have S1 : StrN (upd H p (.lst [.ref c, .int a, .int (kk + 1), .int m])) p c (n + 1) L := StrN.set h2 hpc hL hL6 ha (by omega) (by omega) hm0 hm
    have K1 : Kp p c H (upd H p (.lst [.ref c, .int a, .int (kk + 1), .int m])) := (Kp.refl H).stream
    generalize upd H p (.lst [.ref c, .int a, .int (kk + 1), .int m]) = H1 at S1 K1
    refine ⟨fun σ H' => ∃ v2 v3 v4, σ = [some (.ref p), some (.int many), v2, v3, v4] ∧ Kp p c H H' ∧ ∃ L, StrN H' p c (n + 1) L, ⟨fun L σ H' => ∃ v2 v3 v4, σ = [some (.ref p), some (.int many), v2, v3, v4] ∧ Kp p c H H' ∧ StrN H' p c (n + 1) L, ⟨L, none, none, none, rfl, K1, S1⟩, ?_⟩, ?_⟩
    · rintro L' σ H' ⟨v2, v3, v4, rfl, K2, S2⟩
      obtain ⟨cells', a', k', m', g1, g2, gL, gL6, ga, gk0, gk, gm0, gm⟩ := id S2
      refine ⟨_, rfl, p, _, _, _, rfl, rfl, SqL.of g1, rfl, rfl, _, rfl, ?_⟩
      refine ite2 (fun hz => ?_) (fun hz => ⟨v2, v3, v4, rfl, K2, L', S2⟩)
      refine ⟨_, rfl, p, _, _, _, rfl, rfl, SqL.of g1, rfl, Nat.zero_le _, fun q hq => ?_⟩
      have nqp : p ≠ q := ne_of_none g1 hq
      have nqc : c ≠ q := ne_of_none g2 hq
      have S3 : StrN (upd H' q (.lst [])) p c (n + 1) L' := S2.keep fun b u e => by rw [upd_ne (ne_of_none e hq)]; exact e
      have K3 : Kp p c H (upd H' q (.lst [])) := K2.new hq
      refine ⟨_, _, dp_ints (ns := cells') (SqL.of (by rw [upd_ne nqc]; exact g2)), dp_ints (ns := []) (SqL.of upd_same), shaped_ints _, shaped_ints _, _, rfl, ?_⟩
      rw [show (List.map PyData.int ([] : List Int)) = [] from rfl, eqv_nil_ints]
      have g1' : upd H' q (.lst []) p = some (.lst [.ref c, .int a', .int k', .int m']) := by rw [upd_ne nqp]; exact g1
      have g2' : upd H' q (.lst []) c = some (.lst (cells'.map V.int)) := by rw [upd_ne nqc]; exact g2
      generalize upd H' q (.lst []) = H3 at S3 K3 g1' g2'
      cases cells' with
      | nil => exact iteF ⟨v2, v3, v4, rfl, K3, L', S3⟩
      | cons z r =>
        refine iteT ⟨fun σ' H' => ∃ v2 v3 v4, σ' = [some (.ref p), some (.int many), v2, v3, v4] ∧ Kp p c H H' ∧ StrN H' p c (n + 1) r.length, fun σ' H' q => ⟨r.length, by rw [← gL]; exact Nat.lt_succ_self _, q⟩, ?_⟩
        refine ⟨_, rfl, p, _, _, _, rfl, rfl, SqL.of g1', rfl, .inl ⟨rfl, _, SqL.of g2'⟩, c, _, 0, 0, .int z, rfl, rfl, g2', by decide, by decide, by unfold seqIndex?; simp, rfl, ?_⟩
        have hr63 : r.length ≤ 63 := by
          rw [List.length_cons] at gL
          omega
        have g1c : upd H3 c (.lst (r.map V.int)) p = some (.lst [.ref c, .int a', .int k', .int m']) := by rw [upd_ne hpc]; exact g1'
        have g2c : upd H3 c (.lst (r.map V.int)) c = some (.lst (r.map V.int)) := upd_same
        have K4 : Kp p c H (upd H3 c (.lst (r.map V.int))) := K3.cells
        show tSeq _ _ _ _ (upd H3 c (.lst (r.map V.int)))
        generalize upd H3 c (.lst (r.map V.int)) = H4 at g1c g2c K4
        refine ⟨_, rfl, p, _, _, _, rfl, rfl, SqL.of g1c, rfl, _, _, rfl, rfl, .inr (by decide), _, rfl, _, _, rfl, rfl, _, _, rfl, rfl, .inl ⟨_, rfl, _, _, rfl, rfl, by show (0 : Int) < 2147483647; decide, ?_⟩⟩
        have hmm := Int.emod_nonneg (m' * 8191 + z + 3) (b := 2147483647) (by decide)
        have hmm2 := Int.emod_lt_of_pos (m' * 8191 + z + 3) (b := 2147483647) (by decide)
        refine ⟨_, rfl, p, _, _, 3, rfl, rfl, g1c, rfl, ?_⟩
        dsimp only [List.set]
        have g1d : upd H4 p (.lst [.ref c, .int a', .int k', .int ((m' * 8191 + z + 3) % 2147483647)]) p = some (.lst [.ref c, .int a', .int k', .int ((m' * 8191 + z + 3) % 2147483647)]) := upd_same
        have g2d : upd H4 p (.lst [.ref c, .int a', .int k', .int ((m' * 8191 + z + 3) % 2147483647)]) c = some (.lst (r.map V.int)) := by rw [upd_ne hpc.symm]; exact g2c
        have K5 : Kp p c H (upd H4 p (.lst [.ref c, .int a', .int k', .int ((m' * 8191 + z + 3) % 2147483647)])) := K4.stream
        generalize upd H4 p (.lst [.ref c, .int a', .int k', .int ((m' * 8191 + z + 3) % 2147483647)]) = H5 at g1d g2d K5
        refine ⟨_, rfl, _, _, rfl, rfl, ⟨by decide, by decide, by decide⟩, _, _, rfl, rfl, _, rfl, ?_⟩
        refine ite2 (fun hge => ⟨_, rfl, _, rfl, p, _, _, 1, rfl, rfl, g1d, rfl, ?_⟩) (fun _ => ⟨_, rfl, p, _, _, 1, rfl, rfl, g1d, rfl, ?_⟩)
        · have hz0 : 0 ≤ z := by
            have := of_decide_eq_true hge
            have e : (10 : Int) ^ (18 : Int).toNat = 1000000000000000000 := by decide
            rw [e] at this
            omega
          exact ⟨_, _, _, rfl, K5.stream, StrN.set g2d hpc rfl hr63 hz0 gk0 gk hmm hmm2⟩
        · exact ⟨_, _, _, rfl, K5.stream, StrN.set g2d hpc rfl hr63 (Int.le_refl 0) gk0 gk hmm hmm2⟩
    · rintro σ H' ⟨v2, v3, v4, rfl, K2, L', S2⟩
      obtain ⟨cells', a', k', m', g1, g2, gL, gL6, ga, gk0, gk, gm0, gm⟩ := id S2
      refine ⟨_, rfl, p, _, _, _, rfl, rfl, SqL.of g1, rfl, _, _, rfl, rfl, _, rfl, ?_⟩
      refine ite2 (fun hz => ?_) (fun hz => ?_)
      · have hpos : 0 < a' := of_decide_eq_true hz
        refine ⟨_, rfl, p, _, _, _, rfl, rfl, SqL.of g1, rfl, .inl ⟨_, rfl, _, rfl, _, _, rfl, rfl, by show (0 : Int) < many; omega, ?_⟩⟩
        refine ⟨_, rfl, p, _, _, _, rfl, rfl, SqL.of g1, rfl, _, rfl, _, _, rfl, rfl, ⟨by omega, by omega⟩, _, rfl, p, _, _, 1, rfl, rfl, g1, rfl, ?_⟩
        refine ⟨_, rfl, ?_⟩
        refine k _ _ (Int.emod_nonneg _ (by omega)) (Int.emod_lt_of_pos _ (by omega)) K2.stream ⟨L', StrN.set g2 hpc gL gL6 (Int.ediv_nonneg (by omega) (by omega)) gk0 gk gm0 gm⟩
      · have b1 : 0 ≤ m' + 7919 * k' + 104729 := by omega
        have b2 : m' + 7919 * k' + 104729 < 2 ^ 60 := by omega
        refine ⟨_, rfl, p, _, _, _, rfl, rfl, SqL.of g1, rfl, _, rfl, p, _, _, _, rfl, rfl, SqL.of g1, rfl, _, _, rfl, rfl, .inl (by decide), _, _, rfl, rfl, _, _, rfl, rfl, _, _, rfl, rfl, ⟨by decide, by decide, by omega⟩, .inl ⟨_, rfl, _, _, rfl, rfl, by show (0 : Int) < 2147483629; decide, ?_⟩⟩
        have hmm := Int.emod_nonneg ((m' + 7919 * k' + 104729) ^ (5 : Int).toNat) (b := 2147483629) (by decide)
        have hmm2 := Int.emod_lt_of_pos ((m' + 7919 * k' + 104729) ^ (5 : Int).toNat) (b := 2147483629) (by decide)
        dsimp only [gName]
        generalize (m' + 7919 * k' + 104729) ^ (5 : Int).toNat % 2147483629 = mx at hmm hmm2 ⊢
        refine ⟨_, rfl, _, _, rfl, rfl, .inr (by decide), _, rfl, p, _, _, _, rfl, rfl, SqL.of g1, rfl, _, _, rfl, rfl, .inl (by decide), _, _, rfl, rfl, _, _, rfl, rfl, _, _, rfl, rfl, ⟨by decide, by decide, by omega⟩, .inl ⟨_, rfl, _, _, rfl, rfl, by show (0 : Int) < 1000000007; decide, _, rfl, _, _, rfl, rfl, by show (0 : Int) < many; omega, ?_⟩⟩
        exact k _ _ (Int.emod_nonneg _ (by omega)) (Int.emod_lt_of_pos _ (by omega)) K2 ⟨L', S2⟩

/-! ### _law_start, _law_pick, _law_mixed -/
abbrev sStart : Stmt := top 41
def spStart (K : PySem.W.Frag) : Sp := fun vs H Q _ => ∃ (a : Addr) (ns : List Int), vs = [.ref a] ∧ SqL K H a (ns.map V.int) ∧ ns.length ≤ 63 ∧
  ∀ (p c : Addr) (H' : Hp), H p = none → H c = none → (∀ b o, H b = some o → H' b = some o) → StrAt H' p c 0 → Q (.ref p) H'
theorem scStart : FnScope ["script"] ["script"] (defScope sStart) := ⟨rfl, rfl, rfl, by decide +kernel, rfl, by decide +kernel, by decide +kernel⟩
theorem ok_start {f : Addr} {fd : FuncData} (F : FnP K "_law_start" sStart f fd) (gL : mg "list" = none) : FnOk P w K mg base CX0 1 f fd ["script"] (spStart K) := by
  refine F.ok scStart (fun vs H Q E h => ?_) (fun cdv A outer s H vs Q E hr h => ?_)
  · obtain ⟨a, ns, rfl, _⟩ := h
    rfl
  · obtain ⟨a, ns, rfl, hS, hl, k⟩ := h
    refine ⟨_, PSs.nox (pss_one (ps_ret (pe_lst (pa_cons (pe_callTy call_list_of rfl gL (by decide +kernel) (pa_cons (pv 0) pa_nil)) (pa_cons pe_int (pa_cons pe_int (pa_cons pe_int pa_nil))))))), ?_⟩
    refine ⟨_, rfl, a, _, rfl, .inl hS, fun c hc => ⟨by show 4 ≤ sizeLine; decide, fun p hp => ?_⟩⟩
    have hpc : p ≠ c := fun e => by
      rw [e, upd_same] at hp
      cases hp
    refine k p c _ (by rw [upd_ne hpc] at hp; exact hp) hc (fun b o e => ?_) ⟨ns.length, ns, 0, 0, 11, upd_same, by rw [upd_ne hpc.symm]; exact upd_same, rfl, hl, Int.le_refl _, Int.le_refl _, Int.le_refl _, by decide, by decide⟩
    have hbc := ne_of_none e hc
    have hbp : b ≠ p := fun z => by
      rw [z] at e
      rw [upd_ne hpc, e] at hp
      cases hp
    rw [upd_ne hbp, upd_ne hbc]
    exact e

abbrev sPick : Stmt := top 43
/-- some: a list | a tuple that is no part of the stream -/
def spPick (K : PySem.W.Frag) : Sp := fun vs H Q _ => ∃ (p c l : Addr) (n : Nat) (xs : List V), vs = [.ref p, .ref l] ∧ StrAt H p c n ∧ n ≤ 1000000000 ∧ l ≠ p ∧ l ≠ c ∧ (H l = some (.lst xs) ∨ H l = some (.tup xs)) ∧ 1 ≤ xs.length ∧ xs.length < 1000000 ∧
  ∀ (x : V) (j : Nat) (H' : Hp), xs[j]? = some x → Kp p c H H' → StrAt H' p c (n + 1) → Q x H'
theorem scPick : FnScope ["stream", "some"] ["stream", "some"] (defScope sPick) := ⟨rfl, rfl, rfl, by decide +kernel, rfl, by decide +kernel, by decide +kernel⟩
theorem ok_pick {f fD : Addr} {fd fdD : FuncData} (F : FnP K "_law_pick" sPick f fd) (FD : FnP K "_law_draw" sDraw fD fdD) (gI : mg "int" = none) (gD : mg "_law_draw" = some (.ref fD)) (gL : mg "len" = none) : FnOk P w K mg base CX0 2 f fd ["stream", "some"] (spPick K) := by
  have GD : FnOk P w K mg base CX0 1 fD fdD ["stream", "many"] spDraw := ok_draw FD gI
  have bD : Binds K fdD ["stream", "many"] [] := FD.bindsN fun _ _ _ _ _ _ us hl => match us, hl with | [_, _], _ => rfl
  refine F.ok scPick (fun vs H Q E h => ?_) (fun cdv A outer s H vs Q E hr h => ?_)
  · obtain ⟨p, c, l, n, xs, rfl, _⟩ := h
    rfl
  · obtain ⟨p, c, l, n, xs, rfl, hS, hn, hlp, hlc, hl, h1, h2, k⟩ := h
    refine ⟨_, PSs.nox (pss_one (ps_ret (pe_ix ix_seq (pv 1) (pe_call GD hr rfl gD FD.kp bD .nil pass0 (pa_cons (pv 0) (pa_cons (pe_callB call_len_seq (by rfl) gL PySem.boot_len (pa_cons (pv 1) pa_nil)) pa_nil))) (fun _ _ => rfl)))), ?_⟩
    refine ⟨_, rfl, _, rfl, _, rfl, l, xs, rfl, hl.imp SqL.of SqT.of, p, c, n, (xs.length : Int), rfl, hS, hn, by omega, by omega, fun d H' d0 d1 hK hS' => ?_⟩
    obtain ⟨j, rfl⟩ : ∃ j : Nat, d = (j : Int) := ⟨d.toNat, by omega⟩
    have hj : j < xs.length := by omega
    have ex : xs[j]? = some xs[j] := List.getElem?_eq_getElem hj
    rcases hl with hl | hl
    · exact .inl ⟨l, xs, (j : Int), _, rfl, rfl, SqL.of (hK l _ hl hlp hlc), atI_nat ex, k _ j _ ex hK hS'⟩
    · exact .inr (.inl ⟨l, xs, (j : Int), _, rfl, rfl, SqT.of (hK l _ hl hlp hlc), atI_nat ex, k _ j _ ex hK hS'⟩)

abbrev sMixed : Stmt := top 44
def spMixed (K : PySem.W.Frag) : Sp := fun vs H Q _ => ∃ (p c l : Addr) (n : Nat) (xs : List V), vs = [.ref p, .ref l] ∧ StrAt H p c n ∧ n + xs.length ≤ 1000000000 ∧ (SqL K H l xs ∨ SqT K H l xs) ∧ xs.length ≤ 1000 ∧
  ∀ (q : Addr) (ys : List V) (H' : Hp), H q = none → H' q = some (.lst ys) → ys.Perm xs → Kp p c H H' → StrAt H' p c (n + xs.length) → Q (.ref q) H'
theorem perm_erase {α : Type} {l : List α} {j : Nat} {x : α} (h : l[j]? = some x) : (x :: l.eraseIdx j).Perm l := by
  induction l generalizing j with
  | nil => simp at h
  | cons a r ih =>
    cases j with
    | zero =>
      simp only [List.getElem?_cons_zero, Option.some.injEq] at h
      subst h
      simp
    | succ j =>
      simp only [List.getElem?_cons_succ] at h
      rw [List.eraseIdx_cons_succ]
      exact (List.Perm.swap a x _).trans ((ih h).cons a)
theorem scMixed : FnScope ["stream", "some", "left", "k"] ["stream", "some"] (defScope sMixed) := ⟨rfl, rfl, rfl, by decide +kernel, rfl, by decide +kernel, by decide +kernel⟩
theorem ok_mixed {f fD : Addr} {fd fdD : FuncData} (F : FnP K "_law_mixed" sMixed f fd) (FD : FnP K "_law_draw" sDraw fD fdD) (gI : mg "int" = none) (gD : mg "_law_draw" = some (.ref fD)) (gL : mg "len" = none) (gLi : mg "list" = none) (gR : mg "range" = none) : FnOk P w K mg base CX0 2 f fd ["stream", "some"] (spMixed K) := by
  have GD : FnOk P w K mg base CX0 1 fD fdD ["stream", "many"] spDraw := ok_draw FD gI
  have bD : Binds K fdD ["stream", "many"] [] := FD.bindsN fun _ _ _ _ _ _ us hl => match us, hl with | [_, _], _ => rfl
  refine F.ok scMixed (fun vs H Q E h => ?_) (fun cdv A outer s H vs Q E hr h => ?_)
  · obtain ⟨p, c, l, n, xs, rfl, _⟩ := h
    rfl
  · obtain ⟨p, c, l, n, xs, rfl, hS, hn, hl, hx, k⟩ := h
    refine' ⟨_, PSs.nox (pss_cons (ps_set (i := 2) scMixed.nd rfl (.inr rfl) (pe_callTy call_list_of rfl gLi (by decide +kernel) (pa_cons (pv 1) pa_nil)))
      (pss_one (ps_ret ?lc))), ?rd⟩
    case lc =>
      refine pe_lc (own := [("k", 3)]) (g := gName 3) (tt := tYes) (te := tBM K "list" rPopAt (tVar 2) (tCons (tCall spDraw [] E0 (tCons (tVar 0) (tCons (tCB (rLn K) (tCons (tVar 2) tNil)) tNil))) tNil)) rfl scMixed.nd (pi_range1 rfl gR (pa_cons (pe_callB call_len_seq (by rfl) gL PySem.boot_len (pa_cons (pv 2) pa_nil)) pa_nil))
        (blkOk_by (own := [("k", 3)]) (N := ["stream", "some", "left", "k"]) (sc := defScope sMixed) (by decide +kernel)) (fun _ _ _ _ _ => pg_name (i := 3) scMixed.nd rfl (.inl rfl)) (fun _ _ _ _ _ => pts_nil) ?_
      intro _ _ _ _ _
      exact pe_bm PySem.F.plainAttrs_list PySem.F.slot_list_pop PySem.F.type_list_pop mt_popAt (pv 2) (pa_cons (pe_call GD hr rfl gD FD.kp bD .nil pass0 (pa_cons (pv 0) (pa_cons (pe_callB call_len_seq (by rfl) gL PySem.boot_len (pa_cons (pv 2) pa_nil)) pa_nil))) pa_nil)
    refine ⟨_, rfl, l, xs, rfl, hl, fun t ht => ?_⟩
    have S1 : StrAt (upd H t (.lst xs)) p c n := hS.new ht
    refine ⟨_, rfl, t, xs, rfl, .inl (SqL.of upd_same), _, rfl, by omega, by omega, fun D hD => ?_⟩
    have hDt : t ≠ D := ne_of_none upd_same hD
    have hDH : H D = none := by rw [upd_ne hDt.symm] at hD; exact hD
    refine lc_range (lo := 0) (n := ((xs.length : Nat) : Int).toNat) (fun i H' => ∃ (left acc : List V), H' t = some (.lst left) ∧ H' D = some (.lst acc) ∧ left.length + i = xs.length ∧ acc.length = i ∧ (acc ++ left).Perm xs ∧ Kp p c H H' ∧ StrAt H' p c (n + i)) ?_ ?_ ?_
    · exact ⟨xs, [], by rw [upd_ne hDt]; exact upd_same, upd_same, by omega, rfl, List.Perm.refl _, ((Kp.refl H).new ht).new hD, S1.new hD⟩
    · rintro i H1 hi ⟨left, acc, e1, e2, e3, e4, e5, e6, e7⟩
      have hil : i < xs.length := by omega
      refine ⟨rfl, _, rfl, .inl ⟨rfl, _, SqL.of e1⟩, ?_⟩
      refine ⟨_, rfl, _, rfl, t, left, rfl, .inl (SqL.of e1), p, c, n + i, (left.length : Int), rfl, e7, by omega, by omega, by omega, fun d H2 d0 d1 hK hS2 => ?_⟩
      obtain ⟨S7a, S7b⟩ := hS.ne ht
      obtain ⟨S8a, S8b⟩ := hS.ne hDH
      obtain ⟨j, rfl⟩ : ∃ j : Nat, d = (j : Int) := ⟨d.toNat, by omega⟩
      have hj : j < left.length := by omega
      have ex : left[j]? = some left[j] := List.getElem?_eq_getElem hj
      have f1 := hK t _ e1 S7a S7b
      have f2 := hK D _ e2 S8a S8b
      refine ⟨t, left, (j : Int), j, left[j], rfl, rfl, f1, by omega, by omega, seq_nat hj, ex, ?_⟩
      refine ⟨acc, by rw [upd_ne hDt.symm]; exact f2, Nat.lt_of_lt_of_le (show acc.length < 1000 by omega) (by decide), left.eraseIdx j, acc ++ [left[j]], ?_, upd_same, ?_, ?_, ?_, ?_, ?_⟩
      · rw [upd_ne hDt]
        exact upd_same
      · rw [List.length_eraseIdx_of_lt hj]
        omega
      · rw [List.length_append, e4]
        rfl
      · refine List.Perm.trans ?_ e5
        rw [List.append_assoc]
        exact (perm_erase ex).append_left acc
      · exact ((e6.trans hK).mut ht).mut hDH
      · exact (hS2.upd S7a S7b).upd S8a S8b
    · rintro H1 ⟨left, acc, e1, e2, e3, e4, e5, e6, e7⟩
      have h0 : left = [] := by
        have : left.length = 0 := by omega
        exact List.length_eq_zero_iff.mp this
      subst h0
      have e8 : ((xs.length : Nat) : Int).toNat = xs.length := by omega
      rw [e8] at e7
      exact k D acc H1 hDH e2 (by rw [List.append_nil] at e5; exact e5) e6 e7
end
end K02

namespace Sq
open PySem PySem.Spec PyProof.Rows L2
/-! ### a list or a tuple, by a flag: t true for a tuple -/
def SqK (K : PySem.W.Frag) (H : Hp) (t : Bool) (a : Addr) (xs : List V) : Prop := match t with
  | true => SqT K H a xs
  | false => SqL K H a xs
def IsSq (t : Bool) (h : Heap) (a : Addr) (its : Array Value) : Prop := match t with
  | true => h.IsTuple a its
  | false => h.IsList a its
def IsIt (t : Bool) (h : Heap) (it a : Addr) (i : Nat) : Prop := match t with
  | true => h.IsTupleIter it a i
  | false => h.IsListIter it a i
def itObj (t : Bool) (a : Addr) : Obj := match t with
  | true => { cls := .type "tuple_iterator", data := .fields #[.ref a, .int 0 0] }
  | false => { cls := .type "list_iterator", data := .fields #[.ref a, .int 0 0] }
theorem itObj_it {t : Bool} {h : Heap} {it a : Addr} (e : h.get? it = some (itObj t a)) : IsIt t h it a 0 := by
  cases t <;> exact ⟨_, e, rfl, rfl⟩
theorem IsIt.at_ {t : Bool} {h h' : Heap} {it a : Addr} {i : Nat} (x : IsIt t h it a i) (k : ∀ o, h.get? it = some o → h'.get? it = some o) : IsIt t h' it a i := by
  cases t with
  | true => exact Heap.IsTupleIter.at x k
  | false => exact Heap.IsListIter.at x k
theorem IsIt.obj {t : Bool} {h : Heap} {it a : Addr} {i : Nat} (x : IsIt t h it a i) : ∃ o, h.get? it = some o ∧ ∀ v, o.data ≠ .cell v := by
  cases t <;> (obtain ⟨o, h1, _, h2⟩ := x; exact ⟨o, h1, fun v q => by rw [h2] at q; cases q⟩)
theorem draws {t : Bool} {prog : Program} {w : World} {A : Around} (hh : A.handled = none) (it a : Addr) (hne : a ≠ it) (its : Array Value) :
    Draws prog w A it [it, a] its.size (fun i v => its[i]? = some v) (fun i h => IsIt t h it a i ∧ IsSq t h a its) := by
  cases t with
  | true => exact Draws.tuple hh it a hne its
  | false => exact Draws.list hh it a hne its
theorem begins (t : Bool) (a : Addr) (its : Array Value) : Begins (.ref a) (itObj t a) fun h => IsSq t h a its := by
  cases t with
  | true => exact begins_tuple a its
  | false => exact begins_list a its
section
variable {X : Cx} {pins : List (Addr × Obj)} {σ : L2.St} {H : Hp} {s : Shared} {a : Addr} {xs ys : List V} {t : Bool}
theorem sq_get (I : Inv X pins σ H s) (h : SqK X.K H t a xs) : ∃ its : List Value, Vals xs its ∧ IsSq t s.heap a its.toArray := by
  cases t with
  | true =>
    obtain ⟨its, r, p, _⟩ := I.tuple h
    exact ⟨its, r, p⟩
  | false =>
    obtain ⟨its, r, p, _⟩ := I.list h
    exact ⟨its, r, p.isList⟩
theorem sq_inj (I : Inv X pins σ H s) (h : SqK X.K H t a xs) (h' : SqK X.K H t a ys) : xs = ys := by
  cases t with
  | true => exact I.tuple_inj h h'
  | false => exact I.list_inj h h'
theorem sq_live (I : Inv X pins σ H s) (h : SqK X.K H t a xs) : a < s.heap.objs.size := by
  obtain ⟨its, _, q⟩ := sq_get I h
  cases t <;> (obtain ⟨o, e, _⟩ := q; exact Heap.lt_size e)
end
theorem keepSq {t : Bool} {h h' : Heap} {a : Addr} {its : Array Value} (x : IsSq t h a its) (k : ∀ o, h.get? a = some o → h'.get? a = some o) : IsSq t h' a its := by
  cases t with
  | true =>
    obtain ⟨o, e, r⟩ := x
    exact ⟨o, k o e, r⟩
  | false =>
    obtain ⟨o, e, r⟩ := x
    exact ⟨o, k o e, r⟩
/-! ### enumerate of either -/
def ItE (K : PySem.W.Frag) (t : Bool) (a : Addr) : It :=
  ⟨fun i H => ∃ (xs : List V) (x : V), SqK K H t a xs ∧ xs[i]? = some x, fun i H v H' => ∃ T x, v = .ref T ∧ H T = none ∧ H' = upd H T (.tup [.int (i : Nat), x]) ∧ ∀ xs, SqK K H t a xs → xs[i]? = some x, fun i H => ∃ xs : List V, SqK K H t a xs ∧ xs.length = i⟩
theorem turnE {P : Program} {w : World} {K : PySem.W.Frag} {elts : List Expr} {kk : Nat} {tpos : Pos} (t : Bool) (a e it : Addr) (hne : e ≠ it) (hea : e ≠ a) (hia : a ≠ it) :
    Turn P w K (.Tuple elts kk tpos) (ItE K t a) [e, it] e (fun i h => (∃ old, IsEnum h e it (0 + (i : Int)) old) ∧ IsIt t h it a i) where
  mem := by simp
  obj := fun i h st b hb => by
    obtain ⟨⟨old, he⟩, hi⟩ := st
    rcases List.mem_cons.mp hb with z | z
    · rw [z]
      exact ⟨_, he, fun v q => nomatch q⟩
    · rw [List.mem_singleton.mp z]
      exact hi.obj
  keep := fun i h h' st k => by
    obtain ⟨⟨old, he⟩, hi⟩ := st
    exact ⟨⟨old, k e (by simp) _ he⟩, hi.at_ fun o q => k it (by simp) o q⟩
  item := by
    intro X hP hw hK hc i pins s σ H E I hf st hg
    subst hP hw hK
    obtain ⟨he, hi⟩ := st
    obtain ⟨xs, x, hq, hx⟩ := hg
    obtain ⟨its, rv, hsq⟩ := sq_get I hq
    obtain ⟨u, hu, ru⟩ := rv.get hx
    have hlt : i < its.toArray.size := by simpa using (List.getElem?_eq_some_iff.mp hu).1
    have hal := sq_live I hq
    have WT := WalksT.enumFrom (prog := X.prog) (w := X.w) (A := X.A) 0 (draws (t := t) (A := X.A.in1) (I.ok.hd hc) it a hia its.toArray) e hne (by simp [hne, hea]) (by simp)
    refine WT.item i s _ _ hlt ⟨he, hi, hsq⟩ fun T vals h' tk hv hT htup hmid hk => ?_
    refine ⟨_, rfl, WT.go elts kk tpos i T _ _ _ hmid fun h'' st' hk2 => ?_⟩
    obtain ⟨tok, y, hy, rfl⟩ := hv
    have ey : y = u := by
      have q : its.toArray[i]? = some u := by simpa using hu
      exact Option.some.inj (hy.symm.trans q)
    subst ey
    have tw := WT.apart i T _ hmid
    have new : ObjOk X.prog X.w (upd H T (.tup [.int (i : Nat), x])) h'' T (.tup [.int (i : Nat), x]) := by
      obtain ⟨o, ho, hcl, n, hd⟩ := htup
      refine ⟨by show 2 ≤ sizeLine; decide, [.int (0 + (i : Int)) tok, y], .cons ⟨tok, by rw [Int.zero_add]⟩ (.cons ru .nil), ⟨o, hk2 T o tw ho, hcl, n, hd⟩⟩
    have I1 : Inv X pins σ (upd H T (.tup [.int (i : Nat), x])) { s with heap := h'', toks := tk } := I.turnedNew (ch := [e, it]) (fun b o hb q => hk2 b o hb (hk b o hb q)) hf hT new
    have hn : H T = none := I.hok.fresh hT
    refine ⟨.ref T, _, I1, rfl, ⟨T, x, rfl, hn, rfl, fun zs hz => by rw [sq_inj I hz hq]; exact hx⟩, ⟨?_, st'.2.1⟩, fun b hb => ?_⟩
    · exact st'.1
    · have hbs : b < s.heap.objs.size := by
        rcases List.mem_cons.mp hb with z | z
        · obtain ⟨old, q⟩ := he
          rw [z]
          exact Heap.lt_size q
        · obtain ⟨o, q, _⟩ := hi.obj
          rw [List.mem_singleton.mp z]
          exact Heap.lt_size q
      rw [upd_ne (Nat.ne_of_lt (Nat.lt_of_lt_of_le hbs hT))]
      exact (hf b hb).1
  done := by
    intro X hP hw hK hc i pins s σ H E I hf st hg
    subst hP hw hK
    obtain ⟨he, hi⟩ := st
    obtain ⟨xs, hq, hx⟩ := hg
    obtain ⟨its, rv, hsq⟩ := sq_get I hq
    have hl := rv.length
    have en : its.toArray.size = i := by
      rw [List.size_toArray]
      omega
    have WT := WalksT.enumFrom (prog := X.prog) (w := X.w) (A := X.A) 0 (draws (t := t) (A := X.A.in1) (I.ok.hd hc) it a hia its.toArray) e hne (by simp [hne, hea]) (by simp)
    refine WT.done s _ _ (by rw [en]; exact ⟨he, hi, hsq⟩) fun h' tk hk => ⟨rfl, I.turnedL (ch := [e, it]) (fun b o hb q => hk b o hb q) hf⟩
  self := fun A i s Q E st h => let ⟨⟨_, he⟩, _⟩ := st; wpAny_pyIter_enum he h
theorem meets_enum {v : Value} {o : Obj} {H : Heap → Prop} (B : Begins v o H) :
    Meets (Builtin.«enumerate.__new__» ⟨[.type "enumerate", v], []⟩) (fun _ R s => H s.heap ∧
      R (.ok (.ret (.ref (s.heap.push o).objs.size))) { s with heap := (s.heap.push o).push { cls := .type "enumerate", data := .fields #[.none, .bool false, .ref s.heap.objs.size, rawInt 0, .none, .none] } }) :=
  .of_wp fun prog w A R s h => by
    obtain ⟨hp, g, d, tk, os⟩ := s
    obtain ⟨h1, h2⟩ := h
    have sub := sub_enumerate
    have it1 : ∀ {A' : Around} {E : Value → Shared → Prop} {Q : Value → Shared → Prop}, Q (.ref hp.objs.size) ⟨hp.push o, g, d, tk, os⟩ → wpAny (model prog w) A' (pyIter v) Q E ⟨hp, g, d, tk, os⟩ :=
      fun q => B.iter prog w _ _ ⟨hp, g, d, tk, os⟩ _ h1 q
    wp_walk using it1
    refine wpAny_stack_any fun st => wpAny_pure ?_
    split
    · rename_i c _ _ _ _ _
      cases (c == Value.type "enumerate") <;> (wp_walk using it1; exact ⟨_, rfl, h2⟩)
    · wp_walk using it1
      exact ⟨_, rfl, h2⟩
theorem call_enum {prog : Program} {w : World} {A : Around} {E : Value → Shared → Prop} {s : Shared} {v : Value} {o : Obj} {H : Heap → Prop} {Q : Value → Shared → Prop} (B : Begins v o H) (h1 : H s.heap)
    (h : ∀ h', IsEnum h' (s.heap.objs.size + 1) s.heap.objs.size 0 .none → h'.get? s.heap.objs.size = some o → (∀ b u, s.heap.get? b = some u → h'.get? b = some u) → Q (.ref (s.heap.objs.size + 1)) { s with heap := h' }) :
    wpAny (model prog w) A (call (.type "enumerate") [v]) Q E s := by
  refine callType_new F.called_enumerate (by decide) (F.typeCall_enumerate_1 _) (F.newCall_enumerate_1 _) (fun obj => F.args_object_init_2 obj _) F.entry_enumerate_new (meets_enum B) ⟨h1, ?_⟩
  have hz : (s.heap.push o).objs.size = s.heap.objs.size + 1 := Heap.size_push ..
  rw [hz]
  have he : IsEnum ((s.heap.push o).push { cls := .type "enumerate", data := .fields #[.none, .bool false, .ref s.heap.objs.size, rawInt 0, .none, .none] }) (s.heap.objs.size + 1) s.heap.objs.size 0 .none := by
    have q := Heap.get?_push_size (s.heap.push o) (o := { cls := .type "enumerate", data := .fields #[.none, .bool false, .ref s.heap.objs.size, rawInt 0, .none, .none] }) rfl
    rw [hz] at q
    exact q
  exact ⟨⟨_, he, rfl⟩, h _ he (Heap.get?_push_of_some _ (Heap.get?_push_size _ B.free)) fun b u x => Heap.get?_push_of_some _ (Heap.get?_push_of_some _ x)⟩
/-- enumerate(e), e a list or a tuple -/
def iEnumA (K : PySem.W.Frag) (ta : TA) : TI := fun σ H R => ta σ H fun vs H1 => ∃ t a xs, vs = [.ref a] ∧ SqK K H1 t a xs ∧ R (ItE K t a) H1
theorem pi_enumA {X : Cx} {e : Expr} {ta : TA} {p pos tpos : Pos} {elts : List Expr} {kk : Nat} (hg : Gl X "enumerate") (hm : X.mg "enumerate" = none) (ha : PA X [e] ta) (hs : starEach [e] X.env = [(false, eval e X.env)] := by rfl) :
    PI X (.Tuple elts kk tpos) (.Call (.Name "enumerate" p) [e] [] pos) (iEnumA X.K ta) := by
  refine ⟨fun pins s σ H R I h => ?_⟩
  refine Call_ (ld_blt I hg hm boot_enumerate (PyProof.Rows.callWith_type1 (thn (ha.run pos pins s σ H _ I h) fun us s1 hh => ?_) hs rfl))
  obtain ⟨vs, H1, I1, r1, t, a, xs, rfl, hq, q⟩ := hh
  cases r1 with
  | cons r rr =>
    cases rr
    cases r
    obtain ⟨its, rv, hsq⟩ := sq_get I1 hq
    have hal := sq_live I1 hq
    refine call_enum (begins t a its.toArray) hsq fun h' he hit hk => wpAny_pyIter_enum he ?_
    have I2 : Inv X pins σ H1 { s1 with heap := h' } := I1.kept (t' := s1.toks) hk
    have n1 : s1.heap.objs.size + 1 ≠ s1.heap.objs.size := Nat.succ_ne_self _
    have n2 : s1.heap.objs.size + 1 ≠ a := Nat.ne_of_gt (Nat.lt_succ_of_lt hal)
    refine ⟨s1.heap.objs.size + 1, _, _, _, H1, rfl, I2, turnE t a (s1.heap.objs.size + 1) s1.heap.objs.size n1 n2 (Nat.ne_of_lt hal), ⟨⟨.none, he⟩, itObj_it hit⟩, fun b hb => ?_, q⟩
    have hle : s1.heap.objs.size ≤ b := by
      rcases List.mem_cons.mp hb with z | z
      · rw [z]
        exact Nat.le_succ _
      · rw [List.mem_singleton.mp z]
        exact Nat.le_refl _
    exact I1.fpOk hle (I1.hok.fresh hle)
theorem walk_enumA {K : PySem.W.Frag} {t : Bool} {a : Addr} {xs : List V} : Walk (ItE K t a) xs.length (fun H => SqK K H t a xs) (YPair (fun i => some (.int (i : Nat))) (fun i => xs[i]?)) where
  goes := fun i _ hi q => ⟨xs, xs[i], q, by simp [hi]⟩
  stops := fun _ q => ⟨xs, q, rfl⟩
  yields := fun i H v H' _ q y => by
    obtain ⟨T, x, h1, h2, h3, h4⟩ := y
    exact ⟨T, .int (i : Nat), x, h1, h2, h3, rfl, h4 xs q⟩
/-! ### zip of two, each a list or a tuple -/
def ItZ (K : PySem.W.Frag) (t1 t2 : Bool) (a b : Addr) : It :=
  ⟨fun i H => ∃ (xs ys : List V) (x y : V), SqK K H t1 a xs ∧ SqK K H t2 b ys ∧ xs[i]? = some x ∧ ys[i]? = some y,
   fun i H v H' => ∃ T x y, v = .ref T ∧ H T = none ∧ H' = upd H T (.tup [x, y]) ∧ (∀ xs, SqK K H t1 a xs → xs[i]? = some x) ∧ ∀ ys, SqK K H t2 b ys → ys[i]? = some y,
   fun i H => ∃ xs ys : List V, SqK K H t1 a xs ∧ SqK K H t2 b ys ∧ min xs.length ys.length = i⟩
def stZ (t1 t2 : Bool) (z TI TO i1 i2 a b : Addr) (i : Nat) (h : Heap) : Prop :=
  IsZip h z TI TO .none ∧ IsTupOf2 h TI (.ref i1) (.ref i2) ∧ (∃ a1 a2, IsTupOf2 h TO a1 a2) ∧ IsIt t1 h i1 a i ∧ IsIt t2 h i2 b i
theorem turnZ {P : Program} {w : World} {K : PySem.W.Frag} {elts : List Expr} {kk : Nat} {tpos : Pos} {t1 t2 : Bool} {z TI TO i1 i2 a b : Addr} (S : ZipSep2 z TI TO i1 i2 [i1, a] [i2, b]) (h1a : a ≠ i1) (h2b : b ≠ i2) (hTa : TI ≠ a) (hTb : TI ≠ b) :
    Turn P w K (.Tuple elts kk tpos) (ItZ K t1 t2 a b) [z, TI, TO, i1, i2] z (stZ t1 t2 z TI TO i1 i2 a b) where
  mem := by simp
  obj := fun i h st c hc => by
    obtain ⟨hz, hTI, ⟨x, y, hTO⟩, d1, d2⟩ := st
    simp only [List.mem_cons, List.not_mem_nil, or_false] at hc
    rcases hc with q | q | q | q | q
    · rw [q]
      exact ⟨_, hz, fun v q => nomatch q⟩
    · rw [q]
      exact ⟨_, hTI, fun v q => nomatch q⟩
    · rw [q]
      exact ⟨_, hTO, fun v q => nomatch q⟩
    · rw [q]
      exact d1.obj
    · rw [q]
      exact d2.obj
  keep := fun i h h' st k => by
    obtain ⟨hz, hTI, ⟨x, y, hTO⟩, d1, d2⟩ := st
    exact ⟨k z (by simp) _ hz, k TI (by simp) _ hTI, ⟨x, y, k TO (by simp) _ hTO⟩, d1.at_ fun o q => k i1 (by simp) o q, d2.at_ fun o q => k i2 (by simp) o q⟩
  item := by
    intro X hP hw hK hc i pins s σ H E I hf st hg
    subst hP hw hK
    obtain ⟨xs, ys, x, y, hqx, hqy, hx, hy⟩ := hg
    obtain ⟨its, rv, hsq⟩ := sq_get I hqx
    obtain ⟨jts, rw', hsr⟩ := sq_get I hqy
    obtain ⟨u, hu, ru⟩ := rv.get hx
    obtain ⟨v, hv, rv2⟩ := rw'.get hy
    have hu' : its.toArray[i]? = some u := by simpa using hu
    have hv' : jts.toArray[i]? = some v := by simpa using hv
    have hlt : i < min its.toArray.size jts.toArray.size := by
      have q1 := (Array.getElem?_eq_some_iff.mp hu').1
      have q2 := (Array.getElem?_eq_some_iff.mp hv').1
      omega
    have WT := WalksT.zipD2 (prog := X.prog) (w := X.w) (A := X.A) S (draws (t := t1) (A := X.A.in1) (I.ok.hd hc) i1 a h1a its.toArray) (draws (t := t2) (A := X.A.in1) (I.ok.hd hc) i2 b h2b jts.toArray)
    obtain ⟨s1, s2, s3, s4, s5⟩ := id st
    refine WT.item i s _ _ hlt ⟨s1, s2, s3, ⟨s4, hsq⟩, ⟨s5, hsr⟩⟩ fun T vals h' tk hvals hT htup hmid hk => ?_
    refine ⟨_, rfl, WT.go elts kk tpos i T _ _ _ hmid fun h'' st' hk2 => ?_⟩
    obtain ⟨x1, y1, e1, e2, rfl⟩ := hvals
    have ex1 : x1 = u := Option.some.inj (e1.symm.trans hu')
    have ey1 : y1 = v := Option.some.inj (e2.symm.trans hv')
    subst ex1 ey1
    have tw := WT.apart i T _ hmid
    have new : ObjOk X.prog X.w (upd H T (.tup [x, y])) h'' T (.tup [x, y]) := by
      obtain ⟨o, ho, hcl, n, hd⟩ := htup
      exact ⟨by show 2 ≤ sizeLine; decide, [x1, y1], .cons ru (.cons rv2 .nil), ⟨o, hk2 T o tw ho, hcl, n, hd⟩⟩
    have sub : ∀ c, c ∈ [z, TO, i1, i2] → c ∈ [z, TI, TO, i1, i2] := fun c hc => by
      simp only [List.mem_cons, List.not_mem_nil, or_false] at hc ⊢
      rcases hc with q | q | q | q
      · exact .inl q
      · exact .inr (.inr (.inl q))
      · exact .inr (.inr (.inr (.inl q)))
      · exact .inr (.inr (.inr (.inr q)))
    have I1 : Inv X pins σ (upd H T (.tup [x, y])) { s with heap := h'', toks := tk } := I.turnedNew (ch := [z, TI, TO, i1, i2]) (fun c o hc q => hk2 c o (fun m => hc (sub c m)) (hk c o (fun m => hc (sub c m)) q)) hf hT new
    have hn : H T = none := I.hok.fresh hT
    obtain ⟨r1, r2, r3, ⟨r4, _⟩, ⟨r5, _⟩⟩ := st'
    refine ⟨.ref T, _, I1, rfl, ⟨T, x, y, rfl, hn, rfl, fun zs hz => by rw [sq_inj I hz hqx]; exact hx, fun zs hz => by rw [sq_inj I hz hqy]; exact hy⟩, ⟨r1, r2, r3, r4, r5⟩, fun c hc => ?_⟩
    have hcs : c < s.heap.objs.size := by
      obtain ⟨a1, a2, s3⟩ := s3
      obtain ⟨o4, q4, _⟩ := s4.obj
      obtain ⟨o5, q5, _⟩ := s5.obj
      simp only [List.mem_cons, List.not_mem_nil, or_false] at hc
      rcases hc with q | q | q | q | q <;> rw [q]
      · exact Heap.lt_size s1
      · exact Heap.lt_size s2
      · exact Heap.lt_size s3
      · exact Heap.lt_size q4
      · exact Heap.lt_size q5
    rw [upd_ne (Nat.ne_of_lt (Nat.lt_of_lt_of_le hcs hT))]
    exact (hf c hc).1
  done := by
    intro X hP hw hK hc i pins s σ H E I hf st hg
    subst hP hw hK
    obtain ⟨xs, ys, hqx, hqy, hend⟩ := hg
    obtain ⟨its, rv, hsq⟩ := sq_get I hqx
    obtain ⟨jts, rw', hsr⟩ := sq_get I hqy
    have l1 := rv.length
    have l2 := rw'.length
    have en : min its.toArray.size jts.toArray.size = i := by
      rw [List.size_toArray, List.size_toArray, ← l1, ← l2]
      exact hend
    have WT := WalksT.zipD2 (prog := X.prog) (w := X.w) (A := X.A) S (draws (t := t1) (A := X.A.in1) (I.ok.hd hc) i1 a h1a its.toArray) (draws (t := t2) (A := X.A.in1) (I.ok.hd hc) i2 b h2b jts.toArray)
    obtain ⟨s1, s2, s3, s4, s5⟩ := id st
    refine WT.done s _ _ (by rw [en]; exact ⟨s1, s2, s3, ⟨s4, hsq⟩, ⟨s5, hsr⟩⟩) fun h' tk hk => ⟨rfl, I.turnedL (ch := [z, TI, TO, i1, i2]) (fun c o hb q => hk c o (fun m => hb ?_) q) hf⟩
    simp only [List.mem_cons, List.not_mem_nil, or_false] at m ⊢
    rcases m with q | q | q | q
    · exact .inl q
    · exact .inr (.inr (.inl q))
    · exact .inr (.inr (.inr (.inl q)))
    · exact .inr (.inr (.inr (.inr q)))
  self := fun A i s Q E st h => wpAny_pyIter_zip st.1 h
/-- zip(e, f), each a list or a tuple -/
def iZip2 (K : PySem.W.Frag) (ta : TA) : TI := fun σ H R => ta σ H fun vs H1 => ∃ t1 t2 a b xs ys, vs = [.ref a, .ref b] ∧ SqK K H1 t1 a xs ∧ SqK K H1 t2 b ys ∧ R (ItZ K t1 t2 a b) H1
theorem pi_zip2 {X : Cx} {e f : Expr} {ta : TA} {p pos tpos : Pos} {elts : List Expr} {kk : Nat} (hg : Gl X "zip") (hm : X.mg "zip" = none) (ha : PA X [e, f] ta) (hs : starEach [e, f] X.env = (false, eval e X.env) :: starEach [f] X.env := by rfl) (hp2 : (backTo pos (starEach [f] X.env)).any (·.1) = false := by rfl) :
    PI X (.Tuple elts kk tpos) (.Call (.Name "zip" p) [e, f] [] pos) (iZip2 X.K ta) := by
  refine ⟨fun pins s σ H R I h => ?_⟩
  refine Call_ (ld_blt I hg hm PyProof.Rows.boot_zip (PyProof.Rows.callWith_type1 (thn (ha.run pos pins s σ H _ I h) fun us s1 hh => ?_) hs hp2))
  obtain ⟨vs, H1, I1, r1, t1, t2, a, b, xs, ys, rfl, hqx, hqy, q⟩ := hh
  cases r1 with
  | cons r rr =>
    cases rr with
    | cons r' rr =>
      cases rr
      cases r
      cases r'
      obtain ⟨its, rv, p1⟩ := sq_get I1 hqx
      obtain ⟨jts, rw', p2⟩ := sq_get I1 hqy
      have la := sq_live I1 hqx
      have lb := sq_live I1 hqy
      refine zip_begins2 (begins t1 a its.toArray) (begins t2 b jts.toArray) p1 p2 fun h' hz hTI hTO d1 d2 hsz hk => wpAny_pyIter_zip hz ?_
      have I2 : Inv X pins σ H1 { s1 with heap := h' } := I1.kept (t' := s1.toks) hk
      refine ⟨s1.heap.objs.size + 4, _, _, _, H1, rfl, I2, turnZ (t1 := t1) (t2 := t2) (TI := s1.heap.objs.size + 2) (TO := s1.heap.objs.size + 3) (i1 := s1.heap.objs.size) (i2 := s1.heap.objs.size + 1) (a := a) (b := b)
        (zip_sep2 (fun c hc => by rw [List.mem_singleton.mp hc]; exact la) (fun c hc => by rw [List.mem_singleton.mp hc]; exact lb)) (Nat.ne_of_lt la) (Nat.ne_of_lt (Nat.lt_succ_of_lt lb)) (Nat.ne_of_gt (Nat.lt_of_lt_of_le la (Nat.le_add_right _ _))) (Nat.ne_of_gt (Nat.lt_of_lt_of_le lb (Nat.le_add_right _ _))),
        ⟨hz, hTI, ⟨_, _, hTO⟩, itObj_it d1, itObj_it d2⟩, fun c hc => ?_, q⟩
      have hle : s1.heap.objs.size ≤ c := by
        simp only [List.mem_cons, List.not_mem_nil, or_false] at hc
        rcases hc with z | z | z | z | z <;> rw [z] <;> first | exact Nat.le_refl _ | exact Nat.le_add_right _ _
      exact I1.fpOk hle (I1.hok.fresh hle)
theorem walk_zip2 {K : PySem.W.Frag} {t1 t2 : Bool} {a b : Addr} {xs ys : List V} {n : Nat} (hn : n = min xs.length ys.length) : Walk (ItZ K t1 t2 a b) n (fun H => SqK K H t1 a xs ∧ SqK K H t2 b ys) (YPair (fun i => xs[i]?) (fun i => ys[i]?)) where
  goes := fun i _ hi q => ⟨xs, ys, xs[i]'(by omega), ys[i]'(by omega), q.1, q.2, by simp, by simp⟩
  stops := fun _ q => ⟨xs, ys, q.1, q.2, hn.symm⟩
  yields := fun i H v H' _ q y => by
    obtain ⟨T, x, y, h1, h2, h3, h4, h5⟩ := y
    exact ⟨T, x, y, h1, h2, h3, h4 xs q.1, h5 ys q.2⟩
end Sq

namespace Exs
open PySem PySem.Spec PyProof.Rows L2
/-! ### an own error class beneath ValueError, whose __init__ keeps one thing -/
def clsB (K : PySem.W.Frag) (C : Addr) : Bool := match K.lookup C with
  | some ⟨.type t, _, .cls cd, sl⟩ => (match cd.mro, sl.toList with
    | .ref D :: bm, [_, _, _, _, some (.builtin n), _] => decide (t = "type") && (decide (D = C) && (decide (n = "ValueError.__new__") && (!cd.hasDel && (cd.hasDict && PySem.HandSPX.refsVE bm))))
    | _, _ => false)
  | _ => false
theorem clsB_ok {K : PySem.W.Frag} {C : Addr} (h : clsB K C = true) :
    ∃ nm q N bs bm sn sub ab col dd k0 k1 k2 k3 k5, K.lookup C = some (excClassObj nm q C N bs bm true sn sub ab col dd k0 k1 k2 k3 k5 "ValueError.__new__") ∧ PySem.HandSPX.refsVE bm = true := by
  unfold clsB at h
  split at h
  · rename_i t dd cd sl hl
    split at h
    · rename_i D bm k0 k1 k2 k3 n k5 hm hs
      simp only [Bool.and_eq_true, decide_eq_true_eq, Bool.not_eq_true'] at h
      obtain ⟨rfl, rfl, rfl, h1, h2, h3⟩ := h
      obtain ⟨nm, bs, mro, ns, qn, hd, sn, sub, ab, col, del⟩ := cd
      dsimp only at hm h1 h2
      subst hm h1 h2
      have es : sl = #[k0, k1, k2, k3, some (.builtin "ValueError.__new__"), k5] := by
        obtain ⟨l⟩ := sl
        dsimp only at hs
        rw [hs]
      subst es
      exact ⟨nm, qn, ns, bs, bm, sn, sub, ab, col, dd, k0, k1, k2, k3, k5, hl, h3⟩
    · cases h
  · cases h
def errB (K : PySem.W.Frag) (C fI : Addr) (f : Str) : Bool := clsB K C && (He.eqO (PySem.W.findIn K (.ref C) "__setattr__") (some (some (.builtin "object.__setattr__"))) && (decide (PySem.W.subIn K (.ref C) (.type "BaseException") = some true) &&
  (decide (PySem.W.typeIn K (.ref C) = some (.type "type")) && (PySem.W.keepIn K (.ref C) && (xfB K C && (He.eqO (PySem.W.findIn K (.ref C) f) (some none) && (He.eqO (PySem.W.findIn K (.ref C) "__init__") (some (some (.ref fI))) &&
  (decide (PySem.W.typeIn K (.ref fI) = some (.type "function")) && decide (PySem.W.exmOne K (.ref C) (.ref C) = some true)))))))))
structure ErrC (K : PySem.W.Frag) (C fI : Addr) (f : Str) : Prop where
  oc : OexC K C
  xf : XfC K C
  no : PySem.W.findIn K (.ref C) f = some none
  iC : PySem.W.findIn K (.ref C) "__init__" = some (some (.ref fI))
  tI : PySem.W.typeIn K (.ref fI) = some (.type "function")
  me : PySem.W.exmOne K (.ref C) (.ref C) = some true
theorem errB_ok {K : PySem.W.Frag} {C fI : Addr} {f : Str} (h : errB K C fI f = true) : ErrC K C fI f := by
  obtain ⟨h1, h⟩ := He.ba h
  obtain ⟨h2, h⟩ := He.ba h
  obtain ⟨h3, h⟩ := He.ba h
  obtain ⟨h4, h⟩ := He.ba h
  obtain ⟨h5, h⟩ := He.ba h
  obtain ⟨h6, h⟩ := He.ba h
  obtain ⟨h7, h⟩ := He.ba h
  obtain ⟨h8, h⟩ := He.ba h
  obtain ⟨h9, h0⟩ := He.ba h
  exact ⟨⟨clsB_ok h1, He.eqO_ok h2, of_decide_eq_true h3, of_decide_eq_true h4, h5⟩, xfB_ok h6, He.eqO_ok h7, He.eqO_ok h8, of_decide_eq_true h9, of_decide_eq_true h0⟩
/-- what __init__ does: the thing under its name -/
def spInit (C : Addr) (f : Str) : Sp := fun vs H Q _ => ∃ (a : Addr) (v : V), vs = [.ref a, v] ∧ H a = some (exo a C none) ∧ ∀ dx, H dx = none → dx ≠ a → Q .non (upd (upd H dx (exd dx [(f, v)])) a (exo a C (some dx)))
/-- self.f = f, the block of such an __init__, wherever it stands -/
abbrev initB (f : Str) (p1 p2 p3 p4 : Pos) : List Stmt := [.Assign [.Attribute (.Name "self" p1) f p2] (.Name f p3) p4]
section
variable {P : Program} {w : World} {K : PySem.W.Frag} {mg : Str → Option Value} {base : Heap}
theorem ok_init {x f : Str} {C fI : Addr} {fd : FuncData} {pa : Arguments} {bd : List Stmt} {sc : Scope} {p1 p2 p3 p4 : Pos} (T : ErrC K C fI f) (F : FunD K "__init__" x pa bd sc [] [] fI fd) (hb : bd = initB f p1 p2 p3 p4)
    (S : FnScope ["self", f] ["self", f] sc) (v0 : sc.names.lookup ("self" : Str) = some NameKind.local) (v1 : sc.names.lookup f = some NameKind.local) (hd : (f == ("__debug__" : Str)) = false) (hc : (f == ("__classdict__" : Str)) = false) :
    FnOk P w K mg base CX0 1 fI fd ["self", f] (spInit C f) := by
  subst hb
  refine F.ok S (fun vs H Q E h => ?_) (fun cdv A outer s H vs Q E hr h => ?_)
  · obtain ⟨a, v, rfl, _⟩ := h
    rfl
  · obtain ⟨a, v, rfl, ha, k⟩ := h
    refine ⟨_, PSs.nox (pss_one (ps_ost (pe_var (i := 0) rfl (.inl v0)) (pe_var (i := 1) rfl (.inl v1) hd hc))), ?_⟩
    exact ⟨_, rfl, _, rfl, a, C, rfl, T.oc, T.no, .inl ⟨ha, fun dx n ne => k dx n ne⟩⟩
/-- all that a raise of such an error asks -/
structure Err (P : Program) (w : World) (K : PySem.W.Frag) (mg : Str → Option Value) (base : Heap) (x f : Str) (C fI : Addr) : Prop where
  c : ErrC K C fI f
  g : mg x = some (.ref C)
  fn : ∃ fd, FnOk P w K mg base CX0 1 fI fd ["self", f] (spInit C f) ∧ L2.Binds K fd ["self", f] []
end
/-- what the making of such an error of v asks -/
def RaiseP (C : Addr) (f : Str) (W : XK) (v : V) (H1 : Hp) : Prop := [v].length ≤ 1000 ∧ ∀ a, H1 a = none → spInit C f (.ref a :: ([v] ++ [])) (upd H1 a (exo a C none))
  (fun u H2 => u = .non ∧ ∃ (d : Addr) (fs : List (Str × V)), H2 a = some (exo a C (some d)) ∧ H2 d = some (exd d fs) ∧ H1 d = none ∧ W (.ref C) (some d) (upd (del H2 a) d (.xd fs))) (fun _ _ _ => False)
theorem raiseP {C : Addr} {f : Str} {W : XK} {v : V} {H1 : Hp} (h : ∀ d, H1 d = none → W (.ref C) (some d) (upd H1 d (.xd [(f, v)]))) : RaiseP C f W v H1 := by
  refine ⟨by show 1 ≤ 1000; decide, fun a ha => ⟨a, v, rfl, upd_same, fun dx hdx ne => ⟨rfl, dx, [(f, v)], upd_same, ?_, ?_, ?_⟩⟩⟩
  · rw [upd_ne ne]
    exact upd_same
  · rw [upd_ne ne] at hdx
    exact hdx
  · have hd1 : H1 dx = none := by
      rw [upd_ne ne] at hdx
      exact hdx
    have e : upd (del (upd (upd (upd H1 a (exo a C none)) dx (exd dx [(f, v)])) a (exo a C (some dx))) a) dx (.xd [(f, v)]) = upd H1 dx (.xd [(f, v)]) := by
      funext b
      by_cases hb : b = dx
      · rw [hb, upd_same, upd_same]
      · rw [upd_ne hb, upd_ne hb]
        by_cases hba : b = a
        · rw [hba, del_same, ha]
        · rw [del_ne hba, upd_ne hba, upd_ne hb, upd_ne hba]
    rw [e]
    exact h dx hd1
/-- raise x(e) -/
def tRaise1 (C : Addr) (f : Str) (W : WX) (te : TE) : TS := fun _ σ H => te σ H fun v H1 => RaiseP C f (fun cls d H' => W cls d σ H') v H1
section
variable {X : Cx}
theorem ps_raise1 {x f : Str} {C fI : Addr} {e : Expr} {te : TE} {W : WX} {p pos pos2 : Pos} (hc : X.calm = true) (T : Err X.prog X.w X.K X.mg X.base x f C fI) (hr : Room 2 X.A) (tk : Takes X W) (hg : Gl X x) (he : PE X e te)
    (hdb : (x == ("__debug__" : Str)) = false := by decide) (hs : starEach [e] X.env = (false, eval e X.env) :: starEach [] X.env := by rfl) (hpl : (backTo pos (starEach [] X.env)).any (·.1) = false := by rfl) :
    PS X (.Raise (some (.Call (.Name x p) [e] [] pos)) none pos2) (tRaise1 C f W te) := by
  obtain ⟨fd, F, b⟩ := T.fn
  have base := ps_raise (pos := pos2) hc tk (pmk_oex (p := p) (pos := pos) T.c.oc T.c.iC T.c.tI F hr b .nil pass0 hg T.g (pa_cons he pa_nil hs) hdb hs hpl)
  exact ⟨fun pins s σ H D I h => base.run pins s σ H D I h⟩
end
end Exs
namespace Exs
open PySem PySem.Spec PyProof.Rows L2
/-! ### try with several clauses, each «except X as n» -/
abbrev Suite : Type := Addr → Value → Option Addr → TS
/-- behind a suite its name's slot i is empty -/
def EndsAs (i : Nat) (D : Ends) : Ends := { nx := fun σ H => D.nx (σ.set i none) H, rt := D.rt, bk := fun σ H => D.bk (σ.set i none) H, ct := fun σ H => D.ct (σ.set i none) H }
def wClauses (K : PySem.W.Frag) (nN : Nat) (Wout : WX) (D : Ends) : List (Value × Nat × Suite) → WX
  | [] => Wout
  | (c, i, ts) :: r => fun cls d σ H => ∃ b, PySem.W.exmOne K cls c = some b ∧ (b = true → ∀ a, H a = none → σ.length = nN → ts a cls d (EndsAs i D) (σ.set i (some (.ref a))) H) ∧ (b = false → wClauses K nN Wout D r cls d σ H)
inductive Clauses (X : Cx) : List ExceptHandler → List (Value × Nat × Suite) → Prop
  | nil : Clauses X [] []
  | cons {x n : Str} {c : Value} {i : Nat} {ts : Suite} {st : Stmt} {sts : List Stmt} {p1 p2 : Pos} {hs : List ExceptHandler} {l : List (Value × Nat × Suite)} (hc : Names X x c) (hi : X.N[i]? = some n) (hn : X.env.kindOf n = some .local)
      (go : ∀ (a : Addr) (oe : Obj) (cls : Value) (d : Option Addr) (pn : List (Addr × Obj)), Zc cls d oe → (∃ vs, oe.data = .fields vs) → PSs (X.suite a ((a, oe) :: pn)) (st :: sts) (ts a cls d)) (r : Clauses X hs l) :
      Clauses X (.ExceptHandler (some (.Name x p1)) (some n) (st :: sts) p2 :: hs) ((c, i, ts) :: l)
section
variable {X : Cx} {body : List Stmt} {h0 : ExceptHandler} {hs : List ExceptHandler} {l : List (Value × Nat × Suite)} {pos : Pos} {tb : WX → TS} {Wout : WX}
theorem ps_try_clauses (es : X.stack = X.env :: X.outer) (ef : X.env.frame = some X.env.locals) (hN : X.N.Nodup) (tk : Takes X Wout)
    (hb : ∀ (W : WX) (pn : List (Addr × Obj)) (xe : Value → Shared → Prop), Takes (X.tr pn xe) W → PassesOwn (model X.prog X.w) X.A X.env xe → PSs (X.tr pn xe) body (tb W))
    (cl : Clauses X (h0 :: hs) l) : PS X (.Try body (h0 :: hs) [] [] pos) (fun D σ H => tb (wClauses X.K X.N.length Wout D l) D σ H) := by
  refine ⟨fun pins s σ H D I h => ?_⟩
  have ok := I.ok
  have frs0 : X.A.frames = some (X.env :: X.outer) := by rw [ok.frames, es]
  refine wpAny_Try_except ?_
  refine wpAny_mono ((hb (wClauses X.K X.N.length Wout D l) (X.pn ++ pins) (fun e s1 => wpAny (model X.prog X.w) X.A (noteFrame e X.env) (fun _ s2 => wpAny (model X.prog X.w) X.A (setFlight e none) (fun _ s3 =>
    wpAny (model X.prog X.w) X.A (handleBy e X.env (h0 :: hs)) (SP X pins D) X.xe s3) X.xe s2) X.xe s1) (fun u s' xx => ?_) PassesOwn.looking).run [] s σ H D (I.toTry _) h) (fun f s1 q => ?_) (fun e s1 q => q)
  · obtain ⟨a, B, sI, pins1, σ1, H1, cls, d, rfl, J0, nb, up, sky, na, os, ag, wish⟩ := xx
    have J : Inv X pins σ1 H1 sI := J0.ofTry ok
    rw [es] at sky
    refine (show wpAny (model X.prog X.w) X.A (noteFrame (.ref a) X.env) _ _ _ from Sky.land Zc.steady frs0 ef sky fun h3 fl3 up3 => ?_)
    have J3 : Inv X pins σ1 H1 { s' with heap := h3 } := J.landed nb fl3.1 (up.trans up3) os ag
    obtain ⟨oe3, vs3, he3, hz3, hd3⟩ := fl3.there
    have apart : a ∉ frs (X.env :: X.outer) := fun hm => by
      obtain ⟨_, o2, e2, no⟩ := fl3.2.2.1.mem hm
      rw [he3] at e2
      cases e2
      exact no _ hd3
    have aL : a ≠ X.env.locals := fun z => apart (List.mem_filterMap.mpr ⟨X.env, List.mem_cons_self, by rw [ef, z]⟩)
    have aF : a ∉ X.fs := fun hm => by
      obtain ⟨e, he, q⟩ := List.mem_filterMap.mp hm
      exact apart (List.mem_filterMap.mpr ⟨e, List.mem_cons_of_mem _ he, q⟩)
    have S3 := J3.suite he3 hd3 na aL aF
    have steps : ∀ {hs2 : List ExceptHandler} {l2 : List (Value × Nat × Suite)}, Clauses X hs2 l2 → wClauses X.K X.N.length Wout D l2 cls d σ1 H1 →
        wpAny (model X.prog X.w) X.A (handleBy (.ref a) X.env hs2) (SP X pins D) X.xe { s' with heap := h3 } := by
      intro hs2 l2 hk
      induction hk with
      | nil =>
        intro wish2
        refine wpAny_handleBy_nil ?_
        obtain ⟨k1, k2, k3, oe, vs, T, oT, ts2, he, hz, hd, f1, hr⟩ := id fl3
        unfold PySem.passOn
        refine wpAny_bind (wpAny_field he hd f1 ?_)
        have isT : ¬ ((Value.ref T == Value.none) = true) := by simp
        rw [if_neg isT]
        have out : wpAny (model X.prog X.w) X.A (setFlight (.ref a) X.env.frame) (fun _ s4 => wpAny (model X.prog X.w) X.A (throw (.ref a) : Sem Flow) (SP X pins D) X.xe s4) X.xe { s' with heap := h3 } := by
          rw [ef]
          refine HandSPX.setFlight_upZ fl3 fun h4 held up4 => wpAny_throw (tk _ _ ⟨a, B, sI, pins, σ1, H1, cls, d, rfl, J, nb, (up.trans up3).trans up4, ?_, na, os, ag, wish2⟩)
          rw [es]
          exact .inr (.inr held)
        first | exact wpAny_bind (wpAny_pure (wpAny_bind out)) | exact wpAny_bind out
      | @cons x n c i ts st sts p1 p2 hs3 l3 hc hi hn go r ih =>
        intro wish2
        obtain ⟨b, hb1, yes, no⟩ := wish2
        have hloc : Loc X.env.scope n := .inl hn
        refine wpAny_handleBy_cons (codeAny_handlers_test ?_) (by intro q; cases q)
        have ofCls : PySem.W.Looks (model X.prog X.w) h3 (typeOf (.ref a)) cls := fun A Q E s k q => wpAny_typeOf_ref (k _ _ he3) (by rw [hz3.1]; exact q)
        have meets := PySem.W.exm_one (M := model X.prog X.w) J3.kIn ofCls hb1
        have asks : ∀ {Q : Value → Shared → Prop} {E : Value → Shared → Prop}, Q c { s' with heap := h3 } → wpAny (model X.prog X.w) (X.A.mark (some (.ref a))) (eval (.Name x p1) X.env) Q E { s' with heap := h3 } := fun {Q E} q => by
          obtain ⟨g1, g2, g3 | ⟨g3, g4, g5⟩⟩ := hc
          · exact ld_glob (X := X.suite a ((a, oe3) :: (X.pn ++ pins))) S3 g1 g3 q g2
          · exact ld_blt (X := X.suite a ((a, oe3) :: (X.pn ++ pins))) S3 g1 g3 g4 q g5 g2
        refine asks (meets.here ?_)
        cases b with
        | true =>
          refine codeAny_handlers_suite_as (HandSPX.lands_againZ fl3 fun h4 fl4 up4 => ?_)
          have J4 : Inv X pins σ1 H1 { s' with heap := h4 } := J.landed nb fl4.1 ((up.trans up3).trans up4) os ag
          obtain ⟨oe4, vs4, he4, hz4, hd4⟩ := fl4.there
          refine store_ok (X := X.suite a ((a, oe4) :: (X.pn ++ pins))) (v := .ref a) (J4.suite he4 hd4 na aL aF) hN hi hloc rfl (fun s5 S5 => ?_) (.inr hn)
          refine wpAny_mono ((go a oe4 cls d (X.pn ++ pins) hz4 ⟨_, hd4⟩).run [] s5 _ H1 _ S5 (yes rfl a na J.len)) (fun f s6 q6 => ?_) (fun _ _ z => False.elim z)
          have away : ∀ {σ6 : L2.St} {H6 : Hp} {Q : Shared → Prop}, Inv (X.suite a ((a, oe4) :: (X.pn ++ pins))) [] σ6 H6 s6 → (∀ s7, Inv X pins (σ6.set i none) H6 s7 → Q s7) →
              wpAny (model X.prog X.w) X.A (do bindName X.env n .none; unbindBehindTheSuite X.env n p2) (fun _ s7 => Q s7) X.xe s6 := fun S6 q => gone_ok (S6.unsuite ok) hN hi hn q
          cases f with
          | next =>
            obtain ⟨σ6, H6, S6, q7⟩ := q6
            exact away S6 fun s7 J7 => ⟨_, _, J7, q7⟩
          | brk =>
            obtain ⟨σ6, H6, S6, q7⟩ := q6
            exact away S6 fun s7 J7 => ⟨_, _, J7, q7⟩
          | cont =>
            obtain ⟨σ6, H6, S6, q7⟩ := q6
            exact away S6 fun s7 J7 => ⟨_, _, J7, q7⟩
          | ret u =>
            obtain ⟨v6, σ6, H6, S6, r6, q7⟩ := q6
            exact away S6 fun s7 J7 => ⟨_, _, _, J7, r6, q7⟩
        | false => exact (show wpAny _ X.A (handleBy (.ref a) X.env hs3) _ _ _ from ih (no rfl))
    exact steps cl wish
  · cases f with
    | next =>
      obtain ⟨σ2, H2, J2, q2⟩ := q
      exact wpAny_execs_nil ⟨σ2, H2, J2.ofTry ok, q2⟩
    | brk =>
      obtain ⟨σ2, H2, J2, q2⟩ := q
      exact ⟨σ2, H2, J2.ofTry ok, q2⟩
    | cont =>
      obtain ⟨σ2, H2, J2, q2⟩ := q
      exact ⟨σ2, H2, J2.ofTry ok, q2⟩
    | ret u =>
      obtain ⟨v, σ2, H2, J2, r2, q2⟩ := q
      exact ⟨v, σ2, H2, J2.ofTry ok, r2, q2⟩
end
end Exs

namespace K02H
open PySem PySem.Spec PyProof.Rows L2 Exs K02
/-! ### the head -/
def meth (i : Nat) : Stmt := (C8.clsBody (top 21)).getD i (.Pass ⟨0, 0, 0, 0⟩)
def iniS (i : Nat) : Stmt := (C8.clsBody (top i)).getD 0 (.Pass ⟨0, 0, 0, 0⟩)
def dd (x : Str) (i : Nat) : He.DefD := ⟨(x, none), x, x, defArgs (top i), defBody (top i), defScope (top i), [], []⟩
def di (C q : Str) (i : Nat) : He.DefD := ⟨(C, some "__init__"), "__init__", q, defArgs (iniS i), defBody (iniS i), defScope (iniS i), [], []⟩
def dm (m q : Str) (i : Nat) : He.DefD := ⟨("Village", some m), m, q, defArgs (meth i), defBody (meth i), defScope (meth i), [], []⟩
def fn : List He.DefD := [dd "is_name" 13, dd "is_integer" 14, dd "is_number" 15, dd "is_listed" 16, dd "is_pair" 17, dd "has_just" 18, dd "is_table" 19, dd "check_houses" 22, dd "checked_paths" 23, dd "joined_groups" 24, dd "near_houses" 25, dd "path_between" 26, dd "is_house" 27, dd "ask_house" 28, dd "rooted" 30, dd "steps_towards" 31, dd "signs_from" 32, dd "ask_path" 33, dd "way" 34, dd "beyond" 35, dd "is_letters" 37, dd "ask_letters" 38, dd "letters_beyond" 39, dd "_law_start" 41, dd "_law_draw" 42, dd "_law_pick" 43, dd "_law_mixed" 44, dd "_law_same" 45, dd "_law_v_names" 46, dd "_law_v_paths" 47, dd "_law_v_village" 48, dd "_law_v_beside" 49, dd "_law_v_way" 50, dd "_law_v_beyond" 51, dd "_law_met" 52, dd "_law_ways_right" 53, dd "_law_bent" 54, dd "_law_refused_right" 55, dd "law" 56, di "NoHouse" "NoHouse.__init__" 5, di "NoPath" "NoPath.__init__" 6, di "BadLetters" "BadLetters.__init__" 3, dm "__init__" "Village.__init__" 0, dm "houses" "Village.houses" 1, dm "near" "Village.near" 3]
def fa : List He.Fa := [.glo "is_name", .glo "is_integer", .glo "is_number", .glo "is_listed", .glo "is_pair", .glo "has_just", .glo "is_table", .glo "check_houses", .glo "checked_paths", .glo "joined_groups", .glo "near_houses", .glo "path_between", .glo "is_house", .glo "ask_house", .glo "rooted", .glo "steps_towards", .glo "signs_from", .glo "ask_path", .glo "way", .glo "beyond", .glo "is_letters", .glo "ask_letters", .glo "letters_beyond", .glo "_law_start", .glo "_law_draw", .glo "_law_pick", .glo "_law_mixed", .glo "_law_same", .glo "_law_v_names", .glo "_law_v_paths", .glo "_law_v_village", .glo "_law_v_beside", .glo "_law_v_way", .glo "_law_v_beyond", .glo "_law_met", .glo "_law_ways_right", .glo "_law_bent", .glo "_law_refused_right", .glo "law", .glo "NoHouse", .glo "NoPath", .glo "BadLetters", .glo "Village", .free "int", .free "bool", .free "str", .free "isinstance", .free "list", .free "tuple", .free "len", .free "all", .free "any", .free "zip", .free "enumerate", .free "range", .free "max", .free "sorted", .free "dict", .free "sum", .free "repr", .int "LONGEST_NAME" 12, .str "SMALL_LETTERS" "abcdefghijklmnopqrstuvwxyz", .str "FIGURES" "0123456789", .cls "Village", .noat "Village" "_houses", .noat "Village" "_paths", .noat "Village" "_near", .meth "Village" "houses", .meth "Village" "near", .mkr "Village", .exm "NoPath" "NoHouse" false, .exm "BadLetters" "NoHouse" false, .exm "BadLetters" "NoPath" false]
def tf : List He.Defn := [("_law_ways_right", none), ("_law_refused_right", none)]
def ex (K : PySem.W.Frag) : Bool := errB K (He.ga K "NoHouse") (He.fAd K ("NoHouse", some "__init__")) "thing" && errB K (He.ga K "NoPath") (He.fAd K ("NoPath", some "__init__")) "one" && errB K (He.ga K "BadLetters") (He.fAd K ("BadLetters", some "__init__")) "thing" && He.eqO (PySem.W.findIn K (.ref (He.ga K "NoPath")) "other") (some none) && decide ((He.cT K ("_law_ways_right", none)).2 ≠ (He.cT K ("_law_refused_right", none)).2)
abbrev R : PySem.W.OpenRow := PySem.W.OpenLaw.row PySem.Challenge.rw_letterround_k02_whole_ways
abbrev hk : PySem.W.Hook := He.hookX 4 fa fn [] tf ex
def ob (s : PySem.W.SharedT) : He.AlX := He.obsX 4 fa fn [] tf ex (HandSHeadRun.getT s)
theorem ob_eq (s : PySem.W.SharedT) : ob s = hk.obs s.abs := He.obsX_eq (HandSHeadRun.getT_eq s)
def loose0 : List Str := ["SMALL_LETTERS", "FIGURES", "LONGEST_NAME", "PostError", "BadHouses", "BadPaths", "BadLetters", "NoHouse", "NoPath", "NotJoined", "OwnThing", "Village", "is_name", "is_integer", "is_number"]
def loose1 : List Str := ["is_listed", "is_pair", "has_just", "is_table", "check_houses", "checked_paths", "joined_groups", "near_houses", "path_between", "is_house", "ask_house", "rooted", "steps_towards", "signs_from", "ask_path"]
def loose2 : List Str := ["way", "beyond", "is_letters", "ask_letters", "letters_beyond", "_law_start", "_law_draw", "_law_pick", "_law_mixed", "_law_same", "_law_v_names", "_law_v_paths", "_law_v_village", "_law_v_beside", "_law_v_way"]
def loose3 : List Str := ["_law_v_beyond", "_law_met", "_law_ways_right", "_law_bent", "_law_refused_right"]
def loose : List Str := loose0 ++ loose1 ++ loose2 ++ loose3
theorem run (w : World) : HandSHeadRun.RunEq R (PySem.W.view R.prog [56]) hk ob 40000 loose w := by
  unfold HandSHeadRun.RunEq
  intro os
  kernel_rfl
end K02H

/-! Trees of names: one way to a root, from each house; law-independent, no machine. -/
namespace Tr
open PySem
abbrev Prs := List (Str × Str)
def Adj (ps : Prs) (x y : Str) : Prop := (x, y) ∈ ps ∨ (y, x) ∈ ps
theorem Adj.symm {ps : Prs} {x y : Str} (h : Adj ps x y) : Adj ps y x := Or.symm h
structure Tree (hs : List Str) (ps : Prs) : Prop where
  nd : hs.Nodup
  np : ps.Nodup
  once : ∀ a b, (a, b) ∈ ps → (b, a) ∉ ps
  ex : ∃ (par : Str → Option Str) (rk : Str → Nat) (top : Str), top ∈ hs ∧ par top = none ∧ (∀ x ∈ hs, x ≠ top → ∃ y, par x = some y) ∧
    (∀ x y, par x = some y → x ∈ hs ∧ y ∈ hs ∧ rk y < rk x) ∧ (∀ x y, Adj ps x y ↔ (par x = some y ∨ par y = some x))
theorem Tree.perm {hs hs' : List Str} {ps ps' : Prs} (T : Tree hs ps) (h : hs'.Perm hs) (p : ps'.Perm ps) : Tree hs' ps' := by
  obtain ⟨par, rk, top, h1, h2, h3, h4, h5⟩ := T.ex
  refine ⟨h.nodup_iff.mpr T.nd, p.nodup_iff.mpr T.np, fun a b e f => T.once a b (p.mem_iff.mp e) (p.mem_iff.mp f), par, rk, top, h.mem_iff.mpr h1, h2, fun x hx => h3 x (h.mem_iff.mp hx), fun x y e => ?_, fun x y => ?_⟩
  · obtain ⟨q1, q2, q3⟩ := h4 x y e
    exact ⟨h.mem_iff.mpr q1, h.mem_iff.mpr q2, q3⟩
  · rw [← h5]
    unfold Adj
    rw [p.mem_iff, p.mem_iff]
theorem Tree.mem {hs : List Str} {ps : Prs} (T : Tree hs ps) {x y : Str} (h : Adj ps x y) : x ∈ hs ∧ y ∈ hs := by
  obtain ⟨par, rk, top, h1, h2, h3, h4, h5⟩ := T.ex
  rcases (h5 x y).mp h with e | e
  · exact ⟨(h4 _ _ e).1, (h4 _ _ e).2.1⟩
  · exact ⟨(h4 _ _ e).2.1, (h4 _ _ e).1⟩
theorem Tree.irr {hs : List Str} {ps : Prs} (T : Tree hs ps) {x : Str} (h : Adj ps x x) : False := by
  obtain ⟨par, rk, top, h1, h2, h3, h4, h5⟩ := T.ex
  rcases (h5 x x).mp h with e | e <;> exact absurd (h4 _ _ e).2.2 (Nat.lt_irrefl _)
theorem Tree.sole (x : Str) : Tree [x] [] := by
  refine ⟨by simp, by simp, fun a b h => by simp at h, fun _ => none, fun _ => 0, x, by simp, rfl, fun y hy hn => ?_, fun y z e => (by cases e), fun y z => ?_⟩
  · simp only [List.mem_singleton] at hy
    exact absurd hy hn
  · simp [Adj]
/-- one house more, by a path to one that is there -/
theorem Tree.leaf {hs : List Str} {ps : Prs} (T : Tree hs ps) {a b : Str} (ha : a ∈ hs) (hb : b ∉ hs) {q : Str × Str} (hq : q = (a, b) ∨ q = (b, a)) : Tree (hs ++ [b]) (ps ++ [q]) := by
  have no : ∀ x, Adj ps x b → False := fun x h => hb (T.mem h).2
  have hab : a ≠ b := fun z => hb (z ▸ ha)
  obtain ⟨par, rk, top, h1, h2, h3, h4, h5⟩ := T.ex
  have adj : ∀ x y, Adj (ps ++ [q]) x y ↔ (Adj ps x y ∨ (x = a ∧ y = b) ∨ (x = b ∧ y = a)) := fun x y => by
    unfold Adj
    rcases hq with rfl | rfl <;> simp only [List.mem_append, List.mem_singleton, Prod.mk.injEq] <;> grind
  have pb : ∀ y, par b ≠ some y := fun y e => hb (h4 _ _ e).1
  have pb2 : ∀ y, par y ≠ some b := fun y e => hb (h4 _ _ e).2.1
  have mem1 : ∀ {x y}, (x, y) ∈ ps → x ∈ hs ∧ y ∈ hs := fun h => T.mem (.inl h)
  refine ⟨?_, ?_, fun x y e f => ?_, fun x => if x = b then some a else par x, fun x => if x = b then rk a + 1 else rk x, top, List.mem_append_left _ h1, ?_, fun x hx hn => ?_, fun x y e => ?_, fun x y => ?_⟩
  · rw [List.nodup_append]
    refine ⟨T.nd, by simp, fun x hx y hy => ?_⟩
    simp only [List.mem_singleton] at hy
    exact fun z => hb (by rw [← hy, ← z]; exact hx)
  · rw [List.nodup_append]
    refine ⟨T.np, by simp, fun x hx y hy => ?_⟩
    simp only [List.mem_singleton] at hy
    intro z
    subst z hy
    rcases hq with rfl | rfl
    · exact hb (mem1 hx).2
    · exact hb (mem1 hx).1
  · rcases List.mem_append.mp e with e1 | e1 <;> rcases List.mem_append.mp f with f1 | f1
    · exact T.once _ _ e1 f1
    · have m := mem1 e1
      simp only [List.mem_singleton] at f1
      rcases hq with z | z
      · rw [z] at f1; cases f1; exact hb m.1
      · rw [z] at f1; cases f1; exact hb m.2
    · have m := mem1 f1
      simp only [List.mem_singleton] at e1
      rcases hq with z | z
      · rw [z] at e1; cases e1; exact hb m.1
      · rw [z] at e1; cases e1; exact hb m.2
    · simp only [List.mem_singleton] at e1 f1
      rcases hq with z | z
      · rw [z] at e1 f1; cases e1; cases f1; exact hab rfl
      · rw [z] at e1 f1; cases e1; cases f1; exact hab rfl
  · show (if top = b then some a else par top) = none
    rw [if_neg (fun z : top = b => hb (by rw [← z]; exact h1))]
    exact h2
  · by_cases e : x = b
    · exact ⟨a, if_pos e⟩
    · rcases List.mem_append.mp hx with hx | hx
      · obtain ⟨y, hy⟩ := h3 x hx hn
        exact ⟨y, by show (if x = b then some a else par x) = some y; rw [if_neg e]; exact hy⟩
      · simp only [List.mem_singleton] at hx
        exact absurd hx e
  · have e : (if x = b then some a else par x) = some y := e
    show x ∈ hs ++ [b] ∧ y ∈ hs ++ [b] ∧ (if y = b then rk a + 1 else rk y) < (if x = b then rk a + 1 else rk x)
    by_cases ex : x = b
    · rw [if_pos ex] at e
      cases e
      rw [if_pos ex, if_neg hab]
      exact ⟨by rw [ex]; simp, List.mem_append_left _ ha, Nat.lt_succ_self _⟩
    · rw [if_neg ex] at e
      obtain ⟨q1, q2, q3⟩ := h4 _ _ e
      rw [if_neg ex, if_neg (fun z : y = b => hb (by rw [← z]; exact q2))]
      exact ⟨List.mem_append_left _ q1, List.mem_append_left _ q2, q3⟩
  · rw [adj]
    show _ ↔ ((if x = b then some a else par x) = some y ∨ (if y = b then some a else par y) = some x)
    rw [h5]
    by_cases ex : x = b <;> by_cases ey : y = b <;> simp only [ex, ey, if_true, if_false] <;> grind
/-- each path told in one of its two ways -/
theorem Tree.turn {hs : List Str} {ps : Prs} (T : Tree hs ps) (f : Str × Str → Str × Str) (hf : ∀ q, f q = q ∨ f q = (q.2, q.1)) : Tree hs (ps.map f) := by
  have one : ∀ q ∈ ps, ∀ r ∈ ps, (f q = f r ∨ f q = ((f r).2, (f r).1)) → q = r := fun q hq r hr e => by
    obtain ⟨a, b⟩ := q
    obtain ⟨c, d⟩ := r
    have n := T.once c d hr
    have key : (a, b) = (c, d) ∨ (a, b) = (d, c) := by
      rcases hf (a, b) with h1 | h1 <;> rcases hf (c, d) with h2 | h2 <;> rw [h1, h2] at e <;> simp only [Prod.mk.injEq] at e ⊢ <;> grind
    rcases key with h | h
    · exact h
    · rw [h] at hq
      exact absurd hq n
  have adj : ∀ x y, Adj (ps.map f) x y ↔ Adj ps x y := fun x y => by
    have k : ∀ q, f q = (x, y) ∨ f q = (y, x) ↔ q = (x, y) ∨ q = (y, x) := fun q => by
      obtain ⟨a, b⟩ := q
      rcases hf (a, b) with h1 | h1 <;> rw [h1] <;> simp only [Prod.mk.injEq] <;> grind
    unfold Adj
    simp only [List.mem_map]
    constructor
    · rintro (⟨q, hq, e⟩ | ⟨q, hq, e⟩)
      · rcases (k q).mp (.inl e) with h | h
        · exact .inl (h ▸ hq)
        · exact .inr (h ▸ hq)
      · rcases (k q).mp (.inr e) with h | h
        · exact .inl (h ▸ hq)
        · exact .inr (h ▸ hq)
    · rintro (h | h)
      · rcases (k _).mpr (.inl rfl) with e | e
        · exact .inl ⟨_, h, e⟩
        · exact .inr ⟨_, h, e⟩
      · rcases (k _).mpr (.inr rfl) with e | e
        · exact .inl ⟨_, h, e⟩
        · exact .inr ⟨_, h, e⟩
  obtain ⟨par, rk, top, h1, h2, h3, h4, h5⟩ := T.ex
  refine ⟨T.nd, ?_, fun a b e g => ?_, par, rk, top, h1, h2, h3, h4, fun x y => (adj x y).trans (h5 x y)⟩
  · refine List.pairwise_map.mpr (List.Pairwise.imp_of_mem (fun {q r} hq hr hn e => hn (one q hq r hr (.inl e))) T.np)
  · obtain ⟨q, hq, e1⟩ := List.mem_map.mp e
    obtain ⟨r, hr, e2⟩ := List.mem_map.mp g
    have := one q hq r hr (.inr (by rw [e1, e2]))
    subst this
    rw [e1] at e2
    cases e2
    exact T.irr ((adj a a).mp (.inl e))
/-! ### ways to a root -/
inductive Pth (f : Str → Option Str) (r : Str) : Str → List Str → Prop
  | nil : Pth f r r [r]
  | cons {x y : Str} {l : List Str} (h : f x = some y) (p : Pth f r y l) : Pth f r x (x :: l)
structure Rt (hs : List Str) (ps : Prs) (r : Str) (f : Str → Option Str) : Prop where
  none : f r = none
  adj : ∀ x y, f x = some y → Adj ps x y
  one : ∀ x y, Adj ps x y → f x = some y ∨ f y = some x
  way : ∀ x ∈ hs, ∃ l, Pth f r x l
theorem Pth.ne {f : Str → Option Str} {r x : Str} {l : List Str} (h : Pth f r x l) : l ≠ [] := by cases h <;> simp
theorem Pth.head {f : Str → Option Str} {r x : Str} {l : List Str} (h : Pth f r x l) : ∃ t, l = x :: t := by cases h <;> exact ⟨_, rfl⟩
theorem Pth.uniq {f : Str → Option Str} {r x : Str} {l : List Str} (hr : f r = Option.none) (h : Pth f r x l) : ∀ {m}, Pth f r x m → l = m := by
  induction h with
  | nil =>
    intro m h2
    cases h2 with
    | nil => rfl
    | cons e _ => rw [hr] at e; cases e
  | cons e p ih =>
    intro m h2
    cases h2 with
    | nil => rw [hr] at e; cases e
    | cons e2 p2 =>
      rw [e] at e2
      cases e2
      rw [ih p2]
/-- what stands further on the way has its own way -/
theorem Pth.tail {f : Str → Option Str} {r x : Str} {l : List Str} (h : Pth f r x l) : ∀ y ∈ l, ∃ m, Pth f r y m ∧ m.length ≤ l.length ∧ (y ≠ x → m.length < l.length) := by
  induction h with
  | nil =>
    intro y hy
    simp only [List.mem_singleton] at hy
    subst hy
    exact ⟨_, .nil, Nat.le_refl _, fun z => absurd rfl z⟩
  | cons e p ih =>
    rename_i x' y' l'
    intro y hy
    rcases List.mem_cons.mp hy with rfl | hy
    · exact ⟨_, .cons e p, Nat.le_refl _, fun z => absurd rfl z⟩
    · obtain ⟨m, q, h1, _⟩ := ih y hy
      exact ⟨m, q, by rw [List.length_cons]; omega, fun _ => by rw [List.length_cons]; omega⟩
theorem Pth.nodup {f : Str → Option Str} {r x : Str} {l : List Str} (hr : f r = Option.none) (h : Pth f r x l) : l.Nodup := by
  induction h with
  | nil => simp
  | cons e p ih =>
    rename_i x' y' l'
    refine List.nodup_cons.mpr ⟨fun hx => ?_, ih⟩
    obtain ⟨m, q, h1, _⟩ := p.tail _ hx
    have := q.uniq hr (.cons e p)
    rw [this, List.length_cons] at h1
    omega
theorem Rt.mem {hs : List Str} {ps : Prs} {r : Str} {f : Str → Option Str} (T : Tree hs ps) (R : Rt hs ps r f) {x : Str} {l : List Str} (h : Pth f r x l) (hr : r ∈ hs) : ∀ y ∈ l, y ∈ hs := by
  induction h with
  | nil => intro y hy; simp only [List.mem_singleton] at hy; rw [hy]; exact hr
  | cons e p ih =>
    intro y hy
    rcases List.mem_cons.mp hy with rfl | hy
    · exact (T.mem (R.adj _ _ e)).1
    · exact ih y hy
/-- so many unlike ones, all among these: no more -/
theorem nodup_le {α : Type} [DecidableEq α] : ∀ {l m : List α}, l.Nodup → (∀ x ∈ l, x ∈ m) → l.length ≤ m.length
  | [], _, _, _ => Nat.zero_le _
  | a :: r, m, h, k => by
    have hm : a ∈ m := k a List.mem_cons_self
    have h2 := nodup_le (m := m.erase a) (List.nodup_cons.mp h).2 (fun x hx => by
      have hne : x ≠ a := fun z => (List.nodup_cons.mp h).1 (z ▸ hx)
      exact (List.mem_erase_of_ne hne).mpr (k x (List.mem_cons_of_mem _ hx)))
    rw [List.length_erase_of_mem hm] at h2
    have : 0 < m.length := List.length_pos_of_mem hm
    rw [List.length_cons]
    omega
theorem Rt.len {hs : List Str} {ps : Prs} {r : Str} {f : Str → Option Str} (T : Tree hs ps) (R : Rt hs ps r f) {x : Str} {l : List Str} (h : Pth f r x l) (hr : r ∈ hs) : l.length ≤ hs.length := nodup_le (h.nodup R.none) (R.mem T h hr)
/-- the root moved to a neighbour -/
def mv (f : Str → Option Str) (r r' : Str) : Str → Option Str := fun x => if x = r' then Option.none else if x = r then some r' else f x
theorem Rt.move {hs : List Str} {ps : Prs} {r r' : Str} {f : Str → Option Str} (T : Tree hs ps) (R : Rt hs ps r f) (h : Adj ps r r') : Rt hs ps r' (mv f r r') := by
  have hne : r ≠ r' := fun z => T.irr (z ▸ h : Adj ps r r)
  have e1 : f r' = some r := by
    rcases R.one _ _ h with e | e
    · rw [R.none] at e; cases e
    · exact e
  have m1 : mv f r r' r' = Option.none := by simp [mv]
  have m2 : mv f r r' r = some r' := by simp [mv, hne]
  have m3 : ∀ x, x ≠ r → x ≠ r' → mv f r r' x = f x := fun x a b => by simp [mv, a, b]
  refine ⟨m1, fun x y e => ?_, fun x y a => ?_, fun x hx => ?_⟩
  · by_cases hx : x = r'
    · rw [hx, m1] at e; cases e
    · by_cases hx2 : x = r
      · rw [hx2, m2] at e
        cases e
        rw [hx2]; exact h
      · rw [m3 x hx2 hx] at e
        exact R.adj _ _ e
  · have key : ∀ x y, f x = some y → (mv f r r' x = some y ∨ mv f r r' y = some x) := fun x y e => by
      by_cases hx : x = r'
      · subst hx
        rw [e1] at e
        cases e
        exact .inr m2
      · have hxr : x ≠ r := fun z => by rw [z, R.none] at e; cases e
        rw [m3 x hxr hx]
        exact .inl e
    rcases R.one _ _ a with e | e
    · exact key x y e
    · exact (key y x e).symm
  · obtain ⟨l, p⟩ := R.way x hx
    clear hx
    induction p with
    | nil => exact ⟨_, .cons m2 .nil⟩
    | cons e p ih =>
      rename_i x' y' l'
      by_cases hx : x' = r'
      · subst hx
        exact ⟨_, .nil⟩
      · have hxr : x' ≠ r := fun z => by rw [z, R.none] at e; cases e
        obtain ⟨m, q⟩ := ih
        exact ⟨_, .cons (by rw [m3 x' hxr hx]; exact e) q⟩
theorem Tree.root {hs : List Str} {ps : Prs} (T : Tree hs ps) : ∀ {r : Str}, r ∈ hs → ∃ f, Rt hs ps r f := by
  obtain ⟨par, rk, top, h1, h2, h3, h4, h5⟩ := T.ex
  have R0 : Rt hs ps top par := by
    refine ⟨h2, fun x y e => (h5 x y).mpr (.inl e), fun x y a => (h5 x y).mp a, ?_⟩
    have key : ∀ n x, rk x ≤ n → x ∈ hs → ∃ l, Pth par top x l := by
      intro n
      induction n with
      | zero =>
        intro x hn hx
        by_cases e : x = top
        · subst e
          exact ⟨_, Pth.nil⟩
        · obtain ⟨y, hy⟩ := h3 x hx e
          have := (h4 _ _ hy).2.2
          omega
      | succ n ih =>
        intro x hn hx
        by_cases e : x = top
        · subst e
          exact ⟨_, Pth.nil⟩
        · obtain ⟨y, hy⟩ := h3 x hx e
          obtain ⟨q1, q2, q3⟩ := h4 _ _ hy
          obtain ⟨l, p⟩ := ih y (by omega) q2
          exact ⟨_, .cons hy p⟩
    exact fun x hx => key _ x (Nat.le_refl _) hx
  have key : ∀ n r, rk r ≤ n → r ∈ hs → ∃ f, Rt hs ps r f := by
    intro n
    induction n with
    | zero =>
      intro r hn hr
      by_cases e : r = top
      · exact ⟨par, e ▸ R0⟩
      · obtain ⟨y, hy⟩ := h3 r hr e
        have := (h4 _ _ hy).2.2
        omega
    | succ n ih =>
      intro r hn hr
      by_cases e : r = top
      · exact ⟨par, e ▸ R0⟩
      · obtain ⟨y, hy⟩ := h3 r hr e
        obtain ⟨q1, q2, q3⟩ := h4 _ _ hy
        obtain ⟨f, R⟩ := ih y (by omega) q2
        exact ⟨_, R.move T ((h5 y r).mpr (.inr hy))⟩
  exact fun {r} hr => key _ r (Nat.le_refl _) hr
/-- two such functions agree -/
theorem Rt.agree {hs : List Str} {ps : Prs} {r : Str} {f g : Str → Option Str} (T : Tree hs ps) (R : Rt hs ps r f) (S : Rt hs ps r g) : ∀ x ∈ hs, f x = g x := by
  intro x hx
  obtain ⟨l, p⟩ := R.way x hx
  induction p with
  | nil => rw [R.none, S.none]
  | cons e p ih =>
    rename_i x' y' l'
    have ha := R.adj _ _ e
    have hy := (T.mem ha).2
    rcases S.one _ _ ha with q | q
    · rw [e, q]
    · have := ih hy
      rw [q] at this
      -- f y' = some x', but f x' = some y'
      obtain ⟨m, p2⟩ := R.way y' hy
      have a1 := p2.uniq R.none p
      subst a1
      obtain ⟨n, p3, hl, _⟩ := (Pth.cons this (Pth.cons e p2)).tail x' (by simp)
      have a2 := (Pth.cons this (Pth.cons e p2)).uniq R.none p2
      have := congrArg List.length a2
      simp at this
      omega
/-! ### rows of houses, each beside the one before -/
def Row (ps : Prs) (l : List Str) : Prop := ∀ i a b, l[i]? = some a → l[i + 1]? = some b → Adj ps a b
theorem Row.tail {ps : Prs} {x : Str} {l : List Str} (h : Row ps (x :: l)) : Row ps l := fun i a b e1 e2 => h (i + 1) a b e1 e2
theorem Rt.away {hs : List Str} {ps : Prs} {r : Str} {f : Str → Option Str} (R : Rt hs ps r f) : ∀ (t : List Str) (u v : Str), f v = some u → (u :: v :: t).Nodup → Row ps (v :: t) → (v :: t).getLast? = some r → False := by
  intro t
  induction t with
  | nil =>
    intro u v e _ _ q
    simp only [List.getLast?_singleton, Option.some.injEq] at q
    rw [q, R.none] at e
    cases e
  | cons w t ih2 =>
    intro u v e hn ha q
    have a2 : Adj ps v w := ha 0 v w rfl rfl
    rcases R.one _ _ a2 with e2 | e2
    · rw [e] at e2
      cases e2
      exact (List.nodup_cons.mp hn).1 (by simp)
    · exact ih2 v w e2 (List.nodup_cons.mp hn).2 ha.tail (by rw [List.getLast?_cons_cons] at q; exact q)
/-- a simple row that ends at the root is the way -/
theorem Rt.row {hs : List Str} {ps : Prs} {r : Str} {f : Str → Option Str} (R : Rt hs ps r f) :
    ∀ (l : List Str) (x : Str), (x :: l).Nodup → Row ps (x :: l) → (x :: l).getLast? = some r → Pth f r x (x :: l) := by
  intro l
  induction l with
  | nil =>
    intro x _ _ h
    simp only [List.getLast?_singleton, Option.some.injEq] at h
    subst h
    exact .nil
  | cons y t ih =>
    intro x hn ha hl
    have hl' : (y :: t).getLast? = some r := by rw [List.getLast?_cons_cons] at hl; exact hl
    rcases R.one _ _ (ha 0 x y rfl rfl) with e | e
    · exact .cons e (ih y (List.nodup_cons.mp hn).2 ha.tail hl')
    · exact (R.away t x y e hn ha.tail hl').elim
theorem Pth.last {f : Str → Option Str} {r x : Str} {l : List Str} (h : Pth f r x l) : l.getLast? = some r := by
  induction h with
  | nil => rfl
  | cons e p ih =>
    obtain ⟨t, rfl⟩ := p.head
    rw [List.getLast?_cons_cons]
    exact ih
theorem Pth.next {f : Str → Option Str} {r x : Str} {l : List Str} (h : Pth f r x l) : ∀ i a b, l[i]? = some a → l[i + 1]? = some b → f a = some b := by
  induction h with
  | nil => intro i a b h1 h2; simp at h2
  | cons e p ih =>
    intro i a b h1 h2
    cases i with
    | zero =>
      obtain ⟨t, rfl⟩ := p.head
      simp at h1 h2
      rw [← h1, ← h2]
      exact e
    | succ i => exact ih i a b h1 h2
theorem Pth.row {hs : List Str} {ps : Prs} {r x : Str} {f : Str → Option Str} {l : List Str} (R : Rt hs ps r f) (h : Pth f r x l) : Row ps l := fun i a b e1 e2 => R.adj _ _ (h.next i a b e1 e2)
/-! ### groups: what hangs together by some of the paths -/
theorem merge {h : Str → Str} {u v : Str} (huv : u ≠ v) (x y : Str) : ((if h x = u then v else h x) = (if h y = u then v else h y)) ↔ (h x = h y ∨ ((h x = u ∨ h x = v) ∧ (h y = u ∨ h y = v))) := by
  by_cases a : h x = u <;> by_cases b : h y = u <;> grind
theorem Tree.groups {hs : List Str} {ps : Prs} (T : Tree hs ps) : ∃ I : Prs → (Str → Str) → Prop,
    (∀ g, (∀ x ∈ hs, ∀ y ∈ hs, g x = g y → x = y) → I [] g) ∧
    (∀ d g a b, I d g → (a, b) ∈ ps → (∀ q ∈ d, q ∈ ps) → (a, b) ∉ d → g a ≠ g b ∧ ∀ g', (∀ x ∈ hs, g' x = if g x = g b then g a else g x) → I (d ++ [(a, b)]) g') ∧
    (∀ d g, I d g → (∀ q ∈ ps, q ∈ d) → ∀ x ∈ hs, ∀ y ∈ hs, g x = g y) := by
  obtain ⟨par, rk, top, h1, h2, h3, h4, h5⟩ := T.ex
  let ch : Str × Str → Str := fun q => if par q.1 = some q.2 then q.1 else q.2
  have chOf : ∀ x p, par x = some p → ch (x, p) = x ∧ ch (p, x) = x := fun x p e => by
    refine ⟨by simp [ch, e], ?_⟩
    have : par p ≠ some x := fun z => by
      have a := (h4 _ _ e).2.2
      have b := (h4 _ _ z).2.2
      omega
    simp [ch, this]
  have inv : ∀ a b, (a, b) ∈ ps → ∃ c p, par c = some p ∧ ch (a, b) = c ∧ ((a = c ∧ b = p) ∨ (a = p ∧ b = c)) := fun a b e => by
    rcases (h5 a b).mp (.inl e) with q | q
    · exact ⟨a, b, q, (chOf _ _ q).1, .inl ⟨rfl, rfl⟩⟩
    · exact ⟨b, a, q, (chOf _ _ q).2, .inr ⟨rfl, rfl⟩⟩
  refine ⟨fun d g => ∃ rep : Str → Str, (∀ x ∈ hs, (∀ q ∈ d, ch q ≠ x) → rep x = x) ∧ (∀ q ∈ d, ∀ p, par (ch q) = some p → rep (ch q) = rep p) ∧ ∀ x ∈ hs, ∀ y ∈ hs, g x = g y ↔ rep x = rep y, ?_, ?_, ?_⟩
  · intro g hg
    exact ⟨id, fun _ _ _ => rfl, fun q hq => absurd hq (by simp), fun x hx y hy => ⟨hg x hx y hy, fun e => by rw [show x = y from e]⟩⟩
  · rintro d g a b ⟨rep, r1, r2, r3⟩ hab hd hn
    obtain ⟨c, p, hc, ec, hcp⟩ := inv a b hab
    obtain ⟨mc, mp, lt⟩ := h4 _ _ hc
    have fresh : ∀ q ∈ d, ch q ≠ c := fun q hq e => by
      obtain ⟨a', b'⟩ := q
      obtain ⟨c', p', hc', ec', hcp'⟩ := inv a' b' (hd _ hq)
      have : c' = c := by rw [← ec', e]
      subst this
      rw [hc] at hc'
      cases hc'
      rcases hcp with ⟨rfl, rfl⟩ | ⟨rfl, rfl⟩ <;> rcases hcp' with ⟨rfl, rfl⟩ | ⟨rfl, rfl⟩
      · exact hn hq
      · exact T.once _ _ hab (hd _ hq)
      · exact T.once _ _ hab (hd _ hq)
      · exact hn hq
    have rkle : ∀ n x, rk x ≤ n → x ∈ hs → rk (rep x) ≤ rk x := by
      intro n
      induction n with
      | zero =>
        intro x hx hm
        by_cases e : ∀ q ∈ d, ch q ≠ x
        · rw [r1 x hm e]; exact Nat.le_refl _
        · obtain ⟨q, hq⟩ := Classical.not_forall.mp e
          obtain ⟨hq, hx2⟩ := Classical.not_imp.mp hq
          have hx2 : ch q = x := Classical.not_not.mp hx2
          obtain ⟨a', b'⟩ := q
          obtain ⟨c', p', hc', ec', _⟩ := inv a' b' (hd _ hq)
          rw [hx2] at ec'
          subst ec'
          have := (h4 _ _ hc').2.2
          omega
      | succ n ih =>
        intro x hx hm
        by_cases e : ∀ q ∈ d, ch q ≠ x
        · rw [r1 x hm e]; exact Nat.le_refl _
        · obtain ⟨q, hq⟩ := Classical.not_forall.mp e
          obtain ⟨hq, hx2⟩ := Classical.not_imp.mp hq
          have hx2 : ch q = x := Classical.not_not.mp hx2
          have e3 := r2 q hq
          obtain ⟨a', b'⟩ := q
          obtain ⟨c', p', hc', ec', _⟩ := inv a' b' (hd _ hq)
          rw [hx2] at ec' e3
          subst ec'
          rw [e3 p' hc']
          have := h4 _ _ hc'
          have := ih p' (by omega) this.2.1
          omega
    have rc : rep c = c := r1 c mc fresh
    have rp : rep p ≠ c := fun z => by
      have := rkle _ p (Nat.le_refl _) mp
      rw [z] at this
      omega
    have ma := T.mem (.inl hab)
    have hne : rep a ≠ rep b := by
      rcases hcp with ⟨rfl, rfl⟩ | ⟨rfl, rfl⟩
      · rw [rc]; exact fun z => rp z.symm
      · rw [rc]; exact rp
    have gne : g a ≠ g b := fun z => hne ((r3 _ ma.1 _ ma.2).mp z)
    refine ⟨gne, fun g' hg' => ⟨fun x => if rep x = c then rep p else rep x, fun x hx hq => ?_, fun q hq p' hp' => ?_, fun x hx y hy => ?_⟩⟩
    · have e1 := r1 x hx (fun q hq2 => hq q (List.mem_append_left _ hq2))
      have e2 : ch (a, b) ≠ x := hq _ (by simp)
      rw [ec] at e2
      show (if rep x = c then rep p else rep x) = x
      rw [e1, if_neg (fun z => e2 z.symm)]
    · show (if rep (ch q) = c then rep p else rep (ch q)) = (if rep p' = c then rep p else rep p')
      rcases List.mem_append.mp hq with hq | hq
      · rw [r2 q hq p' hp']
      · simp only [List.mem_singleton] at hq
        subst hq
        rw [ec] at hp' ⊢
        rw [hc] at hp'
        cases hp'
        rw [rc, if_pos rfl, if_neg rp]
    · rw [hg' x hx, hg' y hy, merge (Ne.symm gne), show ((if rep x = c then rep p else rep x) = (if rep y = c then rep p else rep y)) ↔ _ from merge (h := rep) (Ne.symm rp) x y]
      rw [r3 x hx y hy, r3 x hx b ma.2, r3 x hx a ma.1, r3 y hy b ma.2, r3 y hy a ma.1]
      rcases hcp with ⟨rfl, rfl⟩ | ⟨rfl, rfl⟩
      · rw [rc]
        constructor
        · rintro (e | ⟨e1, e2⟩)
          · exact .inl e
          · exact .inr ⟨e1.symm, e2.symm⟩
        · rintro (e | ⟨e1, e2⟩)
          · exact .inl e
          · exact .inr ⟨e1.symm, e2.symm⟩
      · rw [rc]
  · rintro d g ⟨rep, r1, r2, r3⟩ hall x hx y hy
    have key : ∀ n z, rk z ≤ n → z ∈ hs → rep z = rep top := by
      intro n
      induction n with
      | zero =>
        intro z hz hm
        by_cases e : z = top
        · rw [e]
        · obtain ⟨p, hp⟩ := h3 z hm e
          have := (h4 _ _ hp).2.2
          omega
      | succ n ih =>
        intro z hz hm
        by_cases e : z = top
        · rw [e]
        · obtain ⟨p, hp⟩ := h3 z hm e
          obtain ⟨_, mp, lt⟩ := h4 _ _ hp
          have e2 : rep z = rep p := by
            rcases (h5 z p).mpr (.inl hp) with q | q
            · have := r2 _ (hall _ q) p (by rw [(chOf _ _ hp).1]; exact hp)
              rwa [(chOf _ _ hp).1] at this
            · have := r2 _ (hall _ q) p (by rw [(chOf _ _ hp).2]; exact hp)
              rwa [(chOf _ _ hp).2] at this
          rw [e2]
          exact ih p (by omega) mp
    exact (r3 x hx y hy).mpr ((key _ x (Nat.le_refl _) hx).trans (key _ y (Nat.le_refl _) hy).symm)
/-! ### what lies beside a house -/
def nearL : Prs → Str → List Str
  | [], _ => []
  | (a, b) :: r, x => (if a = x then [b] else []) ++ ((if b = x then [a] else []) ++ nearL r x)
theorem nearL_snoc (ps : Prs) (a b x : Str) : nearL (ps ++ [(a, b)]) x = nearL ps x ++ ((if a = x then [b] else []) ++ (if b = x then [a] else [])) := by
  induction ps with
  | nil => simp [nearL]
  | cons q r ih =>
    obtain ⟨c, d⟩ := q
    show (if c = x then [d] else []) ++ ((if d = x then [c] else []) ++ nearL (r ++ [(a, b)]) x) = _
    rw [ih]
    simp [nearL, List.append_assoc]
theorem nearL_mem {ps : Prs} {x y : Str} : y ∈ nearL ps x ↔ Adj ps x y := by
  induction ps with
  | nil => simp [nearL, Adj]
  | cons q r ih =>
    obtain ⟨c, d⟩ := q
    unfold Adj at ih ⊢
    simp only [nearL, List.mem_append, ih, List.mem_cons, Prod.mk.injEq]
    constructor
    · rintro (h | h | h | h)
      · split at h
        · simp at h; subst h; rename_i e; exact .inl (.inl ⟨e.symm, rfl⟩)
        · simp at h
      · split at h
        · simp at h; subst h; rename_i e; exact .inr (.inl ⟨rfl, e.symm⟩)
        · simp at h
      · exact .inl (.inr h)
      · exact .inr (.inr h)
    · rintro ((⟨rfl, rfl⟩ | h) | (⟨rfl, rfl⟩ | h))
      · exact .inl (by simp)
      · exact .inr (.inr (.inl h))
      · exact .inr (.inl (by simp))
      · exact .inr (.inr (.inr h))
theorem nearL_nodup {x : Str} : ∀ {ps : Prs}, ps.Nodup → (∀ a b, (a, b) ∈ ps → (b, a) ∉ ps) → (nearL ps x).Nodup
  | [], _, _ => by simp [nearL]
  | (a, b) :: r, hn, ho => by
    have ih := nearL_nodup (x := x) (List.nodup_cons.mp hn).2 (fun c d h1 h2 => ho c d (List.mem_cons_of_mem _ h1) (List.mem_cons_of_mem _ h2))
    have hab : a ≠ b := fun z => by
      subst z
      exact ho a a List.mem_cons_self List.mem_cons_self
    have k1 : (a, b) ∉ r := (List.nodup_cons.mp hn).1
    have k2 : (b, a) ∉ r := fun z => ho a b List.mem_cons_self (List.mem_cons_of_mem _ z)
    by_cases e1 : a = x
    · subst e1
      have e2 : ¬ b = a := fun z => hab z.symm
      simp only [nearL, if_true, e2, if_false, List.nil_append, List.singleton_append]
      exact List.nodup_cons.mpr ⟨fun z => by
        rcases nearL_mem.mp z with q | q
        · exact k1 q
        · exact k2 q, ih⟩
    · by_cases e2 : b = x
      · subst e2
        simp only [nearL, e1, if_false, if_true, List.nil_append, List.singleton_append]
        exact List.nodup_cons.mpr ⟨fun z => by
          rcases nearL_mem.mp z with q | q
          · exact k2 q
          · exact k1 q, ih⟩
      · simp only [nearL, e1, e2, if_false, List.nil_append]
        exact ih
theorem Tree.near {hs : List Str} {ps : Prs} (T : Tree hs ps) (x : Str) : (nearL ps x).Nodup := nearL_nodup T.np T.once
end Tr

/-! t[::-1] of a pair; law-independent. -/
namespace HT
open PySem PySem.Calls PyProof.Rows
section
variable {prog : Program} {w : World} {A : Around} {E : Value → Shared → Prop} {s : Shared}
theorem sliceApplied_back {sl : Addr} {st : Tok} {Q : Int × Int × Nat → Shared → Prop} (hs : s.heap.IsSliceOf sl .none .none (.int (-1) st))
    (h : Q (1, -1, 2) s) : wpAny (model prog w) A (Builtin.Slice.sliceApplied (.ref sl) (pure (2 : Int))) Q E s := by
  obtain ⟨os, hos, hcs, hds⟩ := id hs
  unfold Builtin.Slice.sliceApplied Builtin.Slice.sliceFields
  refine wpAny_bind (wpAny_bind (wpAny_field hos hds (x := .none) rfl (wpAny_bind (wpAny_field hos hds (x := .none) rfl (wpAny_bind (wpAny_field hos hds (x := .int (-1) st) rfl (wpAny_pure ?_)))))))
  refine wpAny_bind (slicePart_int ?_)
  show wpAny _ _ (if ((-1 : Int) == 0) = true then _ else _) _ _ s
  rw [if_neg (by decide)]
  refine wpAny_bind (slicePart_none (wpAny_bind (slicePart_none (wpAny_bind (wpAny_pure ?_)))))
  exact wpAny_pure h
theorem getItem_pair_back {t sl : Addr} {u v : Value} {st : Tok} {Q : Value → Shared → Prop} (ht : IsTup s.heap t #[u, v]) (hs : s.heap.IsSliceOf sl .none .none (.int (-1) st))
    (h : Q (.ref s.heap.objs.size) { s with heap := s.heap.push { cls := .type "tuple", data := .seq #[v, u] } }) : wpAny (model prog w) A (getItem (.ref t) (.ref sl)) Q E s := by
  obtain ⟨os, hos, hcs, hds⟩ := id hs
  have hTs : s.TypeIs (.ref sl) "slice" := ⟨os, hos, hcs⟩
  have hso : sizeOk (.seq #[v, u]) := by show 2 ≤ sizeLine; decide
  unfold getItem
  try with_reducible refine wpAny_holding ?_
  first | refine wpAny_bind (wpAny_pure ?_) | skip
  refine wpAny_bind (wpAny_sequenceKey ht.typeIs (by decide) ?_)
  refine wpAny_bind (wpAny_callSpecial?_slot (name := Str.ofString "__getitem__") ht.typeIs PyProof.Rows.slot_tuple_getitem
    (wpAny_call_entry PyProof.Rows.slot_tuple_getitem ht.typeIs entry_tuple_getitem ?_ (args_tuple_getitem _ _)))
  show wpAny _ _ (Builtin.Tuple.tupleItemsOf (.ref t) >>= _) _ _ s
  refine wpAny_bind (tupleItemsOf_ ht ?_)
  refine wpAny_bind (wpAny_typeOf hTs ?_)
  rw [if_pos (by decide)]
  refine wpAny_bind (sliceApplied_back (st := st) hs ?_)
  show wpAny _ _ (if (((1 : Int) == 0 && (-1 : Int) == 1 && (2 == 2))) = true then _ else _) _ _ s
  rw [if_neg (by decide)]
  have e : ((List.range 2).filterMap fun (m : Nat) => (#[u, v] : Array Value)[((1 : Int) + (m : Int) * (-1)).toNat]?).toArray = #[v, u] := rfl
  rw [e]
  first
    | exact wpAny_bind (m := Builtin.Tuple.tupleExact _) (wpAny_newObj_type (wpAny_pure ⟨_, rfl, wpAny_pure h⟩) hso)
    | exact wpAny_bind (m := Builtin.Tuple.tupleExact _) (wpAny_newObj_type (wpAny_bind (wpAny_pure (wpAny_pure ⟨_, rfl, wpAny_pure h⟩))) hso)
    | exact wpAny_bind (wpAny_bind (m := Builtin.Tuple.tupleExact _) (wpAny_newObj_type (wpAny_pure (wpAny_pure ⟨_, rfl, wpAny_pure h⟩)) hso))
    | exact wpAny_bind (wpAny_bind (m := Builtin.Tuple.tupleExact _) (wpAny_newObj_type (wpAny_pure ⟨_, rfl, wpAny_pure h⟩) hso))
end
end HT
namespace L2
open PySem PySem.Spec PyProof.Rows
variable {X : Cx}
def tRevT (K : PySem.W.Frag) (te : TE) : TE := fun σ H Q => te σ H fun x H1 => ∃ a u v, x = .ref a ∧ SqT K H1 a [u, v] ∧ ∀ p, H1 p = none → Q (.ref p) (upd H1 p (.tup [v, u]))
theorem pe_revT {e : Expr} {te : TE} {k : Nat} {p1 p2 p3 pos : Pos} (he : PE X e te) : PE X (.Subscript e (.Slice none none (some (.UnaryOp .USub (.Constant (.int 1) k p1) p2)) p3) pos) (tRevT X.K te) := by
  refine ⟨fun pins s σ H Q I h => ?_⟩
  refine Subscript_ (thn (he.run pins s σ H _ I h) fun v s1 ⟨x, H1, I1, r1, q1⟩ => ?_)
  obtain ⟨a, x0, x1, ex, hx, q⟩ := q1
  subst ex
  cases r1
  have hst : PO X (some (.UnaryOp .USub (.Constant (.int 1) k p1) p2)) (tPart (tUn (rU fun i => .int (-i)) (tC (.int 1)))) := po_some (pe_un un_neg pe_int)
  refine wpAny_Slice (thn (po_none.run pins s1 σ H1 (fun o H2 => o = none ∧ H2 = H1) I1 ⟨rfl, rfl⟩) fun vl s2 ⟨l, H2, I2, pl, el, e2⟩ => ?_)
  subst el e2
  refine thn (po_none.run pins s2 σ H2 (fun o H3 => o = none ∧ H3 = H2) I2 ⟨rfl, rfl⟩) fun vu s3 ⟨u, H3, I3, pu, eu, e3⟩ => ?_
  subst eu e3
  refine thn (hst.run pins s3 σ H3 (fun o H4 => o = some (-1) ∧ H4 = H3) I3 ⟨1, rfl, -1, rfl, rfl, rfl⟩) fun vs s4 ⟨o, H4, I4, ps, eo, e4⟩ => ?_
  subst eo e4
  have I5 : Inv X pins σ H4 { s4 with heap := s4.heap.push { cls := .type "slice", data := .fields #[vl, vu, vs] } } := I4.kept (t' := s4.toks) fun b ob q => Heap.get?_push_of_some _ q
  obtain ⟨its, r, ht, hz⟩ := I5.tuple hx
  obtain ⟨v0, v1, rfl, r0, r1⟩ := vals2 r
  cases pl
  cases pu
  cases ps
  show wpAny (model X.prog X.w) X.A (subscriptTail e (.Slice none none (some (.UnaryOp .USub (.Constant (.int 1) k p1) p2)) p3) (.ref a) (.ref s4.heap.objs.size)) (EP X pins σ Q) X.xe { s4 with heap := s4.heap.push { cls := .type "slice", data := .fields #[.none, .none, .int (-1) _] } }
  refine tail_any (ops := [.ref a, .ref s4.heap.objs.size]) ht.typeIs (PyProof.Rows.slot_tuple_getitem.lookup) ?_ (by with_unfolding_all rfl)
  refine HT.getItem_pair_back ht (Heap.IsSliceOf.new _ _ _ _) ?_
  refine ⟨.ref _, _, I5.laid (t' := s4.toks) (o := .tup [x1, x0]) (fun b ob q => Heap.get?_push_of_some _ q) (Nat.le_refl _) ?_, rfl, q _ (I5.hok.fresh (Nat.le_refl _))⟩
  exact ⟨by show 2 ≤ sizeLine; decide, _, .cons r1 (.cons r0 .nil), IsTup.new _ _⟩
end L2

namespace K02
open PySem PySem.Spec PyProof.Rows L2
/-! ### drawn names, paths, a village -/
def names12 : List Str := ["b", "aa", "c1", "mill", "z9", "a", "m3", "abcdefghijk1", "inn", "no", "q7", "forge"]
theorem map_back {α β : Type} {f : α → β} {g : β → α} (hg : ∀ x, g (f x) = x) {l : List α} {m : List β} (h : m.Perm (l.map f)) : ∃ l' : List α, l'.Perm l ∧ m = l'.map f := by
  have e : ∀ y ∈ m, f (g y) = y := fun y hy => by
    obtain ⟨x, _, rfl⟩ := List.mem_map.mp (h.mem_iff.mp hy)
    rw [hg]
  refine ⟨m.map g, ?_, ?_⟩
  · have := h.map g
    rw [List.map_map, show g ∘ f = id from funext hg, List.map_id] at this
    exact this
  · rw [List.map_map]
    conv => lhs; rw [← List.map_id m]
    exact List.map_congr_left fun y hy => (e y hy).symm
/-- what is new behind was new ahead -/
theorem Kp.fresh {p c r : Addr} {n : Nat} {H H' : Hp} (a : Kp p c H H') (h : StrAt H' p c n) (hr : H' r = none) : H r = none := by
  cases e : H r with
  | none => rfl
  | some o =>
    obtain ⟨h1, h2⟩ := h.ne hr
    have := a _ _ e h1 h2
    rw [hr] at this
    cases this
def strV : V → Str
  | .str z => z
  | _ => ⟨#[]⟩
theorem perm_strs {zs : List Str} {ys : List V} (h : ys.Perm (zs.map V.str)) : ∃ xs : List Str, xs.Perm zs ∧ ys = xs.map V.str := map_back (g := strV) (fun _ => rfl) h
theorem cutV_take {xs : List V} (k : Nat) : cutV xs none (some (k : Int)) = xs.take k := by
  unfold cutV
  rw [HT.sIx_nat, HT.sIx_none, List.drop_zero, Nat.sub_zero]
  by_cases h : k ≤ xs.length
  · rw [Nat.min_eq_left h]
  · rw [Nat.min_eq_right (by omega), List.take_of_length_le (Nat.le_refl _), List.take_of_length_le (by omega)]
abbrev sNames : Stmt := top 46
def spNames : Sp := fun vs H Q _ => ∃ (p c : Addr) (n many : Nat), vs = [.ref p, .int (many : Nat)] ∧ StrAt H p c n ∧ n + 12 ≤ 1000000000 ∧ 1 ≤ many ∧ many ≤ 12 ∧
  ∀ (q : Addr) (hs : List Str) (H' : Hp), H q = none → H' q = some (.lst (hs.map V.str)) → hs.length = many → hs.Nodup → (∀ h ∈ hs, h ∈ names12) → Kp p c H H' → StrAt H' p c (n + 12) → Q (.ref q) H'
section
variable {P : Program} {w : World} {K : PySem.W.Frag} {mg : Str → Option Value} {base : Heap}
theorem scNames : FnScope ["stream", "many", "some"] ["stream", "many"] (defScope sNames) := ⟨rfl, rfl, rfl, by decide +kernel, rfl, by decide +kernel, by decide +kernel⟩
theorem ok_names {f fM : Addr} {fd fdM : FuncData} (F : FnP K "_law_v_names" sNames f fd) (GM : FnOk P w K mg base CX0 2 fM fdM ["stream", "some"] (spMixed K)) (bM : Binds K fdM ["stream", "some"] []) (kM : PySem.W.keepIn K (.ref fM) = true) (gM : mg "_law_mixed" = some (.ref fM)) :
    FnOk P w K mg base CX0 3 f fd ["stream", "many"] spNames := by
  refine F.ok scNames (fun vs H Q E h => ?_) (fun cdv A outer s H vs Q E hr h => ?_)
  · obtain ⟨p, c, n, many, rfl, _⟩ := h
    rfl
  · obtain ⟨p, c, n, many, rfl, hS, hn, hm1, hm2, k⟩ := h
    refine ⟨_, PSs.nox (pss_cons (ps_set (i := 2) scNames.nd rfl (.inl rfl) (pe_lst (pa_cons pe_str (pa_cons pe_str (pa_cons pe_str (pa_cons pe_str (pa_cons pe_str (pa_cons pe_str (pa_cons pe_str (pa_cons pe_str (pa_cons pe_str (pa_cons pe_str (pa_cons pe_str (pa_cons pe_str pa_nil))))))))))))))
      (pss_one (ps_ret (pe_slice sl_list (pe_call GM hr rfl gM kM bM .nil pass0 (pa_cons (pv 0) (pa_cons (pv 2) pa_nil))) po_none (po_some (pv 1)))))), ?_⟩
    refine ⟨by show 12 ≤ sizeLine; decide, fun a ha => ?_⟩
    have S1 : StrAt (upd H a (.lst (names12.map V.str))) p c n := hS.new ha
    refine ⟨_, rfl, _, rfl, p, c, a, n, names12.map V.str, rfl, S1, hn, .inl (SqL.of upd_same), by decide, fun q ys H' hq hq' hp hK hS' => ?_⟩
    obtain ⟨zs, hz, rfl⟩ := perm_strs hp
    refine ⟨_, rfl, _, rfl, q, _, rfl, SqL.of hq', fun r hr' => ?_⟩
    rw [cutV_take, ← List.map_take]
    have hqa : q ≠ a := fun z => by rw [z, upd_same] at hq; cases hq
    have K1 : Kp p c H H' := ((Kp.refl H).new ha).trans hK
    have hrH : H r = none := K1.fresh hS' hr'
    refine k r (zs.take many) _ hrH upd_same ?_ ?_ (fun h hh => hz.mem_iff.mp (List.mem_of_mem_take hh)) (K1.new hr') (hS'.new hr')
    · rw [List.length_take, hz.length_eq]
      show min many 12 = many
      omega
    · exact List.Nodup.sublist (List.take_sublist _ _) (hz.nodup_iff.mpr (by decide +kernel))
end
end K02

namespace K02
open PySem PySem.Spec PyProof.Rows L2 Tr
/-- pairs of texts, each at its place -/
abbrev PrL : Type := List (Addr × Str × Str)
def PrsAt (H : Hp) (qs : PrL) : Prop := ∀ t ∈ qs, H t.1 = some (.tup [.str t.2.1, .str t.2.2])
def refsL (qs : PrL) : List V := qs.map fun t => .ref t.1
theorem PrsAt.keep {H H' : Hp} {qs : PrL} (h : PrsAt H qs) (e : ∀ t ∈ qs, ∀ o, H t.1 = some o → H' t.1 = some o) : PrsAt H' qs := fun t ht => e t ht _ (h t ht)
theorem PrsAt.ex {H H' : Hp} {qs : PrL} (h : PrsAt H qs) (e : Evl.Ex H H') : PrsAt H' qs := fun t ht => e _ _ (h t ht)
theorem PrsAt.kp {H0 H H' : Hp} {qs : PrL} {p c : Addr} (h : PrsAt H qs) (e : Kp p c H H') (hp : ∀ t ∈ qs, t.1 ≠ p ∧ t.1 ≠ c) : PrsAt H' qs := fun t ht => e _ _ (h t ht) (hp t ht).1 (hp t ht).2
theorem PrsAt.nep {H : Hp} {qs : PrL} {p c : Addr} {n : Nat} (h : PrsAt H qs) (hS : StrAt H p c n) : ∀ t ∈ qs, t.1 ≠ p ∧ t.1 ≠ c := fun t ht => by
  obtain ⟨L, cells, a', k', m', g1, g2, _⟩ := hS
  have e := h t ht
  refine ⟨fun z => ?_, fun z => ?_⟩
  · rw [z, g1] at e
    cases e
  · rw [z, g2] at e
    cases e
/-- a list of names is no part of the stream -/
theorem strs_nep {H : Hp} {l p c : Addr} {n : Nat} {hs : List Str} (h : H l = some (.lst (hs.map V.str))) (hne : hs ≠ []) (hS : StrAt H p c n) : l ≠ p ∧ l ≠ c := by
  obtain ⟨L, cells, a', k', m', g1, g2, _⟩ := hS
  refine ⟨fun z => ?_, fun z => ?_⟩
  · rw [z, g1] at h
    cases hs with
    | nil => exact hne rfl
    | cons x r => cases h
  · rw [z, g2] at h
    cases hs with
    | nil => exact hne rfl
    | cons x r =>
      have h := Option.some.inj h
      injection h with h
      cases cells with
      | nil => cases h
      | cons i t => injection h with h1 _; cases h1
abbrev sPaths : Stmt := top 47
def spPaths : Sp := fun vs H Q _ => ∃ (p c l : Addr) (n : Nat) (hs : List Str), vs = [.ref p, .ref l] ∧ StrAt H p c n ∧ n + 64 ≤ 1000000000 ∧ H l = some (.lst (hs.map V.str)) ∧ hs ≠ [] ∧ hs.length ≤ 12 ∧ hs.Nodup ∧
  ∀ (q : Addr) (qs : PrL) (H' : Hp), H q = none → H' q = some (.lst (refsL qs)) → PrsAt H' qs → (∀ t ∈ qs, H t.1 = none) → Tree hs (qs.map (·.2)) → qs.length + 1 = hs.length → Kp p c H H' → StrAt H' p c (n + 64) → Q (.ref q) H'
theorem getD_of {α : Type} {l : List α} {i : Nat} (h : i < l.length) : ∃ x, l[i]? = some x := ⟨l[i], List.getElem?_eq_getElem h⟩
theorem snd_refs {xs : List V} {qs : PrL} (h : xs.Perm (refsL qs)) : ∃ zs : PrL, zs.Perm qs ∧ xs = refsL zs := by
  obtain ⟨ys, p, e⟩ := perm_lift (fun t : Addr × Str × Str => V.ref t.1) h qs rfl
  exact ⟨ys, p, e.symm⟩
section
variable {P : Program} {w : World} {K : PySem.W.Frag} {mg : Str → Option Value} {base : Heap}
theorem scPaths : FnScope ["stream", "houses", "shape", "found", "k", "at", "pair"] ["stream", "houses"] (defScope sPaths) := ⟨rfl, rfl, rfl, by decide +kernel, rfl, by decide +kernel, by decide +kernel⟩
theorem ok_paths {f fD fM : Addr} {fd fdD fdM : FuncData} (F : FnP K "_law_v_paths" sPaths f fd) (GD : FnOk P w K mg base CX0 1 fD fdD ["stream", "many"] spDraw) (bD : Binds K fdD ["stream", "many"] []) (kD : PySem.W.keepIn K (.ref fD) = true) (gD : mg "_law_draw" = some (.ref fD))
    (GM : FnOk P w K mg base CX0 2 fM fdM ["stream", "some"] (spMixed K)) (bM : Binds K fdM ["stream", "some"] []) (kM : PySem.W.keepIn K (.ref fM) = true) (gM : mg "_law_mixed" = some (.ref fM)) (gR : mg "range" = none) (gL : mg "len" = none) (gX : mg "max" = none) :
    FnOk P w K mg base CX0 3 f fd ["stream", "houses"] spPaths := by
  refine F.ok scPaths (fun vs H Q E h => ?_) (fun cdv A outer s H vs Q E hr h => ?_)
  · obtain ⟨p, c, l, n, hs, rfl, _⟩ := h
    rfl
  · obtain ⟨p, c, l, n, hs, rfl, hS, hn, hl, hne, h12, hnd, k⟩ := h
    refine ⟨_, PSs.nox (pss_cons (ps_par (i := 2) (j := 3) rfl scPaths.nd rfl rfl (by decide) rfl rfl (pa_cons (pe_call GD (hr.mono (by decide)) rfl gD kD bD .nil pass0 (pa_cons (pv 0) (pa_cons pe_int pa_nil))) (pa_cons (pe_lst pa_nil) pa_nil)) rfl)
      (pss_cons (ps_for PassesOwn.never rfl (pi_range2 rfl gR (pa_cons pe_int (pa_cons (pe_callB call_len_seq (by rfl) gL PySem.boot_len (pa_cons (pv 1) pa_nil)) pa_nil))) (pg_name (i := 4) scPaths.nd rfl (.inl rfl))
        (pss_cons (ps_set (i := 5) scPaths.nd rfl (.inl rfl) (pe_ix ix_list (pe_lst (pa_cons (pe_op op_sub (pv 4) pe_int) (pa_cons pe_int (pa_cons (pe_call GD (hr.mono (by decide)) rfl gD kD bD .nil pass0 (pa_cons (pv 0) (pa_cons (pv 4) pa_nil)))
            (pa_cons (pe_callB (call_max2 rfl) (by rfl) gX (by decide +kernel) (pa_cons pe_int (pa_cons (pe_op op_sub (pe_op op_sub (pv 4) pe_int) (pe_call GD (hr.mono (by decide)) rfl gD kD bD .nil pass0 (pa_cons (pv 0) (pa_cons pe_int pa_nil)))) pa_nil))) pa_nil))))) (pv 2) (fun _ _ => rfl)))
        (pss_cons (ps_set (i := 6) scPaths.nd rfl (.inl rfl) (pe_tup (pa_cons (pe_ix ix_list (pv 1) (pv 5) (fun _ _ => rfl)) (pa_cons (pe_ix ix_list (pv 1) (pv 4) (fun _ _ => rfl)) pa_nil))))
        (pss_one (ps_expr (pe_bm PySem.F.plainAttrs_list PySem.F.slot_list_append PySem.F.type_list_append mt_append (pv 3) (pa_cons (pe_ifExp (pt_cmpR op_eq (pe_call GD (hr.mono (by decide)) rfl gD kD bD .nil pass0 (pa_cons (pv 0) (pa_cons pe_int pa_nil))) pe_int (nomark _)) (pv 6) (pe_revT (pv 6))) pa_nil)))))))
      (pss_one (ps_ret (pe_call GM hr rfl gM kM bM .nil pass0 (pa_cons (pv 0) (pa_cons (pv 3) pa_nil))))))), ?_⟩
    obtain ⟨hlp, hlc⟩ := strs_nep hl hne hS
    have hl1 : 1 ≤ hs.length := List.length_pos_iff.mpr hne
    refine ⟨_, rfl, p, c, n, 4, rfl, hS, by omega, by decide, by decide, fun d H1 d0 d4 hK1 hS1 => ?_⟩
    refine ⟨by show 0 ≤ sizeLine; decide, fun fo hfo => ⟨_, _, rfl, ?_⟩⟩
    have hl1' : H1 l = some (.lst (hs.map V.str)) := hK1 _ _ hl hlp hlc
    have hlfo : l ≠ fo := ne_of_none hl1' hfo
    have lenS : (hs.map V.str).length = hs.length := List.length_map _
    refine ⟨_, rfl, l, _, rfl, .inl (SqL.of (by rw [upd_ne hlfo]; exact hl1')), 1, (hs.length : Nat), by rw [lenS], ⟨by decide, by decide, by omega, by omega⟩, ?_⟩
    obtain ⟨nfp, nfc⟩ := hS1.ne hfo
    have hfoH : H fo = none := hK1.fresh hS1 hfo
    refine for_it walk_range (fun i σ H' => ∃ (v4 v5 v6 : Option V) (qs : PrL), σ = [some (.ref p), some (.ref l), some (.int d), some (.ref fo), v4, v5, v6] ∧ H' fo = some (.lst (refsL qs)) ∧ PrsAt H' qs ∧ (∀ t ∈ qs, H t.1 = none) ∧ qs.length = i ∧ Tree (hs.take (i + 1)) (qs.map (·.2)) ∧ Kp p c H H' ∧ StrAt H' p c (n + 1 + 3 * i))
      ?_ (fun _ _ _ _ _ => trivial) (fun i x σ H' H'' hi hp hy => ?_) (fun σ H' hp => ?_)
    · refine ⟨none, none, none, [], rfl, upd_same, fun t ht => absurd ht (by simp), fun t ht => absurd ht (by simp), rfl, ?_, hK1.new hfo, hS1.new hfo⟩
      cases hs with
      | nil => exact absurd rfl hne
      | cons h0 r => exact Tree.sole h0
    · obtain ⟨v4, v5, v6, qs, rfl, e1, e2, e3, e4, e5, e6, e7⟩ := hp
      obtain ⟨rfl, rfl⟩ := hy
      have hi' : i + 1 < hs.length := by omega
      have ek : (1 : Int) + (i : Nat) = ((i + 1 : Nat) : Int) := by omega
      have hlx : H'' l = some (.lst (hs.map V.str)) := e6 _ _ hl hlp hlc
      -- the four places
      refine ⟨_, rfl, _, _, rfl, rfl, _, rfl, _, rfl, p, c, n + 1 + 3 * i, 1 + (i : Nat), rfl, e7, by omega, by omega, by omega, fun d1 H2 a1 b1 hK2 hS2 => ?_⟩
      refine ⟨_, rfl, _, _, rfl, rfl, _, rfl, p, c, n + 1 + 3 * i + 1, 2, rfl, hS2, by omega, by decide, by decide, fun d2 H3 a2 b2 hK3 hS3 => ?_⟩
      refine ⟨_, _, rfl, rfl, _, _, rfl, ?_⟩
      refine ⟨by show 4 ≤ sizeLine; decide, fun la hla => ?_⟩
      have hK23 : Kp p c H H3 := (e6.trans hK2).trans hK3
      obtain ⟨j, rfl⟩ : ∃ j : Nat, d = (j : Int) := ⟨d.toNat, by omega⟩
      have hj4 : j < 4 := by omega
      -- the place drawn
      obtain ⟨at_, hat, hle⟩ : ∃ at_ : Nat, [V.int (1 + (i : Nat) - 1), .int 0, .int d1, .int (if 1 + (i : Nat) - 1 - d2 > 0 then 1 + (i : Nat) - 1 - d2 else 0)][j]? = some (.int (at_ : Nat)) ∧ at_ ≤ i := by
        have h4 : j = 0 ∨ j = 1 ∨ j = 2 ∨ j = 3 := by omega
        rcases h4 with rfl | rfl | rfl | rfl
        · exact ⟨i, by simp only [List.getElem?_cons_zero]; congr 2; omega, Nat.le_refl _⟩
        · exact ⟨0, rfl, Nat.zero_le _⟩
        · refine ⟨d1.toNat, ?_, by omega⟩
          show some (V.int d1) = _
          congr 2; omega
        · refine ⟨(if 1 + (i : Int) - 1 - d2 > 0 then 1 + (i : Int) - 1 - d2 else 0).toNat, ?_, by split <;> omega⟩
          show some (V.int _) = _
          congr 2
          split <;> omega
      refine ⟨_, rfl, la, _, (j : Int), _, rfl, rfl, SqL.of upd_same, atI_nat hat, ?_⟩
      have hl3 : H3 l = some (.lst (hs.map V.str)) := hK23 _ _ hl hlp hlc
      have hf3 : H3 fo = some (.lst (refsL qs)) := hK3 _ _ (hK2 _ _ e1 nfp nfc) nfp nfc
      have hll : l ≠ la := ne_of_none hl3 hla
      have hfl : fo ≠ la := ne_of_none hf3 hla
      have hl3' : upd H3 la (.lst [.int (1 + (i : Nat) - 1), .int 0, .int d1, .int (if 1 + (i : Nat) - 1 - d2 > 0 then 1 + (i : Nat) - 1 - d2 else 0)]) l = some (.lst (hs.map V.str)) := by rw [upd_ne hll]; exact hl3
      have hf3' : upd H3 la (.lst [.int (1 + (i : Nat) - 1), .int 0, .int d1, .int (if 1 + (i : Nat) - 1 - d2 > 0 then 1 + (i : Nat) - 1 - d2 else 0)]) fo = some (.lst (refsL qs)) := by rw [upd_ne hfl]; exact hf3
      have hK4 : Kp p c H (upd H3 la (.lst [.int (1 + (i : Nat) - 1), .int 0, .int d1, .int (if 1 + (i : Nat) - 1 - d2 > 0 then 1 + (i : Nat) - 1 - d2 else 0)])) := hK23.new hla
      have hS4 : StrAt (upd H3 la (.lst [.int (1 + (i : Nat) - 1), .int 0, .int d1, .int (if 1 + (i : Nat) - 1 - d2 > 0 then 1 + (i : Nat) - 1 - d2 else 0)])) p c (n + 1 + 3 * i + 1 + 1) := hS3.new hla
      have hP4 : PrsAt (upd H3 la (.lst [.int (1 + (i : Nat) - 1), .int 0, .int d1, .int (if 1 + (i : Nat) - 1 - d2 > 0 then 1 + (i : Nat) - 1 - d2 else 0)])) qs := fun t ht => by
        obtain ⟨n1, n2⟩ := e2.nep e7 t ht
        have := hK3 _ _ (hK2 _ _ (e2 t ht) n1 n2) n1 n2
        rw [upd_ne (ne_of_none this hla)]
        exact this
      dsimp only [List.set, gName]
      generalize upd H3 la (.lst [.int (1 + (i : Nat) - 1), .int 0, .int d1, .int (if 1 + (i : Nat) - 1 - d2 > 0 then 1 + (i : Nat) - 1 - d2 else 0)]) = H4 at hl3' hf3' hK4 hS4 hP4
      have hat1 : at_ < hs.length := by omega
      obtain ⟨a, ha⟩ := getD_of hat1
      obtain ⟨b, hb⟩ := getD_of hi'
      have haV : (hs.map V.str)[at_]? = some (.str a) := by rw [List.getElem?_map, ha]; rfl
      have hbV : (hs.map V.str)[i + 1]? = some (.str b) := by rw [List.getElem?_map, hb]; rfl
      refine ⟨_, rfl, _, rfl, l, _, ((at_ : Nat) : Int), _, rfl, rfl, SqL.of hl3', atI_nat haV, _, rfl, _, rfl, l, _, 1 + (i : Nat), _, rfl, rfl, SqL.of hl3', by rw [ek]; exact atI_nat hbV, by show 2 ≤ sizeLine; decide, fun T hT => ?_⟩
      have hfT : fo ≠ T := ne_of_none hf3' hT
      have hK5 : Kp p c H (upd H4 T (.tup [.str a, .str b])) := hK4.new hT
      have hTH : H T = none := hK4.fresh hS4 hT
      have hP5 : PrsAt (upd H4 T (.tup [.str a, .str b])) qs := fun t ht => by
        rw [upd_ne (ne_of_none (hP4 t ht) hT)]
        exact hP4 t ht
      have hf5 : upd H4 T (.tup [.str a, .str b]) fo = some (.lst (refsL qs)) := by rw [upd_ne hfT]; exact hf3'
      have hS5 : StrAt (upd H4 T (.tup [.str a, .str b])) p c (n + 1 + 3 * i + 1 + 1) := hS4.new hT
      obtain ⟨nTp, nTc⟩ := hS4.ne hT
      have hT5 : upd H4 T (.tup [.str a, .str b]) T = some (.tup [.str a, .str b]) := upd_same
      generalize upd H4 T (.tup [.str a, .str b]) = H5 at hK5 hP5 hf5 hS5 hT5
      -- the tree with one leaf more
      have hta : a ∈ hs.take (i + 1) := by
        refine List.mem_of_getElem? (i := at_) ?_
        rw [List.getElem?_take_of_lt (by omega)]
        exact ha
      have htk : hs.take (i + 1 + 1) = hs.take (i + 1) ++ [b] := by
        rw [List.take_add_one, hb]
        rfl
      have htb : b ∉ hs.take (i + 1) := fun z => by
        obtain ⟨j', hj'⟩ := List.mem_iff_getElem?.mp z
        have lt : j' < i + 1 := by
          have := (List.getElem?_eq_some_iff.mp hj').1
          rw [List.length_take] at this
          omega
        rw [List.getElem?_take_of_lt lt] at hj'
        have := (List.getElem?_inj (by omega) hnd).mp (hj'.trans hb.symm)
        omega
      refine ⟨_, rfl, .inl ⟨rfl, _, SqL.of hf5⟩, _, rfl, p, c, n + 1 + 3 * i + 1 + 1, 2, rfl, hS5, by omega, by decide, by decide, fun d3 H6 a3 b3 hK6 hS6 => ?_⟩
      have hf6 : H6 fo = some (.lst (refsL qs)) := hK6 _ _ hf5 nfp nfc
      have hT6 : H6 T = some (.tup [.str a, .str b]) := hK6 _ _ hT5 nTp nTc
      have hP6 : PrsAt H6 qs := hP5.kp (H0 := H) hK6 (hP5.nep hS5)
      have h12' : (refsL qs).length < sizeLine := by
        unfold refsL
        rw [List.length_map, e4]
        exact Nat.lt_of_lt_of_le (show i < 12 by omega) (by decide)
      refine ⟨rfl, _, rfl, ite2 (fun hz => ?_) (fun hz => ?_)⟩
      · refine ⟨_, rfl, fo, _, _, rfl, rfl, hf6, h12', ?_⟩
        refine ⟨_, _, _, qs ++ [(T, a, b)], rfl, by unfold refsL; rw [List.map_append]; exact upd_same, fun t ht => ?_, fun t ht => ?_, by simp [e4], ?_, ((hK5.trans hK6).mut hfoH), ?_⟩
        · rcases List.mem_append.mp ht with ht | ht
          · rw [upd_ne (fun z => by have := hP6 t ht; rw [z, hf6] at this; cases this)]
            exact hP6 t ht
          · simp only [List.mem_singleton] at ht
            subst ht
            rw [upd_ne hfT.symm]
            exact hT6
        · rcases List.mem_append.mp ht with ht | ht
          · exact e3 t ht
          · simp only [List.mem_singleton] at ht
            subst ht
            exact hTH
        · rw [List.map_append, htk]
          exact e5.leaf hta htb (.inl rfl)
        · exact (hS6.upd nfp nfc).mono (by omega)
      · refine ⟨_, rfl, T, .str a, .str b, rfl, SqT.of hT6, fun U hU => ?_⟩
        have hfU : fo ≠ U := ne_of_none hf6 hU
        refine ⟨fo, _, _, rfl, rfl, by rw [upd_ne hfU]; exact hf6, h12', ?_⟩
        refine ⟨_, _, _, qs ++ [(U, b, a)], rfl, by unfold refsL; rw [List.map_append]; exact upd_same, fun t ht => ?_, fun t ht => ?_, by simp [e4], ?_, (((hK5.trans hK6).new hU).mut hfoH), ?_⟩
        · rcases List.mem_append.mp ht with ht | ht
          · rw [upd_ne (fun z => by have := hP6 t ht; rw [z, hf6] at this; cases this), upd_ne (ne_of_none (hP6 t ht) hU)]
            exact hP6 t ht
          · simp only [List.mem_singleton] at ht
            subst ht
            rw [upd_ne hfU.symm]
            exact upd_same
        · rcases List.mem_append.mp ht with ht | ht
          · exact e3 t ht
          · simp only [List.mem_singleton] at ht
            subst ht
            exact (hK5.trans hK6).fresh hS6 hU
        · rw [List.map_append, htk]
          exact e5.leaf hta htb (.inr rfl)
        · exact ((hS6.new hU).upd nfp nfc).mono (by omega)
    · obtain ⟨v4, v5, v6, qs, rfl, e1, e2, e3, e4, e5, e6, e7⟩ := hp
      have en : (((hs.length : Nat) : Int) - 1).toNat + 1 = hs.length := by omega
      have en2 : qs.length + 1 = hs.length := by rw [e4]; exact en
      rw [en, List.take_length] at e5
      refine ⟨_, rfl, _, rfl, p, c, fo, n + 1 + 3 * (((hs.length : Nat) : Int) - 1).toNat, refsL qs, rfl, e7, ?_, .inl (SqL.of e1), ?_, fun q ys H' hq hq' hp hK hS' => ?_⟩
      · unfold refsL
        rw [List.length_map]
        omega
      · unfold refsL
        rw [List.length_map]
        omega
      · obtain ⟨zs, hz, rfl⟩ := snd_refs hp
        have hP := e2.kp (H0 := H) hK (e2.nep e7)
        refine k q zs H' (e6.fresh e7 hq) hq' (fun t ht => hP t (hz.mem_iff.mp ht)) (fun t ht => e3 t (hz.mem_iff.mp ht)) (e5.perm (List.Perm.refl _) (hz.map _)) (by rw [hz.length_eq]; exact en2) (e6.trans hK) (hS'.mono ?_)
        unfold refsL
        rw [List.length_map]
        omega
end
end K02

namespace K02
open PySem PySem.Spec PyProof.Rows L2
/-! ### plain things and their kinds -/
inductive Pl (H : Hp) : V → String → Prop
  | non : Pl H .non "NoneType"
  | bl (b : Bool) : Pl H (.bl b) "bool"
  | int (i : Int) : Pl H (.int i) "int"
  | str (z : Str) : Pl H (.str z) "str"
  | lst {a : Addr} {xs : List V} (h : H a = some (.lst xs)) : Pl H (.ref a) "list"
  | tup {a : Addr} {xs : List V} (h : H a = some (.tup xs)) : Pl H (.ref a) "tuple"
  | frt {a : Addr} {xs : List V} {o : Obj} (h : H a = some (.frz o (.tup xs))) : Pl H (.ref a) "tuple"
  | dic {a : Addr} {kvs : List (Key × V)} (h : H a = some (.dK kvs)) : Pl H (.ref a) "dict"
  | dct {a : Addr} {kvs : List (List Key × V)} (h : H a = some (.dT kvs)) : Pl H (.ref a) "dict"
theorem Pl.ext {H H' : Hp} {x : V} {n : String} (h : Pl H x n) (e : Evl.Ex H H') : Pl H' x n := by
  cases h with
  | non => exact .non
  | bl b => exact .bl b
  | int i => exact .int i
  | str z => exact .str z
  | lst h => exact .lst (e _ _ h)
  | tup h => exact .tup (e _ _ h)
  | frt h => exact .frt (e _ _ h)
  | dic h => exact .dic (e _ _ h)
  | dct h => exact .dct (e _ _ h)
theorem Pl.kp {H H' : Hp} {p c : Addr} {m : Nat} {x : V} {n : String} (h : Pl H x n) (hp : x ≠ .ref p) (hc : x ≠ .ref c) (e : Kp p c H H') : Pl H' x n := by
  have key : ∀ {a : Addr} {o : HO}, x = .ref a → H a = some o → H' a = some o := fun {a o} hx h => e _ _ h (fun z => hp (by rw [hx, z])) (fun z => hc (by rw [hx, z]))
  cases h with
  | non => exact .non
  | bl b => exact .bl b
  | int i => exact .int i
  | str z => exact .str z
  | lst h => exact .lst (key rfl h)
  | tup h => exact .tup (key rfl h)
  | frt h => exact .frt (key rfl h)
  | dic h => exact .dic (key rfl h)
  | dct h => exact .dct (key rfl h)
theorem rdEx {H H' : Hp} {a : Addr} {u : HO} (e : Evl.Ex H H') (h : Rd H a u) : Rd H' a u := h.imp (fun z => e _ _ z) (fun ⟨o, z⟩ => ⟨o, e _ _ z⟩)
theorem Pl.rdt {H : Hp} {a : Addr} {xs : List V} (h : Rd H a (.tup xs)) : Pl H (.ref a) "tuple" := by
  rcases h with h | ⟨o, h⟩
  · exact .tup h
  · exact .frt h
def isB (n t : String) : Bool := n == t || (n == "bool" && t == "int")
def kinds : List String := ["NoneType", "bool", "int", "str", "list", "tuple", "dict"]
theorem kit_tab : ∀ n ∈ kinds, ∀ t ∈ ["int", "bool", "list", "tuple", "dict", "str"], kitB n t = some (isB n t) := by decide +kernel
theorem Pl.mem {H : Hp} {x : V} {n : String} (h : Pl H x n) : n ∈ kinds := by cases h <;> decide
theorem Pl.ty {K : PySem.W.Frag} {H : Hp} {x : V} {n : String} (h : Pl H x n) : TyX K H x (.type n) := by
  cases h with
  | non => exact .base .non
  | bl b => exact .base (.bl b)
  | int i => exact .base (.int i)
  | str z => exact .base (.str z)
  | lst h => exact .base (.lst h)
  | tup h => exact .base (.tup h)
  | frt h => exact .fTuple h
  | dic h => exact .base (.dK h)
  | dct h => exact .base (.dT h)
theorem Pl.one {K : PySem.W.Frag} {H : Hp} {x : V} {n : String} (h : Pl H x n) (t : String) (ht : t ∈ ["int", "bool", "list", "tuple", "dict", "str"] := by decide) : PySem.W.kitOne K (.type n) (.type t) = some (isB n t) := kit_ty (kit_tab n h.mem t ht)
def isBs (n : String) (ts : List String) : Bool := ts.any fun t => isB n t
theorem cls_tys : ∀ ts : List String, Paired ClsV (ts.map V.ty) (ts.map Value.type)
  | [] => .nil
  | t :: r => .cons (.ty t) (cls_tys r)
theorem Pl.any {K : PySem.W.Frag} {H : Hp} {x : V} {n : String} (h : Pl H x n) : ∀ ts : List String, (∀ t ∈ ts, t ∈ ["int", "bool", "list", "tuple", "dict", "str"]) → PySem.W.kitAny K (.type n) (ts.map Value.type) = some (isBs n ts)
  | [], _ => kitAny_nil
  | t :: r, ht => by
    have e2 := Pl.any (K := K) h r fun z hz => ht z (List.mem_cons_of_mem _ hz)
    unfold isBs at e2 ⊢
    refine kitAny_cons (h.one (K := K) t (ht t List.mem_cons_self)) (fun z => ?_) fun z => ?_
    · rw [e2, List.any_cons, z, Bool.false_or]
    · rw [List.any_cons, z, Bool.true_or]
/-! ### is_integer, is_number, is_listed -/
abbrev sIsLst : Stmt := top 16
def numV : V → Bool
  | .int i => decide (0 ≤ i)
  | _ => false
def intV : V → Bool
  | .int _ => true
  | _ => false
theorem int_kind {H : Hp} {x : V} {n : String} (h : Pl H x n) : (isB n "int" && !isB n "bool") = intV x := by cases h <;> rfl
def spIsInt : Sp := fun vs H Q _ => ∃ (x : V) (n : String), vs = [x] ∧ Pl H x n ∧ Q (.bl (intV x)) H
def spIsNum : Sp := fun vs H Q _ => ∃ (x : V) (n : String), vs = [x] ∧ Pl H x n ∧ Q (.bl (numV x)) H
def lstB (n : String) : Bool := isBs n ["list", "tuple"]
def spIsLst : Sp := fun vs H Q _ => ∃ (x : V) (n : String), vs = [x] ∧ Pl H x n ∧ ∀ H', Evl.Ex H H' → Q (.bl (lstB n)) H'
section
variable {P : Program} {w : World} {K : PySem.W.Frag} {mg : Str → Option Value} {base : Heap}
theorem scIsLst : FnScope ["thing"] ["thing"] (defScope sIsLst) := ⟨rfl, rfl, rfl, by decide +kernel, rfl, by decide +kernel, by decide +kernel⟩
theorem ok_isLst {f : Addr} {fd : FuncData} (F : FnP K "is_listed" sIsLst f fd) (gL : mg "list" = none) (gT : mg "tuple" = none) (gS : mg "isinstance" = none) : FnOk P w K mg base CX0 1 f fd ["thing"] spIsLst := by
  refine F.ok scIsLst (fun vs H Q E h => ?_) (fun cdv A outer s H vs Q E hr h => ?_)
  · obtain ⟨x, n, rfl, _⟩ := h
    rfl
  · obtain ⟨x, n, rfl, hx, k⟩ := h
    refine ⟨_, PSs.nox (pss_one (ps_ret (pe_callB call_isiT rfl gS (by decide +kernel) (pa_cons (pv 0) (pa_cons (pe_tup (pa_cons (pe_bltn (v := .ty "list") rfl gL (by decide +kernel) rfl) (pa_cons (pe_bltn (v := .ty "tuple") rfl gT (by decide +kernel) rfl) pa_nil))) pa_nil))))), ?_⟩
    refine ⟨_, rfl, by show 2 ≤ sizeLine; decide, fun t ht => ?_⟩
    exact ⟨_, _, _, _, _, _, rfl, upd_same, cls_tys ["list", "tuple"], (hx.ext (Evl.Ex.new ht)).ty, hx.any ["list", "tuple"] (by decide), k _ (Evl.Ex.new ht)⟩
end
end K02

namespace K02
open PySem PySem.Spec PyProof.Rows L2 Tr
/-! ### is_name, is_pair, path_between -/
def small : Str := "abcdefghijklmnopqrstuvwxyz"
def figs : Str := "0123456789"
theorem good_len : ∀ z ∈ names12, 1 ≤ z.length ∧ z.length ≤ 12 := by decide +kernel
theorem good_first : ∀ z ∈ names12, ∃ c ∈ small.cps.toList, z.cps[0]? = some c := by decide +kernel
theorem good_all : ∀ z ∈ names12, ∀ c ∈ z.cps.toList, c ∈ small.cps.toList ∨ c ∈ figs.cps.toList := by decide +kernel
abbrev rInSg : R2 := fun x y H Q => ∃ (c : Nat) (z : Str), x = .str ⟨#[c]⟩ ∧ y = .str z ∧ Q (.bl (decide (c ∈ z.cps.toList))) H
abbrev sIsName : Stmt := top 13
def spIsName : Sp := fun vs H Q _ => ∃ z : Str, vs = [.str z] ∧ z ∈ names12 ∧ ∀ H', Evl.Ex H H' → Q (.bl true) H'
section
variable {P : Program} {w : World} {K : PySem.W.Frag} {mg : Str → Option Value} {base : Heap}
theorem scIsName : FnScope ["thing", "sign"] ["thing"] (defScope sIsName) := ⟨rfl, rfl, rfl, by decide +kernel, rfl, by decide +kernel, by decide +kernel⟩
theorem ok_isName {f : Addr} {fd : FuncData} (F : FnP K "is_name" sIsName f fd) (gS : mg "isinstance" = none) (gT : mg "str" = none) (gL : mg "len" = none) (gA : mg "all" = none)
    (gN : ∃ t, mg "LONGEST_NAME" = some (.int 12 t)) (gM : ∃ t, mg "SMALL_LETTERS" = some (.str small t)) (gF : ∃ t, mg "FIGURES" = some (.str figs t)) : FnOk P w K mg base CX0 1 f fd ["thing"] spIsName := by
  obtain ⟨t1, gN⟩ := gN
  obtain ⟨t2, gM⟩ := gM
  obtain ⟨t3, gF⟩ := gF
  refine F.ok scIsName (fun vs H Q E h => ?_) (fun cdv A outer s H vs Q E hr h => ?_)
  · obtain ⟨z, rfl, _⟩ := h
    rfl
  · obtain ⟨z, rfl, hz, k⟩ := h
    obtain ⟨l1, l2⟩ := good_len z hz
    obtain ⟨c0, hc0, hf0⟩ := good_first z hz
    refine' ⟨_, PSs.nox (pss_cons (ps_if (PW.pt (pw_or (pt_not (pt_val (pe_callB call_isi rfl gS (by decide +kernel) (pa_cons (pv 0) (pa_cons (pe_bltn (v := .ty "str") rfl gT (by decide +kernel) rfl) pa_nil)))))
        (pw_or1 (pt_not (pt_chain op_le op_le pe_int (pe_callB call_len_str (by rfl) gL PySem.boot_len (pa_cons (pv 0) pa_nil)) (pe_glob rfl gN (v := .int 12) ⟨_, rfl⟩)))))) pss_never pss_nil)
      (pss_cons (ps_if (pt_cmpR op_notIn_sign (pe_item_str (pv 0) pe_int (fun _ _ => rfl)) (pe_glob rfl gM (v := .str small) ⟨_, rfl⟩) rfl) pss_never pss_nil)
      (pss_one (ps_ret (pe_callB (cr_all rfl) (by rfl) gA (by decide +kernel) (pa_cons ?lc pa_nil)))))), ?rd⟩
    case lc =>
      refine pe_lc (own := [("sign", 1)]) (g := gName 1) (tt := tYes) (te := tOrV (tOp rInSg (tVar 1) (tC (.str small))) (tOp rInSg (tVar 1) (tC (.str figs)))) rfl scIsName.nd (pi_str (pv 0))
        (blkOk_by (own := [("sign", 1)]) (N := ["thing", "sign"]) (sc := defScope sIsName) (by decide +kernel)) (fun _ _ _ _ _ => pg_name (i := 1) scIsName.nd rfl (.inl rfl)) (fun _ _ _ _ _ => pts_nil) ?_
      intro _ _ _ _ _
      exact pe_or (pe_cmpR op_in_sign (pv 1) (pe_glob rfl gM (v := .str small) ⟨_, rfl⟩) rfl) (pe_one (pe_cmpR op_in_sign (pv 1) (pe_glob rfl gF (v := .str figs) ⟨_, rfl⟩) rfl))
    refine ⟨_, rfl, _, _, _, _, _, rfl, .ty _, (Pl.str z : Pl H (.str z) "str").ty, (Pl.str z : Pl H (.str z) "str").one "str", _, rfl, ?_⟩
    refine ite2 (fun q => absurd q (by decide)) (fun _ => ?_)
    refine ⟨_, rfl, z, rfl, Nat.le_trans l2 (by decide), _, _, rfl, rfl, _, rfl, ?_⟩
    have e1 : decide ((1 : Int) ≤ (z.length : Nat)) = true := decide_eq_true (by omega)
    refine ite2 (fun _ => ?_) (fun q => absurd e1 q)
    refine ⟨_, _, rfl, rfl, _, rfl, ?_⟩
    have e2 : decide (((z.length : Nat) : Int) ≤ 12) = true := decide_eq_true (by omega)
    rw [e2]
    refine iteF ?_
    have hlen : (0 : Int) < (z.length : Nat) := by omega
    refine ⟨_, rfl, z, 0, c0, rfl, rfl, Int.le_refl _, by decide, hlen, hf0, c0, small, rfl, rfl, _, rfl, ?_⟩
    rw [decide_eq_true hc0]
    refine iteF ?_
    refine ⟨_, rfl, z, rfl, fun D hD => ?_⟩
    refine lc_it walk_str (fun i H' => Evl.Ex H H' ∧ ∃ bs : List Bool, H' D = some (.lst (bs.map V.bl)) ∧ bs.all id = true ∧ bs.length = i) ⟨Evl.Ex.new hD, [], upd_same, rfl, rfl⟩ (fun _ _ _ _ => trivial) (fun i x H1 H2 hi hp hy => ?_) (fun H1 hp => ?_)
    · obtain ⟨e3, bs, e4, e5, e6⟩ := hp
      obtain ⟨rfl, c, hc, rfl⟩ := hy
      have hm : c ∈ z.cps.toList := List.mem_of_getElem? (by simpa using hc)
      have hsz : bs.length < sizeLine := by
        have : z.cps.size ≤ 12 := l2
        rw [e6]
        exact Nat.lt_of_lt_of_le (show i < 12 by omega) (by decide)
      have fin : ∀ b, b = true → ∃ acc, H2 D = some (.lst acc) ∧ acc.length < sizeLine ∧ Evl.Ex H (upd H2 D (.lst (acc ++ [.bl b]))) ∧ ∃ bs : List Bool, upd H2 D (.lst (acc ++ [.bl b])) D = some (.lst (bs.map V.bl)) ∧ bs.all id = true ∧ bs.length = i + 1 := fun b hb =>
        ⟨_, e4, by rw [List.length_map]; exact hsz, fun a o e => by rw [upd_ne (fun q => by rw [q, hD] at e; cases e)]; exact e3 _ _ e, bs ++ [b], by rw [upd_same, List.map_append]; rfl, by rw [List.all_append, e5, hb]; rfl, by rw [List.length_append, e6]; rfl⟩
      refine ⟨rfl, _, rfl, c, small, rfl, rfl, _, rfl, ite2 (fun _ => fin true rfl) (fun q => ⟨_, rfl, c, figs, rfl, rfl, fin _ ?_⟩)⟩
      rcases good_all z hz c hm with q2 | q2
      · exact absurd (decide_eq_true q2) q
      · exact decide_eq_true q2
    · obtain ⟨e3, bs, e4, e5, e6⟩ := hp
      refine ⟨D, bs, rfl, SqL.of e4, ?_⟩
      rw [e5]
      exact k _ e3
end
end K02

/-! dicts whose keys are texts, told by a list of keys and a function; a dict comprehension over anything that is walked. Law-independent. -/
namespace Dk
open PySem PySem.Spec PyProof.Rows L2
def tab (hs : List Str) (g : Str → V) : List (Key × V) := hs.map fun h => (Sum.inr h, g h)
theorem tab_length (hs : List Str) (g : Str → V) : (tab hs g).length = hs.length := List.length_map _
theorem tab_congr {hs : List Str} {g g' : Str → V} (h : ∀ x ∈ hs, g x = g' x) : tab hs g = tab hs g' := List.map_congr_left fun x hx => by rw [h x hx]
theorem find_tab {x : Str} {g : Str → V} : ∀ (hs : List Str), (tab hs g).find? (fun kv => decide (kv.1 = Sum.inr x)) = if x ∈ hs then some (Sum.inr x, g x) else none
  | [] => by simp [tab]
  | h :: r => by
    have ih := find_tab (x := x) (g := g) r
    unfold tab at ih ⊢
    rw [List.map_cons, List.find?_cons]
    by_cases e : h = x
    · subst e
      simp
    · have e2 : decide ((Sum.inr h : Key) = Sum.inr x) = false := decide_eq_false (fun z => e (Sum.inr.inj z))
      simp only [e2]
      rw [ih]
      have e3 : ¬ x = h := fun z => e z.symm
      simp [e3]
theorem val_tab (hs : List Str) (g : Str → V) (x : Str) : valV (tab hs g) (Sum.inr x) = if x ∈ hs then some (g x) else none := by
  unfold valV
  rw [find_tab]
  split <;> rfl
theorem val_in {hs : List Str} {g : Str → V} {x : Str} (h : x ∈ hs) : valV (tab hs g) (Sum.inr x) = some (g x) := by rw [val_tab, if_pos h]
theorem val_out {hs : List Str} {g : Str → V} {x : Str} (h : x ∉ hs) : valV (tab hs g) (Sum.inr x) = none := by rw [val_tab, if_neg h]
theorem any_tab {hs : List Str} {g : Str → V} {x : Str} : ((tab hs g).any fun kv => decide (kv.1 = Sum.inr x)) = decide (x ∈ hs) := by
  induction hs with
  | nil => rfl
  | cons h r ih =>
    show (decide ((Sum.inr h : Key) = Sum.inr x) || (tab r g).any _) = _
    rw [ih]
    by_cases e : h = x
    · subst e; simp
    · have e3 : ¬ x = h := fun z => e z.symm
      have e2 : decide ((Sum.inr h : Key) = Sum.inr x) = false := decide_eq_false (fun z => e (Sum.inr.inj z))
      rw [e2]
      simp [e3]
theorem put_new {hs : List Str} {g : Str → V} {x : Str} {v : V} (h : x ∉ hs) : putK (tab hs g) (Sum.inr x) v = tab (hs ++ [x]) (fun y => if y = x then v else g y) := by
  unfold putK
  rw [any_tab, if_neg (by simpa using h)]
  unfold tab
  rw [List.map_append]
  congr 1
  · exact List.map_congr_left fun y hy => by
      show (Sum.inr y, g y) = (Sum.inr y, if y = x then v else g y)
      rw [if_neg (fun z : y = x => h (by rw [← z]; exact hy))]
  · simp
theorem put_old {hs : List Str} {g : Str → V} {x : Str} {v : V} (h : x ∈ hs) : putK (tab hs g) (Sum.inr x) v = tab hs (fun y => if y = x then v else g y) := by
  unfold putK
  rw [any_tab, if_pos (by simpa using h)]
  unfold tab
  rw [List.map_map]
  refine List.map_congr_left fun y hy => ?_
  show (if (Sum.inr y : Key) = Sum.inr x then ((Sum.inr y : Key), v) else (Sum.inr y, g y)) = _
  by_cases e : y = x
  · subst e; simp
  · rw [if_neg (fun z => e (Sum.inr.inj z))]
    show (Sum.inr y, g y) = (Sum.inr y, if y = x then v else g y)
    rw [if_neg e]
/-- a dict comprehension over what is walked -/
theorem dc_it {J : It} {n : Nat} {G : Hp → Prop} {Y : Nat → Hp → V → Hp → Prop} (w : Walk J n G Y) {g : TG} {tt : TT} {tk tv : TE} {vs : List Nat} {σ : L2.St} {H1 : Hp} {D : Addr} {Qd : Hp → Prop} (Pv : Nat → Hp → Prop) (h0 : Pv 0 (upd H1 D (.dK []))) (hG : ∀ i H, i ≤ n → Pv i H → G H)
    (hs : ∀ i x H H', i < n → Pv i H → Y i H x H' → g x (wipe σ vs) H' fun σ2 H2 => wipe σ2 vs = wipe σ vs ∧ tt σ2 H2 fun b H3 =>
      if b = true then tk σ2 H3 fun y H4 => tv σ2 H4 fun z H5 => ∃ kvs k, y = kV k ∧ H5 D = some (.dK kvs) ∧ kvs.length < sizeLine ∧ Pv (i + 1) (upd H5 D (.dK (putK kvs k z))) else Pv (i + 1) H3) (hd : ∀ H, Pv n H → Qd H) :
    ∃ W : Nat → Nat → Hp → Prop, (∃ m, W 0 m (upd H1 D (.dK []))) ∧ ∀ i m H, W i m H →
      (J.stop i H ∧ Qd H) ∨ (J.go i H ∧ ∃ Nx : Hp → Prop, (∀ H', Nx H' → ∃ m', m' < m ∧ W (i + 1) m' H') ∧ ∀ x H', J.yld i H x H' → g x (wipe σ vs) H' fun σ2 H2 => wipe σ2 vs = wipe σ vs ∧ tt σ2 H2 fun b H3 =>
        if b = true then tk σ2 H3 fun y H4 => tv σ2 H4 fun z H5 => ∃ kvs k, y = kV k ∧ H5 D = some (.dK kvs) ∧ kvs.length < sizeLine ∧ Nx (upd H5 D (.dK (putK kvs k z))) else Nx H3) := by
  refine ⟨fun i m H => m = n - i ∧ i ≤ n ∧ Pv i H, ⟨n, by simp, Nat.zero_le _, h0⟩, ?_⟩
  rintro i m H ⟨rfl, hi, p⟩
  have q := hG i H hi p
  by_cases hlt : i < n
  · exact .inr ⟨w.goes i H hlt q, Pv (i + 1), fun H' p' => ⟨n - (i + 1), by omega, rfl, hlt, p'⟩, fun x H' y => hs i x H H' hlt p (w.yields i H x H' hlt q y)⟩
  · have e : i = n := by omega
    subst e
    exact .inl ⟨w.stops H q, hd H p⟩
/-- a loop within a comprehension, whatever its turn is -/
theorem out_it {J : It} {n : Nat} {G : Hp → Prop} {Y : Nat → Hp → V → Hp → Prop} (w : Walk J n G Y) {H0 : Hp} {B : (Hp → Prop) → V → Hp → Prop} {Qd : Hp → Prop} (Pv : Nat → Hp → Prop) (h0 : Pv 0 H0) (hG : ∀ i H, i ≤ n → Pv i H → G H)
    (hs : ∀ i x H H', i < n → Pv i H → Y i H x H' → B (Pv (i + 1)) x H') (hd : ∀ H, Pv n H → Qd H) :
    ∃ W : Nat → Nat → Hp → Prop, (∃ m, W 0 m H0) ∧ ∀ i m H, W i m H → (J.stop i H ∧ Qd H) ∨ (J.go i H ∧ ∃ Nx : Hp → Prop, (∀ H', Nx H' → ∃ m', m' < m ∧ W (i + 1) m' H') ∧ ∀ x H', J.yld i H x H' → B Nx x H') := by
  refine ⟨fun i m H => m = n - i ∧ i ≤ n ∧ Pv i H, ⟨n, by simp, Nat.zero_le _, h0⟩, ?_⟩
  rintro i m H ⟨rfl, hi, p⟩
  have q := hG i H hi p
  by_cases hlt : i < n
  · exact .inr ⟨w.goes i H hlt q, Pv (i + 1), fun H' p' => ⟨n - (i + 1), by omega, rfl, hlt, p'⟩, fun x H' y => hs i x H H' hlt p (w.yields i H x H' hlt q y)⟩
  · have e : i = n := by omega
    subst e
    exact .inl ⟨w.stops H q, hd H p⟩
end Dk
namespace L2
open PySem PySem.Spec PyProof.Rows
section
variable {X : Cx}
/-- y = {k: v for ..}, y a plain local name -/
theorem ps_setDc {i : Nat} {y : Str} {py : Pos} {kx vx tg iter : Expr} {ifs : List Expr} {scope : Scope} {own : List (Str × Nat)} {pos spos : Pos} {wi : TI} {g : TG} {tt : TT} {tk tv : TE} (hc : X.calm = true) (hN : X.N.Nodup) (hy : X.N[i]? = some y) (hyl : X.env.scope.names.lookup y = some .local)
    (hsw : swapsWith (.DictComp kx vx [⟨tg, iter, ifs, 0⟩] scope pos) (some (.Name y py)) spos.line X.env = pure true) (hi : PI X tg iter wi) (ok : BlkOk X.N X.env.scope scope own)
    (hg : ∀ (s : Shared) (H : Hp) (C : Addr) (cl : List (Str × Addr)) (fp : List Addr), PG (X.blk s H scope (compEnvC scope cl C X.env) fp) tg g) (ht : ∀ (s : Shared) (H : Hp) (C : Addr) (cl : List (Str × Addr)) (fp : List Addr), PTs (X.blk s H scope (compEnvC scope cl C X.env) fp) ifs tt)
    (hk : ∀ (s : Shared) (H : Hp) (C : Addr) (cl : List (Str × Addr)) (fp : List Addr), PE (X.blk s H scope (compEnvC scope cl C X.env) fp) kx tk)
    (he : ∀ (s : Shared) (H : Hp) (C : Addr) (cl : List (Str × Addr)) (fp : List Addr), PE (X.blk s H scope (compEnvC scope cl C X.env) fp) vx tv) (hs : ∀ x, foldedSetIterable iter X.env x = pure x := by intro _; rfl) :
    PS X (.Assign [.Name y py] (.DictComp kx vx [⟨tg, iter, ifs, 0⟩] scope pos) spos) (tAsg (tDc wi g tt tk tv (own.map (·.2))) (gName i)) := by
  refine ⟨fun pins s σ H D I h => ?_⟩
  rw [exec_Assign_Name_used _ _ _ _ hsw]
  refine wpAny_bind (wpAny_standAt (wpAny_bind ?_))
  have h : tDc wi g tt tk tv (own.map (·.2)) σ H (fun x H1 => gName i x σ H1 D.nx) := h
  show wpAny _ X.A (do let _ ← comprehension (.DictComp kx vx [⟨tg, iter, ifs, 0⟩] scope pos) scope X.env (firstIterPos [⟨tg, iter, ifs, 0⟩] pos) newDict false (eval iter X.env) (some (assign (.Name y py) X.env))) _ _ s
  refine wpAny_bind (thn (dc_core (Qf := fun _ s' => SP X pins D .next s') hc hN I hi ok hg ht hk he hs h fun L C s' m H1 J1 q hn fr => ?_) fun _ s' z => wpAny_pure (wpAny_pure z))
  refine wpAny_assign_Name (store_ok2 (v := V.ref L) J1 hN hy (.inl hyl) rfl (fun s2 J2 ⟨b, sb, hb⟩ => ?_) (.inr hyl))
  obtain ⟨k0, k1, k2, k3, k4, k5⟩ := fr
  have nC : C ≠ b := by
    rcases hb with z | z
    · rw [z]
      exact k1
    · intro e
      exact k4 y b z e.symm
  refine ⟨m, hn.sameBut sb nC, fun h3 s3 => ⟨_, H1, J2.turned (t' := s2.toks) (fun x o hx e => (s3.2 x hx).trans e) k0 k1 k3 k4 k5, q⟩⟩
theorem sw_trueD {kx vx : Expr} {gs : List Comprehension} {scope : Scope} {pos py : Pos} {y : Str} {l : Nat} {env : Env} (hk : env.scope.kind = .function) (hy : env.scope.names.lookup y = some .local) (hl : (py.line == pos.line) = true)
    (ha : (scope.names.any fun (n, k) => n == y && (k == .local || k == .cell)) = false) : swapsWith (.DictComp kx vx gs scope pos) (some (.Name y py)) l env = pure true := by
  have ky : env.kindOf y = some .local := hy
  have hb : env.blockKind = .function := by unfold Env.blockKind; rw [hk]; rfl
  unfold swapsWith
  simp only [hb, ky, ha, Expr.pos, hl]
  rfl
end
end L2

/-! sorted(..) of pairs of texts, any number of them; law-independent. -/
namespace Srs
open PySem PySem.Spec PyProof.Rows L2 SrtO
/-- one text before another -/
def ltT (x y : Str) : Bool := decide (x.cps.toList < y.cps.toList)
theorem str_ext {x y : Str} (h : x.cps.toList = y.cps.toList) : x = y := by
  obtain ⟨a⟩ := x
  obtain ⟨b⟩ := y
  exact congrArg PySem.Str.mk (Array.toList_inj.mp h)
theorem ltT_irr (x : Str) : ltT x x = false := decide_eq_false (List.lt_irrefl _)
theorem ltT_asym {x y : Str} (h : ltT x y = true) : ltT y x = false := decide_eq_false (List.lt_asymm (of_decide_eq_true h))
theorem ltT_tr {x y z : Str} (h : ltT x y = true) (k : ltT y z = true) : ltT x z = true := decide_eq_true (List.lt_trans (of_decide_eq_true h) (of_decide_eq_true k))
theorem ltT_tot {x y : Str} (h : ltT x y = false) (k : ltT y x = false) : x = y := by
  refine str_ext ?_
  have a : y.cps.toList ≤ x.cps.toList := List.not_lt.mp (of_decide_eq_false h)
  have b : x.cps.toList ≤ y.cps.toList := List.not_lt.mp (of_decide_eq_false k)
  exact List.le_antisymm b a
def lexT (p q : Str × Str) : Bool := if p.1 = q.1 then ltT p.2 q.2 else ltT p.1 q.1
theorem lexT_asym {p q : Str × Str} (h : lexT p q = true) : lexT q p = false := by
  unfold lexT at h ⊢
  by_cases e : p.1 = q.1
  · rw [if_pos e] at h
    rw [if_pos e.symm]
    exact ltT_asym h
  · rw [if_neg e] at h
    rw [if_neg (Ne.symm e)]
    exact ltT_asym h
theorem lexT_irr (p : Str × Str) : lexT p p = false := by
  unfold lexT
  rw [if_pos rfl]
  exact ltT_irr _
theorem lexT_tr {p q r : Str × Str} (h : lexT p q = true) (k : lexT q r = true) : lexT p r = true := by
  unfold lexT at h k ⊢
  by_cases e : p.1 = q.1 <;> by_cases e2 : q.1 = r.1
  · rw [if_pos e] at h; rw [if_pos e2] at k; rw [if_pos (e.trans e2)]; exact ltT_tr h k
  · rw [if_neg e2] at k; rw [if_neg (by rw [e]; exact e2), e]; exact k
  · rw [if_neg e] at h; rw [if_neg (by rw [← e2]; exact e), ← e2]; exact h
  · rw [if_neg e] at h; rw [if_neg e2] at k
    have := ltT_tr h k
    rw [if_neg (fun z => by rw [z, ltT_irr] at this; cases this)]
    exact this
theorem lexT_tot {p q : Str × Str} (h : lexT p q = false) (k : lexT q p = false) : p = q := by
  unfold lexT at h k
  by_cases e : p.1 = q.1
  · rw [if_pos e] at h; rw [if_pos e.symm] at k
    exact Prod.ext e (ltT_tot h k)
  · rw [if_neg e] at h; rw [if_neg (Ne.symm e)] at k
    exact absurd (ltT_tot h k) e
theorem swoT : Swo lexT := by
  refine ⟨fun x y h => lexT_asym h, fun x y z h1 h2 => ?_⟩
  cases h : lexT z x with
  | false => rfl
  | true =>
    exfalso
    cases h3 : lexT x y with
    | true =>
      have := lexT_tr h h3
      rw [this] at h2
      cases h2
    | false =>
      have := lexT_tot h3 h1
      subst this
      rw [h] at h2
      cases h2
theorem swo_k {α : Type} (k : α → Str × Str) : Swo fun v u => lexT (k v) (k u) := ⟨fun x y h => swoT.asym _ _ h, fun x y z h1 h2 => swoT.tr _ _ _ h1 h2⟩
def IsPr (h : Heap) (v : Value) (x y : Str) : Prop := ∃ a o t u n, v = .ref a ∧ h.get? a = some o ∧ o.cls = .type "tuple" ∧ o.data = .seq #[.str x t, .str y u] n
theorem IsPr.keeps {h h' : Heap} {v : Value} {x y : Str} (p : IsPr h v x y) (k : ∀ b o, h.get? b = some o → o.cls = .type "tuple" → h'.get? b = some o) : IsPr h' v x y := by
  obtain ⟨a, o, t, u, n, e, ho, hc, hd⟩ := p
  exact ⟨a, o, t, u, n, e, k _ _ ho hc, hc, hd⟩
theorem firsts {h : Heap} : ∀ {vs : List Value}, (∀ v ∈ vs, ∃ x y, IsPr h v x y) → ∃ fs : List Value, PySem.W.KatTups h vs fs ∧ fs.length = vs.length ∧ ∀ f ∈ fs, ∃ x t, f = Value.str x t
  | [], _ => ⟨[], PySem.W.KatTups.nil, rfl, fun _ hm => by simp at hm⟩
  | v :: vs, hp => by
    obtain ⟨fs, h1, h2, h3⟩ := firsts (vs := vs) fun v' hm => hp v' (List.mem_cons_of_mem _ hm)
    obtain ⟨x, y, a, o, t, u, n, e, ho, hc, hd⟩ := hp v (List.mem_cons_self ..)
    subst e
    refine ⟨.str x t :: fs, PySem.W.KatTups.cons ho hc hd rfl h1, by rw [List.length_cons, List.length_cons, h2], fun f hm => ?_⟩
    rcases List.mem_cons.mp hm with rfl | hm
    · exact ⟨x, t, rfl⟩
    · exact h3 f hm
section
variable {prog : Program} {w : World} {A : Around} {E : Value → Shared → Prop} {s : Shared}
theorem pr_cmp {vs : List Value} {k : Value → Str × Str} (hp : ∀ v ∈ vs, IsPr s.heap v (k v).1 (k v).2) : Cmp prog w A s (tuples' true) (fun p => p.1 ∈ vs) (lt2 fun v u => lexT (k v) (k u)) := by
  intro p q hm hm'
  have h1 := hp _ hm
  have h2 := hp _ hm'
  show wpAny (model prog w) A (keyLt' (tuples' true) p.1 q.1) (fun r s' => s' = s ∧ r = lexT (k p.1) (k q.1)) (fun _ _ => False) s
  unfold lexT
  generalize (k p.1).1 = x at h1 ⊢
  generalize (k p.1).2 = y at h1 ⊢
  generalize (k q.1).1 = x' at h2 ⊢
  generalize (k q.1).2 = y' at h2 ⊢
  obtain ⟨a, o, t, u, n, e, ho, hc, hd⟩ := h1
  obtain ⟨a', o', t', u', n', e', ho', hc', hd'⟩ := h2
  rw [e, e']
  refine PySem.W.kat_lt ho hd ho' hd' ?_
  show PySem.W.KatLex prog w A true (decide (2 < 2)) _ [(.str x t, .str x' t'), (.str y u, .str y' u')] 0 s
  refine PySem.W.kat_cons (wpAny_eqBool_str ?_)
  refine PySem.W.kat_go (fun e1 => ?_) (fun e1 => ?_)
  · have ex : x = x' := by simpa using e1
    refine PySem.W.kat_yes (PySem.W.kat_cons (wpAny_eqBool_str ?_))
    refine PySem.W.kat_go (fun e2 => ?_) (fun e2 => ?_)
    · have ey : y = y' := by simpa using e2
      have e3 : (if x = x' then ltT y y' else ltT x x') = false := by
        rw [if_pos ex, ey]
        exact ltT_irr _
      exact PySem.W.kat_yes (PySem.W.kat_nil ⟨rfl, e3.symm⟩)
    · have e3 : (if x = x' then ltT y y' else ltT x x') = ltT y y' := if_pos ex
      refine PySem.W.kat_no (PySem.W.kat_one _ _ (PyProof.Rows.lt_str ?_))
      exact (show s = s ∧ decide (y.cps.toList < y'.cps.toList) = (if x = x' then ltT y y' else ltT x x') from ⟨rfl, e3.symm⟩)
  · have ex : ¬ x = x' := by simpa using e1
    have e3 : (if x = x' then ltT y y' else ltT x x') = ltT x x' := if_neg ex
    exact PySem.W.kat_no (oneLt_str ⟨rfl, e3.symm⟩)
theorem prs_sortable {a : Addr} {vs : List Value} {k : Value → Str × Str} (h0 : 0 < vs.length) (hp : ∀ v ∈ vs, IsPr s.heap v (k v).1 (k v).2) (ha : ∀ o, s.heap.get? a = some o → o.cls ≠ .type "tuple") : SortableO prog w A s a vs fun v u => lexT (k v) (k u) := by
  intro h' keep
  have hp' : ∀ v ∈ vs, IsPr h' v (k v).1 (k v).2 := fun v hm => (hp v hm).keeps fun b o e c => keep b o (fun z => by subst z; exact ha o e c) e
  obtain ⟨fs, h1, h2, h3⟩ := firsts fun v hm => ⟨_, _, hp' v hm⟩
  refine ⟨tuples' true, fun Q E hq => ?_, pr_cmp hp'⟩
  refine PySem.W.kat_kind (T := .type "str") h1 (by omega) (fun f hm => ?_) (by rfl) ?_
  · obtain ⟨x, t, rfl⟩ := h3 f hm
    exact PySem.W.Looks.now
  · have e : (Value.type "str" != Value.type "tuple") = true := by first | decide +kernel | rfl | decide
    rw [e]
    exact hq
theorem sorted_prs {l : Addr} {vs : List Value} {k : Value → Str × Str} {Q : Value → Shared → Prop} (hl : s.heap.IsList l vs.toArray) (hz : vs.length ≤ sizeLine) (hp : ∀ v ∈ vs, IsPr s.heap v (k v).1 (k v).2)
    (h : ∀ (h' : Heap) (d : Addr) (out : List Value), Srtd (fun v u => lexT (k v) (k u)) out → Stb (fun v u => lexT (k v) (k u)) out vs → (∀ b o, s.heap.get? b = some o → h'.get? b = some o) → s.heap.objs.size ≤ d → (∃ n, h'.get? d = some (seqObj "list" out.toArray n)) → Q (.ref d) { s with heap := h' }) :
    wpAny (model prog w) A (call (.builtin "sorted") [.ref l]) Q E s := by
  refine sorted_ord (swo_k k) hl hz (fun h2 h₁ a ha kk => ?_) fun out hs hb => ?_
  · refine prs_sortable (s := { s with heap := h₁ }) (by omega) (fun v hm => (hp v hm).keeps fun b o e _ => (kk b o e).2) fun o e => ?_
    have e' : some o = some (seqObj "list" vs.toArray 0) := e.symm.trans ha
    cases e'
    intro c
    exact absurd (Value.type.inj c) (by decide)
  · exact h _ _ out hs hb (fun b o e => sortedAll_old e) (Nat.le_succ _) (sortedAll_at s.heap vs out.toArray)
end
/-- sorted(xs), xs a list of pairs of texts (k says which): a new list of the same, ascending -/
def rSortedPT (K : PySem.W.Frag) : List V → Hp → VK → Prop := fun vs H Q => ∃ (a : Addr) (xs : List V) (k : V → Str × Str), vs = [V.ref a] ∧ SqL K H a xs ∧ (∀ x ∈ xs, ∃ t, x = V.ref t ∧ H t = some (.tup [.str (k x).1, .str (k x).2])) ∧
  ∀ ys p, ys.Perm xs → Srtd (fun x y => lexT (k x) (k y)) ys → H p = none → Q (.ref p) (upd H p (.lst ys))
variable {X : Cx}
theorem cr_sortedPT : CallR X (.builtin "sorted") (rSortedPT X.K) := by
  intro pins s σ H vs us Q I r h
  obtain ⟨a, xs, k, rfl, hs, hx, q⟩ := h
  obtain ⟨its, rv, hl, hz⟩ := I.list hs
  obtain ⟨u, rfl, ru⟩ := vals1 r
  obtain rfl : u = Value.ref a := ru
  obtain ⟨e1, e2⟩ := refs_back rv fun x m => by
    obtain ⟨t, e, _⟩ := hx x m
    exact ⟨t, e⟩
  refine sorted_prs (k := fun u => k (backV u)) hl.isList (by rw [← rv.length]; exact hz) (fun v hv => ?_) fun h' d out h1 h2 kp hd hn => ?_
  · obtain ⟨t, rfl⟩ := e2 v hv
    have hm : V.ref t ∈ xs := by rw [e1]; exact List.mem_map.mpr ⟨_, hv, rfl⟩
    obtain ⟨t', e, ht⟩ := hx _ hm
    cases e
    obtain ⟨_, its2, r2, o, ho, hc, n, hd⟩ := I.hok _ _ ht
    obtain ⟨u1, u2, rfl, ri, rj⟩ := vals2 r2
    obtain ⟨t1, rfl⟩ := ri
    obtain ⟨t2, rfl⟩ := rj
    exact ⟨t, o, t1, t2, n, rfl, ho, hc, hd⟩
  · have h3 : ∀ u ∈ out, ∃ a, u = Value.ref a := fun u hu => e2 u (h2.perm.mem_iff.mp hu)
    obtain ⟨n, hn⟩ := hn
    have hb : Stb (fun x y => lexT (k x) (k y)) (out.map backV) xs := by
      rw [e1]
      exact Stb.map (swo_k k) backV h2
    refine ⟨.ref d, upd H d (.lst (out.map backV)), I.laid (t' := s.toks) kp hd ⟨?_, out, n, vals_back h3, hn⟩, rfl, q _ d hb.perm (srtd_map h1) (I.hok.fresh hd)⟩
    rw [hb.len]
    exact hz
end Srs

namespace K02
open PySem PySem.Spec PyProof.Rows L2 Tr Sq Dk
/-! ### check_houses, is_pair, path_between, joined_groups (of what is right) -/
abbrev sCheck : Stmt := top 22
def spCheck : Sp := fun vs H Q _ => ∃ (l : Addr) (hs : List Str), vs = [.ref l] ∧ H l = some (.lst (hs.map V.str)) ∧ hs ≠ [] ∧ hs.Nodup ∧ hs.length ≤ 1000 ∧ (∀ h ∈ hs, h ∈ names12) ∧ ∀ H', Evl.Ex H H' → Q .non H'
abbrev sIsPair : Stmt := top 17
def spIsPair : Sp := fun vs H Q _ => ∃ (t : Addr) (x y : V), vs = [.ref t] ∧ H t = some (.tup [x, y]) ∧ ∀ H', Evl.Ex H H' → Q (.bl true) H'
abbrev sBetween : Stmt := top 26
def ordP (q : Str × Str) : Str × Str := if Srs.ltT q.1 q.2 then q else (q.2, q.1)
def spBetween : Sp := fun vs H Q _ => ∃ (a b : Str), vs = [.str a, .str b] ∧ ∀ t, H t = none → Q (.ref t) (upd H t (.tup [.str (ordP (a, b)).1, .str (ordP (a, b)).2]))
abbrev sJoined : Stmt := top 24
def spJoined : Sp := fun vs H Q _ => ∃ (d : Addr) (a b : Str) (hs : List Str) (g : Str → Str), vs = [.ref d, .str a, .str b] ∧ H d = some (.dK (tab hs fun x => .str (g x))) ∧ hs.Nodup ∧ hs.length ≤ 1000 ∧
  ∀ (D : Addr) (H' : Hp), H D = none → Evl.Ex H H' → H' D = some (.dK (tab hs fun x => .str (if g x = b then a else g x))) → Q (.ref D) H'
theorem ex_upd {H H' : Hp} {a : Addr} {o : HO} (e : Evl.Ex H H') (h : H a = none) : Evl.Ex H (upd H' a o) := fun b u q => by rw [upd_ne (ne_of_none q h)]; exact e _ _ q
section
variable {P : Program} {w : World} {K : PySem.W.Frag} {mg : Str → Option Value} {base : Heap}
theorem scCheck : FnScope ["houses", "seen", "index", "house"] ["houses"] (defScope sCheck) := ⟨rfl, rfl, rfl, by decide +kernel, rfl, by decide +kernel, by decide +kernel⟩
theorem ok_check {f fN fL : Addr} {fd fdN fdL : FuncData} (F : FnP K "check_houses" sCheck f fd) (GN : FnOk P w K mg base CX0 1 fN fdN ["thing"] spIsName) (bN : L2.Binds K fdN ["thing"] []) (kN : PySem.W.keepIn K (.ref fN) = true) (gN : mg "is_name" = some (.ref fN))
    (GL : FnOk P w K mg base CX0 1 fL fdL ["thing"] spIsLst) (bL : L2.Binds K fdL ["thing"] []) (kL : PySem.W.keepIn K (.ref fL) = true) (gLs : mg "is_listed" = some (.ref fL)) (gLe : mg "len" = none) (gE : mg "enumerate" = none) : FnOk P w K mg base CX0 2 f fd ["houses"] spCheck := by
  refine F.ok scCheck (fun vs H Q E h => ?_) (fun cdv A outer s H vs Q E hr h => ?_)
  · obtain ⟨l, hs, rfl, _⟩ := h
    rfl
  · obtain ⟨l, hs, rfl, hl, hne, hnd, h1k, hgood, k⟩ := h
    refine ⟨_, PSs.nox (pss_cons (ps_if (PW.pt (pw_or (pt_not (pt_val (pe_call GL hr rfl gLs kL bL .nil pass0 (pa_cons (pv 0) pa_nil)))) (pw_or1 (pt_cmpR op_eq (pe_callB call_len_seq (by rfl) gLe PySem.boot_len (pa_cons (pv 0) pa_nil)) pe_int (nomark _))))) pss_never pss_nil)
      (pss_cons (ps_set (i := 1) scCheck.nd rfl (.inl rfl) pe_dnewK)
      (pss_one (ps_for PassesOwn.never rfl (pi_enumA rfl gE (pa_cons (pv 0) pa_nil)) (pg_tup rfl (pgs_cons (pg_name (i := 2) scCheck.nd rfl (.inl rfl)) (pgs_cons (pg_name (i := 3) scCheck.nd rfl (.inl rfl)) pgs_nil)))
        (pss_cons (ps_if (PW.pt (pw_or (pt_not (pt_val (pe_call GN hr rfl gN kN bN .nil pass0 (pa_cons (pv 3) pa_nil)))) (pw_or1 (pt_cmp (pc_din (hu_of hr) (pv 3) (pv 1)) rfl)))) pss_never pss_nil)
        (pss_one (ps_dput (hu_of hr) (pv 1) (pv 3) pe_bl rfl))))))), ?_⟩
    have hl1 : 1 ≤ hs.length := List.length_pos_iff.mpr hne
    refine ⟨_, rfl, _, "list", rfl, .lst hl, fun H1 x1 => ⟨_, rfl, ?_⟩⟩
    refine ite2 (fun q => absurd q (by decide)) (fun _ => ?_)
    refine ⟨_, rfl, l, _, rfl, .inl (SqL.of (x1 _ _ hl)), rfl, _, rfl, ?_⟩
    refine ite2 (fun q => absurd q ?_) (fun _ => ?_)
    · simp [hne]
    · refine fun d hd => ⟨_, rfl, false, l, hs.map V.str, rfl, ?_, ?_⟩
      · exact SqL.of (x1.trans (Evl.Ex.new hd) _ _ hl)
      · refine for_it (walk_enumA (t := false) (xs := hs.map V.str)) (fun i σ H' => ∃ v2 v3, σ = [some (.ref l), some (.ref d), v2, v3] ∧ Evl.Ex H H' ∧ H' d = some (.dK (tab (hs.take i) fun _ => .bl true))) ?_ ?_ ?_ ?_
        · exact ⟨none, none, rfl, x1.trans (Evl.Ex.new hd), upd_same⟩
        · rintro i σ H' _ ⟨v2, v3, rfl, x2, e2⟩
          exact SqL.of (x2 _ _ hl)
        · rintro i y σ H' _ hi ⟨v2, v3, rfl, x2, e2⟩ ⟨T, u, z, rfl, hT, rfl, hu, hz⟩
          injection hu with hu
          subst hu
          rw [List.length_map] at hi
          obtain ⟨h, hh⟩ := getD_of hi
          have hz : (hs.map V.str)[i]? = some z := hz
          rw [List.getElem?_map, hh] at hz
          injection hz with hz
          subst hz
          have hm : h ∈ hs := List.mem_of_getElem? hh
          have hdT : d ≠ T := ne_of_none e2 hT
          refine ⟨T, _, rfl, SqT.of upd_same, rfl, _, _, rfl, _, _, rfl, rfl, _, rfl, h, rfl, hgood h hm, fun H3 x3 => ⟨_, rfl, ?_⟩⟩
          have e3 : H3 d = some (.dK (tab (hs.take i) fun _ => .bl true)) := x3 _ _ (by rw [upd_ne hdT]; exact e2)
          have hni : h ∉ hs.take i := fun z => by
            obtain ⟨j, hj⟩ := List.mem_iff_getElem?.mp z
            have lt : j < i := by
              have := (List.getElem?_eq_some_iff.mp hj).1
              rw [List.length_take] at this
              omega
            rw [List.getElem?_take_of_lt lt] at hj
            have := (List.getElem?_inj (by omega) hnd).mp (hj.trans hh.symm)
            omega
          refine ite2 (fun q => absurd q (by decide)) (fun _ => ⟨_, rfl, _, rfl, d, _, rfl, DGet.k (k := Sum.inr h) e3, _, rfl, ?_⟩)
          rw [val_out hni]
          refine iteF ?_
          refine ⟨_, rfl, _, rfl, d, _, rfl, DPut.k (k := Sum.inr h) e3 ?_, ?_⟩
          · rw [tab_length, List.length_take]
            exact Nat.lt_of_le_of_lt (show min i hs.length ≤ 1000 by omega) (by decide)
          · refine ⟨_, _, rfl, ?_, ?_⟩
            · exact ex_upd ((x2.trans (Evl.Ex.new hT)).trans x3) (by
                cases q : H d with
                | none => rfl
                | some o =>
                  rw [x1 _ _ q] at hd
                  cases hd)
            · rw [upd_same, put_new hni, List.take_add_one, hh]
              congr 2
              exact tab_congr fun x _ => by split <;> rfl
        · rintro σ H' ⟨v2, v3, rfl, x2, e2⟩
          exact k _ x2
theorem scIsPair : FnScope ["thing"] ["thing"] (defScope sIsPair) := ⟨rfl, rfl, rfl, by decide +kernel, rfl, by decide +kernel, by decide +kernel⟩
theorem ok_isPair {f fL : Addr} {fd fdL : FuncData} (F : FnP K "is_pair" sIsPair f fd) (GL : FnOk P w K mg base CX0 1 fL fdL ["thing"] spIsLst) (bL : L2.Binds K fdL ["thing"] []) (kL : PySem.W.keepIn K (.ref fL) = true) (gLs : mg "is_listed" = some (.ref fL)) (gLe : mg "len" = none) :
    FnOk P w K mg base CX0 2 f fd ["thing"] spIsPair := by
  refine F.ok scIsPair (fun vs H Q E h => ?_) (fun cdv A outer s H vs Q E hr h => ?_)
  · obtain ⟨t, x, y, rfl, _⟩ := h
    rfl
  · obtain ⟨t, x, y, rfl, ht, k⟩ := h
    refine ⟨_, PSs.nox (pss_one (ps_ret (pe_and (pe_call GL hr rfl gLs kL bL .nil pass0 (pa_cons (pv 0) pa_nil)) (pe_one (pe_cmpR op_eq (pe_callB call_len_seq (by rfl) gLe PySem.boot_len (pa_cons (pv 0) pa_nil)) pe_int (nomark _)))))), ?_⟩
    exact ⟨_, rfl, _, "tuple", rfl, .tup ht, fun H1 x1 => ⟨_, rfl, iteT ⟨_, rfl, t, _, rfl, .inr (SqT.of (x1 _ _ ht)), rfl, k _ x1⟩⟩⟩
theorem scBetween : FnScope ["one", "other"] ["one", "other"] (defScope sBetween) := ⟨rfl, rfl, rfl, by decide +kernel, rfl, by decide +kernel, by decide +kernel⟩
theorem ok_between {f : Addr} {fd : FuncData} (F : FnP K "path_between" sBetween f fd) : FnOk P w K mg base CX0 1 f fd ["one", "other"] spBetween := by
  refine F.ok scBetween (fun vs H Q E h => ?_) (fun cdv A outer s H vs Q E hr h => ?_)
  · obtain ⟨a, b, rfl, _⟩ := h
    rfl
  · obtain ⟨a, b, rfl, k⟩ := h
    refine ⟨_, PSs.nox (pss_one (ps_ret (pe_ifExp (pt_cmpR op_lt_str (pv 0) (pv 1) (nomark _)) (pe_tup (pa_cons (pv 0) (pa_cons (pv 1) pa_nil))) (pe_tup (pa_cons (pv 1) (pa_cons (pv 0) pa_nil)))))), ?_⟩
    refine ⟨_, rfl, _, rfl, _, _, rfl, rfl, _, rfl, ?_⟩
    have e : decide (a.cps.toList < b.cps.toList) = Srs.ltT a b := rfl
    rw [e]
    cases hb : Srs.ltT a b with
    | true =>
      refine iteT ⟨_, rfl, _, rfl, by show 2 ≤ sizeLine; decide, fun t ht => ?_⟩
      have := k t ht
      unfold ordP at this
      rw [hb] at this
      exact this
    | false =>
      refine iteF ⟨_, rfl, _, rfl, by show 2 ≤ sizeLine; decide, fun t ht => ?_⟩
      have := k t ht
      unfold ordP at this
      rw [hb] at this
      exact this
theorem scJoined : FnScope ["group", "one", "other", "house"] ["group", "one", "other"] (defScope sJoined) := ⟨rfl, rfl, rfl, by decide +kernel, rfl, by decide +kernel, by decide +kernel⟩
theorem ok_joined {f : Addr} {fd : FuncData} (F : FnP K "joined_groups" sJoined f fd) : FnOk P w K mg base CX0 1 f fd ["group", "one", "other"] spJoined := by
  refine F.ok scJoined (fun vs H Q E h => ?_) (fun cdv A outer s H vs Q E hr h => ?_)
  · obtain ⟨d, a, b, hs, g, rfl, _⟩ := h
    rfl
  · obtain ⟨d, a, b, hs, g, rfl, hd, hnd, h1k, k⟩ := h
    refine' ⟨_, PSs.nox (pss_one (ps_ret (pe_lock ?dc))), ?rd⟩
    case dc =>
      refine pe_dc (own := [("house", 3)]) (g := gName 3) (tt := tYes) (tk := tVar 3) (tv := tIf (tTest (tOp rEq (tDGet (tVar 0) (tVar 3)) (tVar 2))) (tVar 1) (tDGet (tVar 0) (tVar 3))) rfl scJoined.nd (pi_keys (pv 0))
        (blkOk_by (own := [("house", 3)]) (N := ["group", "one", "other", "house"]) (sc := defScope sJoined) (by decide +kernel)) (fun _ _ _ _ _ => pg_name (i := 3) scJoined.nd rfl (.inl rfl)) (fun _ _ _ _ _ => pts_nil) (fun _ _ _ _ _ => pv 3) ?_
      intro _ _ _ _ _
      exact pe_ifExp (pt_cmpR op_eq (pe_dget (hu_of hr) (pv 0) (pv 3) (fun _ _ => rfl)) (pv 2) (nomark _)) (pv 1) (pe_dget (hu_of hr) (pv 0) (pv 3) (fun _ _ => rfl))
    have hK : ∀ {H1 : Hp}, True := fun {_} => trivial
    refine ⟨d, _, hd, ?mu, fun od => ?_⟩
    case mu => trivial
    refine ⟨_, rfl, d, od, rfl, .inl ⟨_, upd_same, fun D hD => ?_⟩⟩
    have hdD : d ≠ D := ne_of_none upd_same hD
    have hDH : H D = none := by rw [upd_ne hdD.symm] at hD; exact hD
    refine dc_it walk_keys (fun i H' => (∀ z o, H z = some o → z ≠ d → H' z = some o) ∧ H' d = some (.frz od (.dK (tab hs fun x => .str (g x)))) ∧ H' D = some (.dK (tab (hs.take i) fun x => .str (if g x = b then a else g x)))) ?_ ?_ ?_ ?_
    · exact ⟨fun z o e hz => by rw [upd_ne (ne_of_none e hDH), upd_ne hz]; exact e, by rw [upd_ne hdD]; exact upd_same, upd_same⟩
    · intro i H1 _ hp
      exact hp.2.1
    · rintro i y H1 H2 hi ⟨e1, e2, e3⟩ ⟨rfl, k', v', hk, rfl⟩
      rw [tab_length] at hi
      obtain ⟨h, hh⟩ := getD_of hi
      have hm : h ∈ hs := List.mem_of_getElem? hh
      unfold tab at hk
      rw [List.getElem?_map, hh] at hk
      cases hk
      have e4 : DGet _ d (kV (Sum.inr h)) (valV (tab hs fun x => .str (g x)) (Sum.inr h)) := .inl ⟨_, _, .inr ⟨_, e2⟩, rfl, rfl⟩
      rw [val_in hm] at e4
      have hni : h ∉ hs.take i := fun z => by
        obtain ⟨j, hj⟩ := List.mem_iff_getElem?.mp z
        have lt : j < i := by
          have := (List.getElem?_eq_some_iff.mp hj).1
          rw [List.length_take] at this
          omega
        rw [List.getElem?_take_of_lt lt] at hj
        have := (List.getElem?_inj (by omega) hnd).mp (hj.trans hh.symm)
        omega
      have fin : ∀ v, v = (if g h = b then a else g h) → ∃ kvs k, kV (Sum.inr h) = kV k ∧ H2 D = some (.dK kvs) ∧ kvs.length < sizeLine ∧ ((∀ z o, H z = some o → z ≠ d → upd H2 D (.dK (putK kvs k (.str v))) z = some o) ∧ upd H2 D (.dK (putK kvs k (.str v))) d = some (.frz od (.dK (tab hs fun x => .str (g x)))) ∧ upd H2 D (.dK (putK kvs k (.str v))) D = some (.dK (tab (hs.take (i + 1)) fun x => .str (if g x = b then a else g x)))) := fun v hv => by
        refine ⟨_, Sum.inr h, rfl, e3, ?_, fun z o e hz => ?_, ?_, ?_⟩
        · rw [tab_length, List.length_take]
          exact Nat.lt_of_le_of_lt (show min i hs.length ≤ 1000 by omega) (by decide)
        · rw [upd_ne (ne_of_none e hDH)]
          exact e1 z o e hz
        · rw [upd_ne hdD]
          exact e2
        · rw [upd_same, put_new hni, List.take_add_one, hh]
          congr 2
          exact tab_congr fun x _ => by split <;> simp_all
      refine ⟨rfl, ?_⟩
      refine ⟨_, rfl, _, rfl, _, rfl, d, _, rfl, e4, _, rfl, ?_⟩
      refine ⟨rfl, _, rfl, ite2 (fun q => ⟨_, rfl, fin a ?_⟩) (fun q => ⟨_, rfl, _, rfl, d, _, rfl, e4, fin (g h) ?_⟩)⟩
      · have : g h = b := by simpa using q
        rw [if_pos this]
      · have : ¬ g h = b := by simpa using q
        rw [if_neg this]
    · rintro H1 ⟨e1, e2, e3⟩
      rw [tab_length, List.take_length] at e3
      refine ⟨e2, k D _ hDH (fun z o e => ?_) ?_⟩
      · by_cases hz : z = d
        · rw [hz, upd_same, ← hd, ← hz]
          exact e
        · rw [upd_ne hz]
          exact e1 z o e hz
      · rw [upd_ne hdD.symm]
        exact e3
end
end K02

namespace K02
open PySem PySem.Spec PyProof.Rows L2 Tr Sq Dk
/-! ### near_houses -/
abbrev sNear : Stmt := top 25
/-- a dict of lists of names: what lies beside each house -/
def NearAt (H : Hp) (d : Addr) (hs : List Str) (ad : Str → Addr) (g : Str → List Str) : Prop := H d = some (.dK (tab hs fun h => .ref (ad h))) ∧ ∀ h ∈ hs, H (ad h) = some (.lst ((g h).map V.str))
def spNear : Sp := fun vs H Q _ => ∃ (l q : Addr) (hs : List Str) (qs : PrL), vs = [.ref l, .ref q] ∧ H l = some (.lst (hs.map V.str)) ∧ H q = some (.lst (refsL qs)) ∧ PrsAt H qs ∧ hs.Nodup ∧ hs.length ≤ 1000 ∧ qs.length ≤ 1000 ∧ (∀ t ∈ qs, t.2.1 ∈ hs ∧ t.2.2 ∈ hs) ∧
  ∀ (d : Addr) (ad : Str → Addr) (H' : Hp), H d = none → (∀ h ∈ hs, H (ad h) = none) → Evl.Ex H H' → NearAt H' d hs ad (nearL (qs.map (·.2))) → Q (.ref d) H'
theorem nearL_le (ps : Prs) (x : Str) : (nearL ps x).length ≤ 2 * ps.length := by
  induction ps with
  | nil => exact Nat.le_refl _
  | cons q r ih =>
    obtain ⟨a, b⟩ := q
    simp only [nearL, List.length_append, List.length_cons]
    have h1 : (if a = x then [b] else ([] : List Str)).length ≤ 1 := by split <;> simp
    have h2 : (if b = x then [a] else ([] : List Str)).length ≤ 1 := by split <;> simp
    omega
section
variable {P : Program} {w : World} {K : PySem.W.Frag} {mg : Str → Option Value} {base : Heap}
theorem scNear : FnScope ["houses", "paths", "near", "one", "other", "house"] ["houses", "paths"] (defScope sNear) := ⟨rfl, rfl, rfl, by decide +kernel, rfl, by decide +kernel, by decide +kernel⟩
theorem ok_near {f : Addr} {fd : FuncData} (F : FnP K "near_houses" sNear f fd) : FnOk P w K mg base CX0 1 f fd ["houses", "paths"] spNear := by
  refine F.ok scNear (fun vs H Q E h => ?_) (fun cdv A outer s H vs Q E hr h => ?_)
  · obtain ⟨l, q, hs, qs, rfl, _⟩ := h
    rfl
  · obtain ⟨l, q, hs, qs, rfl, hl, hq, hP, hnd, h1k, hq1k, hin, k⟩ := h
    refine' ⟨_, PSs.nox (pss_cons ?dc (pss_cons (ps_for PassesOwn.never rfl (pi_list (pv 1)) (pg_tup rfl (pgs_cons (pg_name (i := 3) scNear.nd rfl (.inl rfl)) (pgs_cons (pg_name (i := 4) scNear.nd rfl (.inl rfl)) pgs_nil)))
        (pss_cons (ps_expr (pe_bm PySem.F.plainAttrs_list PySem.F.slot_list_append PySem.F.type_list_append mt_append (pe_dget (hu_of hr) (pv 2) (pv 3) (fun _ _ => rfl)) (pa_cons (pv 4) pa_nil)))
        (pss_one (ps_expr (pe_bm PySem.F.plainAttrs_list PySem.F.slot_list_append PySem.F.type_list_append mt_append (pe_dget (hu_of hr) (pv 2) (pv 4) (fun _ _ => rfl)) (pa_cons (pv 3) pa_nil))))))
      (pss_one (ps_ret (pv 2))))), ?rd⟩
    case dc =>
      exact ps_setDc (i := 2) (own := [("house", 5)]) (g := gName 5) (tt := tYes) (tk := tVar 5) (tv := tLst tNil) rfl scNear.nd rfl rfl (sw_trueD rfl rfl rfl (by decide +kernel)) (pi_list (pv 0))
        (blkOk_by (own := [("house", 5)]) (N := ["houses", "paths", "near", "one", "other", "house"]) (sc := defScope sNear) (by decide +kernel)) (fun _ _ _ _ _ => pg_name (i := 5) scNear.nd rfl (.inl rfl)) (fun _ _ _ _ _ => pts_nil) (fun _ _ _ _ _ => pv 5) (fun _ _ _ _ _ => pe_lst pa_nil)
    refine ⟨_, rfl, l, rfl, ⟨_, SqL.of hl⟩, fun D hD => ?_⟩
    refine dc_it (walk_list (xs := hs.map V.str)) (fun i H' => Evl.Ex H H' ∧ ∃ ad : Str → Addr, H' D = some (.dK (tab (hs.take i) fun h => .ref (ad h))) ∧ (∀ h ∈ hs.take i, H' (ad h) = some (.lst []) ∧ H (ad h) = none) ∧ ∀ h ∈ hs.take i, ∀ h2 ∈ hs.take i, ad h = ad h2 → h = h2) ?_ ?_ ?_ ?_
    · exact ⟨Evl.Ex.new hD, fun _ => 0, upd_same, fun h hh => absurd hh (by simp), fun h hh => absurd hh (by simp)⟩
    · intro i H' _ hp
      exact SqL.of (hp.1 _ _ hl)
    · rintro i y H1 H2 hi ⟨e1, ad, e2, e3, e4⟩ ⟨rfl, hy⟩
      rw [List.length_map] at hi
      obtain ⟨h, hh⟩ := getD_of hi
      rw [List.getElem?_map, hh] at hy
      cases hy
      have hm : h ∈ hs := List.mem_of_getElem? hh
      have hni : h ∉ hs.take i := fun z => by
        obtain ⟨j, hj⟩ := List.mem_iff_getElem?.mp z
        have lt : j < i := by
          have := (List.getElem?_eq_some_iff.mp hj).1
          rw [List.length_take] at this
          omega
        rw [List.getElem?_take_of_lt lt] at hj
        have := (List.getElem?_inj (by omega) hnd).mp (hj.trans hh.symm)
        omega
      refine ⟨rfl, _, rfl, by show 0 ≤ sizeLine; decide, fun p hp => ?_⟩
      have hpD : p ≠ D := fun z => by rw [z, e2] at hp; cases hp
      have hpH : H p = none := by
        cases q0 : H p with
        | none => rfl
        | some o => rw [e1 _ _ q0] at hp; cases hp
      have nead : ∀ x ∈ hs.take i, ad x ≠ p ∧ ad x ≠ D := fun x hx => by
        have := (e3 x hx).1
        exact ⟨ne_of_none this hp, fun z => by rw [z, e2] at this; cases this⟩
      have tk : hs.take (i + 1) = hs.take i ++ [h] := by rw [List.take_add_one, hh]; rfl
      refine ⟨_, Sum.inr h, rfl, by rw [upd_ne hpD.symm]; exact e2, ?_, ex_upd (e1.trans (Evl.Ex.new hp)) hD, fun x => if x = h then p else ad x, ?_, fun x hx => ?_, fun x hx x2 hx2 e => ?_⟩
      · rw [tab_length, List.length_take]
        exact Nat.lt_of_le_of_lt (show min i hs.length ≤ 1000 by omega) (by decide)
      · rw [upd_same, put_new hni, tk]
        congr 2
        exact tab_congr fun x _ => by
          show (if x = h then V.ref p else V.ref (ad x)) = V.ref (if x = h then p else ad x)
          split <;> rfl
      · rw [tk] at hx
        rcases List.mem_append.mp hx with hx | hx
        · have hxh : x ≠ h := fun z => hni (by rw [← z]; exact hx)
          simp only [if_neg hxh]
          rw [upd_ne (nead x hx).2, upd_ne (nead x hx).1]
          exact e3 x hx
        · simp only [List.mem_singleton] at hx
          subst hx
          simp only [if_true]
          rw [upd_ne hpD, upd_same]
          exact ⟨rfl, hpH⟩
      · have e : (if x = h then p else ad x) = (if x2 = h then p else ad x2) := e
        rw [tk] at hx hx2
        have split1 : ∀ z ∈ hs.take i ++ [h], z = h ∨ (z ∈ hs.take i ∧ z ≠ h) := fun z hz => by
          rcases List.mem_append.mp hz with hz | hz
          · exact .inr ⟨hz, fun q => hni (by rw [← q]; exact hz)⟩
          · exact .inl (by simpa using hz)
        rcases split1 x hx with q1 | ⟨m1, q1⟩ <;> rcases split1 x2 hx2 with q2 | ⟨m2, q2⟩
        · rw [q1, q2]
        · rw [if_pos q1, if_neg q2] at e
          exact absurd e.symm (nead x2 m2).1
        · rw [if_neg q1, if_pos q2] at e
          exact absurd e (nead x m1).1
        · rw [if_neg q1, if_neg q2] at e
          exact e4 x m1 x2 m2 e
    · rintro H1 ⟨e1, ad, e2, e3, e4⟩
      rw [List.length_map, List.take_length] at e2 e3 e4
      refine ⟨_, rfl, q, rfl, ⟨_, SqL.of (e1 _ _ hq)⟩, ?_⟩
      have adD : ∀ x ∈ hs, ad x ≠ D := fun x hx z => by have := (e3 x hx).1; rw [z, e2] at this; cases this
      refine for_it (walk_list (xs := refsL qs)) (fun i σ H' => ∃ v3 v4 v5, σ = [some (.ref l), some (.ref q), some (.ref D), v3, v4, v5] ∧ Evl.Ex H H' ∧ H' D = some (.dK (tab hs fun h => .ref (ad h))) ∧ ∀ h ∈ hs, H' (ad h) = some (.lst ((nearL ((qs.map (·.2)).take i) h).map V.str))) ?_ ?_ ?_ ?_
      · exact ⟨_, _, _, rfl, e1, e2, fun h hh => (e3 h hh).1⟩
      · rintro i σ H' _ ⟨v3, v4, v5, rfl, f1, f2, f3⟩
        exact SqL.of (f1 _ _ hq)
      · rintro i y σ H2 H3 hi ⟨v3, v4, v5, rfl, f1, f2, f3⟩ ⟨rfl, hy⟩
        unfold refsL at hi hy
        rw [List.length_map] at hi
        obtain ⟨t, ht⟩ := getD_of hi
        rw [List.getElem?_map, ht] at hy
        cases hy
        have tm := List.mem_of_getElem? ht
        obtain ⟨m1, m2⟩ := hin t tm
        obtain ⟨T, a, b⟩ := t
        have hT : H3 T = some (.tup [.str a, .str b]) := f1 _ _ (hP _ tm)
        have tk : (qs.map (·.2)).take (i + 1) = (qs.map (·.2)).take i ++ [(a, b)] := by rw [List.take_add_one, List.getElem?_map, ht]; rfl
        have len : ∀ h, ((nearL ((qs.map (·.2)).take i) h).map V.str).length < sizeLine := fun h => by
          rw [List.length_map]
          have := nearL_le ((qs.map (·.2)).take i) h
          rw [List.length_take, List.length_map] at this
          exact Nat.lt_of_le_of_lt (show _ ≤ 2000 by omega) (by decide)
        have g1 : DGet H3 D (kV (Sum.inr a)) (some (.ref (ad a))) := by have := DGet.k (k := Sum.inr a) f2; rw [val_in m1] at this; exact this
        refine ⟨T, _, rfl, SqT.of hT, rfl, _, _, rfl, _, _, rfl, rfl, ?_⟩
        refine ⟨_, rfl, _, rfl, D, _, rfl, g1, .inl ⟨rfl, _, SqL.of (f3 a m1)⟩, _, rfl, ad a, _, _, rfl, rfl, f3 a m1, len a, ?_⟩
        have f2' : upd H3 (ad a) (.lst ((nearL ((qs.map (·.2)).take i) a).map V.str ++ [.str b])) D = some (.dK (tab hs fun h => .ref (ad h))) := by rw [upd_ne (adD a m1).symm]; exact f2
        have g2 : DGet (upd H3 (ad a) (.lst ((nearL ((qs.map (·.2)).take i) a).map V.str ++ [.str b]))) D (kV (Sum.inr b)) (some (.ref (ad b))) := by have := DGet.k (k := Sum.inr b) f2'; rw [val_in m2] at this; exact this
        have adH : ∀ x ∈ hs, H (ad x) = none := fun x hx => (e3 x hx).2
        have e5 : Evl.Ex H (upd H3 (ad a) (.lst ((nearL ((qs.map (·.2)).take i) a).map V.str ++ [.str b]))) := ex_upd f1 (adH a m1)
        have c1 : (nearL ((qs.map (·.2)).take i) a).map V.str ++ [.str b] = (nearL ((qs.map (·.2)).take i) a ++ [b]).map V.str := by rw [List.map_append]; rfl
        rw [c1] at f2' g2 e5 ⊢
        generalize hH4 : upd H3 (ad a) (.lst ((nearL ((qs.map (·.2)).take i) a ++ [b]).map V.str)) = H4 at f2' g2 e5 ⊢
        have at4 : ∀ x ∈ hs, H4 (ad x) = some (.lst ((nearL ((qs.map (·.2)).take i) x ++ (if a = x then [b] else [])).map V.str)) := fun x hx => by
          rw [← hH4]
          by_cases ex : a = x
          · subst ex
            rw [upd_same, if_pos rfl]
          · rw [upd_ne (fun z => ex (e4 a m1 x hx z.symm)), if_neg ex, List.append_nil]
            exact f3 x hx
        have lb : ((nearL ((qs.map (·.2)).take i) b ++ (if a = b then [b] else [])).map V.str).length < sizeLine := by
          rw [List.length_map, List.length_append]
          have := nearL_le ((qs.map (·.2)).take i) b
          rw [List.length_take, List.length_map] at this
          have h1 : (if a = b then [b] else ([] : List Str)).length ≤ 1 := by split <;> simp
          exact Nat.lt_of_le_of_lt (show _ ≤ 2001 by omega) (by decide)
        refine ⟨_, rfl, _, rfl, D, _, rfl, g2, .inl ⟨rfl, _, SqL.of (at4 b m2)⟩, _, rfl, ad b, _, _, rfl, rfl, at4 b m2, lb, ?_⟩
        refine ⟨_, _, _, rfl, ex_upd e5 (adH b m2), by rw [upd_ne (adD b m2).symm]; exact f2', fun x hx => ?_⟩
        rw [tk, nearL_snoc]
        by_cases ex : b = x
        · subst ex
          rw [upd_same, if_pos rfl, List.map_append, List.map_append, List.map_append]
          simp
        · rw [upd_ne (fun z => ex (e4 b m2 x hx z.symm)), if_neg ex, List.append_nil]
          exact at4 x hx
      · rintro σ H2 ⟨v3, v4, v5, rfl, f1, f2, f3⟩
        have : (qs.map (·.2)).take (refsL qs).length = qs.map (·.2) := by
          unfold refsL
          rw [List.length_map, List.take_of_length_le (by rw [List.length_map]; exact Nat.le_refl _)]
        rw [this] at f3
        exact ⟨_, rfl, k D ad H2 hD (fun h hh => (e3 h hh).2) f1 ⟨f2, f3⟩⟩
end
end K02

namespace K02
open PySem PySem.Spec PyProof.Rows L2 Tr Sq Dk
/-! ### checked_paths (of paths of a tree) -/
abbrev sPathsC : Stmt := top 23
def prOf (H : Hp) : V → Str × Str
  | .ref a => match H a with
    | some (.tup [.str x, .str y]) => (x, y)
    | _ => (⟨#[]⟩, ⟨#[]⟩)
  | _ => (⟨#[]⟩, ⟨#[]⟩)
theorem prOf_at {H : Hp} {a : Addr} {x y : Str} (h : H a = some (.tup [.str x, .str y])) : prOf H (.ref a) = (x, y) := by
  unfold prOf
  simp only [h]
theorem prOf_refs {H : Hp} {qs : PrL} (h : PrsAt H qs) : (refsL qs).map (prOf H) = qs.map (·.2) := by
  unfold refsL
  rw [List.map_map]
  exact List.map_congr_left fun t ht => prOf_at (h t ht)
def spPathsC : Sp := fun vs H Q _ => ∃ (l q : Addr) (hs hs0 : List Str) (qs : PrL), vs = [.ref l, .ref q] ∧ H l = some (.lst (hs.map V.str)) ∧ H q = some (.lst (refsL qs)) ∧ PrsAt H qs ∧ Tree hs (qs.map (·.2)) ∧ hs ≠ [] ∧ hs.length ≤ 1000 ∧ qs.length ≤ 1000 ∧ hs0 = hs ∧
  ∀ (r : Addr) (zs : PrL) (H' : Hp), H r = none → Evl.Ex H H' → H' r = some (.lst (refsL zs)) → PrsAt H' zs → (zs.map (·.2)).Perm ((qs.map (·.2)).map ordP) → (zs.map (·.2)).Pairwise (fun x y => Srs.lexT y x = false) → (∀ t ∈ zs, H t.1 = none) → Q (.ref r) H'
section
variable {P : Program} {w : World} {K : PySem.W.Frag} {mg : Str → Option Value} {base : Heap}
theorem scPathsC : FnScope ["houses", "paths", "group", "told", "index", "pair", "house"] ["houses", "paths"] (defScope sPathsC) := ⟨rfl, rfl, rfl, by decide +kernel, rfl, by decide +kernel, by decide +kernel⟩
theorem ok_pathsC {f fL fP fJ fB : Addr} {fd fdL fdP fdJ fdB : FuncData} (F : FnP K "checked_paths" sPathsC f fd)
    (GL : FnOk P w K mg base CX0 1 fL fdL ["thing"] spIsLst) (bL : L2.Binds K fdL ["thing"] []) (kL : PySem.W.keepIn K (.ref fL) = true) (gLs : mg "is_listed" = some (.ref fL))
    (GP : FnOk P w K mg base CX0 2 fP fdP ["thing"] spIsPair) (bP : L2.Binds K fdP ["thing"] []) (kP : PySem.W.keepIn K (.ref fP) = true) (gP : mg "is_pair" = some (.ref fP))
    (GJ : FnOk P w K mg base CX0 1 fJ fdJ ["group", "one", "other"] spJoined) (bJ : L2.Binds K fdJ ["group", "one", "other"] []) (kJ : PySem.W.keepIn K (.ref fJ) = true) (gJ : mg "joined_groups" = some (.ref fJ))
    (GB : FnOk P w K mg base CX0 1 fB fdB ["one", "other"] spBetween) (bB : L2.Binds K fdB ["one", "other"] []) (kB : PySem.W.keepIn K (.ref fB) = true) (gB : mg "path_between" = some (.ref fB))
    (gI : mg "isinstance" = none) (gT : mg "str" = none) (gE : mg "enumerate" = none) (gA : mg "all" = none) (gS : mg "sorted" = none) : FnOk P w K mg base CX0 3 f fd ["houses", "paths"] spPathsC := by
  refine F.ok scPathsC (fun vs H Q E h => ?_) (fun cdv A outer s H vs Q E hr h => ?_)
  · obtain ⟨l, q, hs, _, qs, rfl, _⟩ := h
    rfl
  · obtain ⟨l, q, hs, _, qs, rfl, hl, hq, hP, T, hne, h1k, hq1k, _, k⟩ := h
    refine' ⟨_, PSs.nox (pss_cons (ps_if (pt_not (pt_val (pe_call GL (hr.mono (by decide)) rfl gLs kL bL .nil pass0 (pa_cons (pv 1) pa_nil)))) pss_never pss_nil)
      (pss_cons (ps_set (i := 2) scPathsC.nd rfl (.inr rfl) ?dc)
      (pss_cons (ps_set (i := 3) scPathsC.nd rfl (.inl rfl) (pe_lst pa_nil))
      (pss_cons (ps_for PassesOwn.never rfl (pi_enumA rfl gE (pa_cons (pv 1) pa_nil)) (pg_tup rfl (pgs_cons (pg_name (i := 4) scPathsC.nd rfl (.inl rfl)) (pgs_cons (pg_name (i := 5) scPathsC.nd rfl (.inl rfl)) pgs_nil)))
        (pss_cons (ps_if (PW.pt (pw_or (pt_not (pt_val (pe_call GP hr rfl gP kP bP .nil pass0 (pa_cons (pv 5) pa_nil)))) (pw_or1 (pt_not (pt_val (pe_callB (cr_all rfl) (by rfl) gA (by decide +kernel) (pa_cons ?lc pa_nil))))))) pss_never pss_nil)
        (pss_cons (ps_if (pt_cmpR op_eq (pe_dget (hu_of hr) (pv 2) (pe_ix ix_tup (pv 5) pe_int (fun _ _ => rfl)) (fun _ _ => rfl)) (pe_dget (hu_of hr) (pv 2) (pe_ix ix_tup (pv 5) pe_int (fun _ _ => rfl)) (fun _ _ => rfl)) (nomark _)) pss_never pss_nil)
        (pss_cons (ps_set (i := 2) scPathsC.nd rfl (.inr rfl) (pe_call GJ (hr.mono (by decide)) rfl gJ kJ bJ .nil pass0 (pa_cons (pv 2) (pa_cons (pe_dget (hu_of hr) (pv 2) (pe_ix ix_tup (pv 5) pe_int (fun _ _ => rfl)) (fun _ _ => rfl)) (pa_cons (pe_dget (hu_of hr) (pv 2) (pe_ix ix_tup (pv 5) pe_int (fun _ _ => rfl)) (fun _ _ => rfl)) pa_nil)))))
        (pss_one (ps_expr (pe_bm PySem.F.plainAttrs_list PySem.F.slot_list_append PySem.F.type_list_append mt_append (pv 3) (pa_cons (pe_call GB (hr.mono (by decide)) rfl gB kB bB .nil pass0 (pa_cons (pe_ix ix_tup (pv 5) pe_int (fun _ _ => rfl)) (pa_cons (pe_ix ix_tup (pv 5) pe_int (fun _ _ => rfl)) pa_nil))) pa_nil))))))))
      (pss_cons (ps_for PassesOwn.never rfl (pi_list (pv 0)) (pg_name (i := 6) scPathsC.nd rfl (.inl rfl))
        (pss_one (ps_if (pt_cmpR op_ne (pe_dget (hu_of hr) (pv 2) (pv 6) (fun _ _ => rfl)) (pe_dget (hu_of hr) (pv 2) (pe_ix ix_list (pv 0) pe_int (fun _ _ => rfl)) (fun _ _ => rfl)) (nomark _)) pss_never pss_nil)))
      (pss_one (ps_ret (pe_callB Srs.cr_sortedPT (by rfl) gS (by decide +kernel) (pa_cons (pv 3) pa_nil))))))))), ?rd⟩
    case dc =>
      exact pe_dc (own := [("house", 6)]) (g := gName 6) (tt := tYes) (tk := tVar 6) (tv := tVar 6) rfl scPathsC.nd (pi_list (pv 0))
        (blkOk_by (own := [("house", 6)]) (N := ["houses", "paths", "group", "told", "index", "pair", "house"]) (sc := defScope sPathsC) (by decide +kernel)) (fun _ _ _ _ _ => pg_name (i := 6) scPathsC.nd rfl (.inl rfl)) (fun _ _ _ _ _ => pts_nil) (fun _ _ _ _ _ => pv 6) (fun _ _ _ _ _ => pv 6)
    case lc =>
      refine pe_lc (own := [("house", 6)]) (g := gName 6) (tt := tYes) (te := tAndV (tCB (rIsi K) (tCons (tVar 6) (tCons (tC (.ty "str")) tNil))) (tDIn (tVar 6) (tVar 2))) rfl scPathsC.nd (pi_tup (pv 5))
        (blkOk_by (own := [("house", 6)]) (N := ["houses", "paths", "group", "told", "index", "pair", "house"]) (sc := defScope sPathsC) (by decide +kernel)) (fun _ _ _ _ _ => pg_name (i := 6) scPathsC.nd rfl (.inl rfl)) (fun _ _ _ _ _ => pts_nil) ?_
      intro _ _ _ _ _
      exact pe_and (pe_callB call_isi (by rfl) gI (by decide +kernel) (pa_cons (pv 6) (pa_cons (pe_bltn (v := .ty "str") rfl gT (by decide +kernel) rfl) pa_nil))) (pe_one (pe_cmp (pc_din (hu_of hr) (pv 6) (pv 2)) rfl))
    obtain ⟨I, I0, I1, I2⟩ := T.groups
    have hnd := T.nd
    refine ⟨_, rfl, _, "list", rfl, .lst hq, fun H1 x1 => ⟨_, rfl, ?_⟩⟩
    refine ite2 (fun q => absurd q (by decide)) (fun _ => ?_)
    refine ⟨_, rfl, l, rfl, ⟨_, SqL.of (x1 _ _ hl)⟩, fun D hD => ?_⟩
    refine dc_it (walk_list (xs := hs.map V.str)) (fun i H' => Evl.Ex H H' ∧ H' D = some (.dK (tab (hs.take i) fun x => .str x))) ?_ ?_ ?_ ?_
    · exact ⟨x1.trans (Evl.Ex.new hD), upd_same⟩
    · intro i H' _ hp
      exact SqL.of (hp.1 _ _ hl)
    · rintro i y H2 H3 hi ⟨e1, e2⟩ ⟨rfl, hy⟩
      rw [List.length_map] at hi
      obtain ⟨h, hh⟩ := getD_of hi
      rw [List.getElem?_map, hh] at hy
      cases hy
      have hni : h ∉ hs.take i := fun z => by
        obtain ⟨j, hj⟩ := List.mem_iff_getElem?.mp z
        have lt : j < i := by
          have := (List.getElem?_eq_some_iff.mp hj).1
          rw [List.length_take] at this
          omega
        rw [List.getElem?_take_of_lt lt] at hj
        have := (List.getElem?_inj (by omega) hnd).mp (hj.trans hh.symm)
        omega
      refine ⟨rfl, _, rfl, _, rfl, _, Sum.inr h, rfl, e2, ?_, ex_upd e1 ?_, ?_⟩
      · rw [tab_length, List.length_take]
        exact Nat.lt_of_le_of_lt (show min i hs.length ≤ 1000 by omega) (by decide)
      · cases q0 : H D with
        | none => rfl
        | some o => rw [x1 _ _ q0] at hD; cases hD
      · rw [upd_same, put_new hni, List.take_add_one, hh]
        congr 2
        exact tab_congr fun x _ => by split <;> simp_all
    · rintro H2 ⟨x2, e2⟩
      rw [List.length_map, List.take_length] at e2
      refine ⟨by show 0 ≤ sizeLine; decide, fun fo hfo => ?_⟩
      have hfoH : H fo = none := by
        cases q0 : H fo with
        | none => rfl
        | some o => rw [x2 _ _ q0] at hfo; cases hfo
      have hDf : D ≠ fo := ne_of_none e2 hfo
      refine ⟨_, rfl, false, q, refsL qs, rfl, SqL.of (by rw [upd_ne (ne_of_none (x2 _ _ hq) hfo)]; exact x2 _ _ hq), ?_⟩
      refine for_it (walk_enumA (t := false) (xs := refsL qs)) (fun i σ H' => ∃ G g v4 v5 v6 zs, σ = [some (.ref l), some (.ref q), some (.ref G), some (.ref fo), v4, v5, v6] ∧ Evl.Ex H H' ∧ H' G = some (.dK (tab hs fun x => .str (g x))) ∧ I ((qs.map (·.2)).take i) g ∧
        H' fo = some (.lst (refsL zs)) ∧ PrsAt H' zs ∧ zs.map (·.2) = ((qs.map (·.2)).take i).map ordP ∧ ∀ t ∈ zs, H t.1 = none) ?_ ?_ ?_ ?_
      · exact ⟨D, id, none, none, none, [], rfl, x2.trans (Evl.Ex.new hfo), by rw [upd_ne hDf]; exact e2, I0 _ (fun x _ y _ e => e), upd_same, fun t ht => absurd ht (by simp), rfl, fun t ht => absurd ht (by simp)⟩
      · rintro i σ H' _ ⟨G, g, v4, v5, v6, zs, rfl, f1, _⟩
        exact SqL.of (f1 _ _ hq)
      · rintro i y σ H3 H4 hi ⟨G, g, v4, v5, v6, zs, rfl, f1, f2, f3, f4, f5, f6, f7⟩ ⟨TT, u, z, rfl, hTT, rfl, hu, hz⟩
        injection hu with hu
        subst hu
        have hz : (refsL qs)[i]? = some z := hz
        unfold refsL at hi hz
        rw [List.length_map] at hi
        obtain ⟨t, ht⟩ := getD_of hi
        rw [List.getElem?_map, ht] at hz
        cases hz
        have tm := List.mem_of_getElem? ht
        obtain ⟨Ta, a, b⟩ := t
        have hab : (a, b) ∈ qs.map (·.2) := List.mem_map.mpr ⟨_, tm, rfl⟩
        obtain ⟨m1, m2⟩ := T.mem (.inl hab)
        have tk : (qs.map (·.2)).take (i + 1) = (qs.map (·.2)).take i ++ [(a, b)] := by rw [List.take_add_one, List.getElem?_map, ht]; rfl
        have hnt : (a, b) ∉ (qs.map (·.2)).take i := fun z => by
          obtain ⟨j, hj⟩ := List.mem_iff_getElem?.mp z
          have lt : j < i := by
            have := (List.getElem?_eq_some_iff.mp hj).1
            rw [List.length_take] at this
            omega
          rw [List.getElem?_take_of_lt lt] at hj
          have e9 : (qs.map (·.2))[i]? = some (a, b) := by rw [List.getElem?_map, ht]; rfl
          have := (List.getElem?_inj (by rw [List.length_map]; omega) T.np).mp (hj.trans e9.symm)
          omega
        obtain ⟨gne, gnext⟩ := I1 _ g a b f3 hab (fun q hq => List.mem_of_mem_take hq) hnt
        refine ⟨TT, _, rfl, SqT.of upd_same, rfl, _, _, rfl, _, _, rfl, rfl, ?_⟩
        have x4 : Evl.Ex H (upd H3 TT (.tup [.int (i : Nat), .ref Ta])) := f1.trans (Evl.Ex.new hTT)
        have y4 : Evl.Ex H3 (upd H3 TT (.tup [.int (i : Nat), .ref Ta])) := Evl.Ex.new hTT
        generalize upd H3 TT (.tup [.int (i : Nat), .ref Ta]) = H4 at x4 y4 ⊢
        have hTa : ∀ {H'}, Evl.Ex H H' → H' Ta = some (.tup [.str a, .str b]) := fun e => e _ _ (hP _ tm)
        refine ⟨_, rfl, Ta, .str a, .str b, rfl, hTa x4, fun H5 x5 => ⟨_, rfl, ?_⟩⟩
        refine ite2 (fun q => absurd q (by decide)) (fun _ => ?_)
        have hTa5 : H5 Ta = some (.tup [.str a, .str b]) := x5 _ _ (hTa x4)
        refine ⟨_, rfl, Ta, rfl, ⟨_, SqT.of hTa5⟩, fun LL hLL => ?_⟩
        have hG5 : H5 G = some (.dK (tab hs fun x => .str (g x))) := x5 _ _ (y4 _ _ f2)
        have hGL : G ≠ LL := ne_of_none hG5 hLL
        refine lc_it (walk_tup (xs := [.str a, .str b])) (fun j H' => Evl.Ex H5 H' ∧ H' LL = some (.lst ((List.replicate j true).map V.bl))) ⟨Evl.Ex.new hLL, upd_same⟩ (fun j H' _ hp => SqT.of (hp.1 _ _ hTa5)) (fun j x H6 H7 hj hp hy => ?_) (fun H6 hp => ?_)
        · obtain ⟨g1, g2⟩ := hp
          obtain ⟨rfl, hx⟩ := hy
          obtain ⟨h, rfl, hm⟩ : ∃ h, x = .str h ∧ h ∈ hs := by
            have hj : j < 2 := hj
            have : j = 0 ∨ j = 1 := by omega
            rcases this with rfl | rfl
            · exact ⟨a, (Option.some.inj hx).symm, m1⟩
            · exact ⟨b, (Option.some.inj hx).symm, m2⟩
          have hG6 : DGet H7 G (kV (Sum.inr h)) (some (.str (g h))) := by have := DGet.k (k := Sum.inr h) (g1 _ _ hG5); rw [val_in hm] at this; exact this
          refine ⟨rfl, _, rfl, _, _, _, _, _, rfl, .ty _, (Pl.str h : Pl H7 (.str h) "str").ty, (Pl.str h : Pl H7 (.str h) "str").one "str", _, rfl, iteT ⟨_, rfl, _, rfl, G, _, rfl, hG6, _, g2, ?_, ex_upd g1 hLL, ?_⟩⟩
          · rw [List.length_map, List.length_replicate]
            exact Nat.lt_of_lt_of_le (show j < 2 from hj) (by decide)
          · rw [upd_same, List.replicate_succ', List.map_append]
            rfl
        · obtain ⟨g1, g2⟩ := hp
          refine ⟨LL, List.replicate 2 true, rfl, SqL.of g2, _, rfl, ?_⟩
          refine iteF ?_
          have x6 : Evl.Ex H H6 := (x4.trans x5).trans g1
          have hG6 : H6 G = some (.dK (tab hs fun x => .str (g x))) := g1 _ _ hG5
          have ga : DGet H6 G (kV (Sum.inr a)) (some (.str (g a))) := by have := DGet.k (k := Sum.inr a) hG6; rw [val_in m1] at this; exact this
          have gb : DGet H6 G (kV (Sum.inr b)) (some (.str (g b))) := by have := DGet.k (k := Sum.inr b) hG6; rw [val_in m2] at this; exact this
          have t6 := hTa x6
          have at0 : ∀ {H'}, H' Ta = some (.tup [.str a, .str b]) → SqT K H' Ta [.str a, .str b] := fun e => SqT.of e
          refine ⟨_, rfl, _, rfl, Ta, _, _, _, rfl, rfl, at0 t6, atI_nat (j := 0) rfl, G, _, rfl, ga, _, rfl, _, rfl, Ta, _, _, _, rfl, rfl, at0 t6, atI_nat (j := 1) rfl, G, _, rfl, gb, rfl, _, rfl, ?_⟩
          refine ite2 (fun q => absurd (of_decide_eq_true q) (fun z => gne (V.str.inj z))) (fun _ => ?_)
          refine ⟨_, rfl, _, rfl, _, rfl, Ta, _, _, _, rfl, rfl, at0 t6, atI_nat (j := 0) rfl, G, _, rfl, ga, _, rfl, _, rfl, Ta, _, _, _, rfl, rfl, at0 t6, atI_nat (j := 1) rfl, G, _, rfl, gb, ?_⟩
          refine ⟨G, g a, g b, hs, g, rfl, hG6, hnd, h1k, fun G' H7 hG' x7 hG7 => ?_⟩
          have x6' : Evl.Ex H4 H6 := x5.trans g1
          have x47 : Evl.Ex H3 H7 := y4.trans (x6'.trans x7)
          have hf7 : H7 fo = some (.lst (refsL zs)) := x47 _ _ f4
          have t7 : H7 Ta = some (.tup [.str a, .str b]) := hTa (x6.trans x7)
          have hzl : zs.length = i := by
            have := congrArg List.length f6
            rw [List.length_map, List.length_map, List.length_take, List.length_map] at this
            omega
          refine ⟨_, rfl, .inl ⟨rfl, _, SqL.of hf7⟩, _, rfl, Ta, _, _, _, rfl, rfl, at0 t7, atI_nat (j := 0) rfl, _, rfl, Ta, _, _, _, rfl, rfl, at0 t7, atI_nat (j := 1) rfl, a, b, rfl, fun U hU => ?_⟩
          have hfU : fo ≠ U := ne_of_none hf7 hU
          have hUH : H U = none := by
            cases q0 : H U with
            | none => rfl
            | some o => rw [x7 _ _ (x6 _ _ q0)] at hU; cases hU
          refine ⟨fo, _, _, rfl, rfl, by rw [upd_ne hfU]; exact hf7, ?_, ?_⟩
          · unfold refsL
            rw [List.length_map, hzl]
            exact Nat.lt_of_le_of_lt (show i ≤ 1000 by omega) (by decide)
          · refine ⟨G', fun x => if g x = g b then g a else g x, some (.int (i : Nat)), some (.ref Ta), _, zs ++ [(U, ordP (a, b))], rfl, ?_⟩
            refine ⟨ex_upd ((x6.trans x7).trans (Evl.Ex.new hU)) hfoH, ?_, ?_, ?_, fun t ht => ?_, ?_, fun t ht => ?_⟩
            · have hGf : G' ≠ fo := fun z => by rw [z, x6' _ _ (y4 _ _ f4)] at hG'; cases hG'
              rw [upd_ne hGf, upd_ne (ne_of_none hG7 hU)]
              exact hG7
            · rw [tk]
              exact gnext _ fun x hx => rfl
            · unfold refsL
              rw [upd_same, List.map_append]
              rfl
            · rcases List.mem_append.mp ht with ht | ht
              · have := x47 _ _ (f5 t ht)
                rw [upd_ne (fun z => by rw [z, hf7] at this; cases this), upd_ne (ne_of_none this hU)]
                exact this
              · simp only [List.mem_singleton] at ht
                subst ht
                rw [upd_ne hfU.symm]
                exact upd_same
            · rw [List.map_append, f6, tk, List.map_append]
              rfl
            · rcases List.mem_append.mp ht with ht | ht
              · exact f7 t ht
              · simp only [List.mem_singleton] at ht
                subst ht
                exact hUH
      · rintro σ H3 ⟨G, g, v4, v5, v6, zs, rfl, f1, f2, f3, f4, f5, f6, f7⟩
        have lenR : (refsL qs).length = (qs.map (·.2)).length := by unfold refsL; rw [List.length_map, List.length_map]
        rw [lenR, List.take_length] at f3 f6
        have same := I2 _ g f3 (fun _ h => h)
        obtain ⟨h0, hh0⟩ : ∃ h0, hs[0]? = some h0 := getD_of (List.length_pos_iff.mpr hne)
        have m0 : h0 ∈ hs := List.mem_of_getElem? hh0
        refine ⟨_, rfl, l, rfl, ⟨_, SqL.of (f1 _ _ hl)⟩, ?_⟩
        refine for_it (walk_list (xs := hs.map V.str)) (fun i σ H' => H' = H3 ∧ ∃ v6, σ = [some (.ref l), some (.ref q), some (.ref G), some (.ref fo), v4, v5, v6]) ⟨rfl, _, rfl⟩ ?_ ?_ ?_
        · rintro i σ H' _ ⟨rfl, _⟩
          exact SqL.of (f1 _ _ hl)
        · rintro i y σ H4 H5 hi ⟨rfl, w6, rfl⟩ ⟨rfl, hy⟩
          rw [List.length_map] at hi
          obtain ⟨h, hh⟩ := getD_of hi
          rw [List.getElem?_map, hh] at hy
          cases hy
          have hm := List.mem_of_getElem? hh
          have ga : DGet H5 G (kV (Sum.inr h)) (some (.str (g h))) := by have := DGet.k (k := Sum.inr h) f2; rw [val_in hm] at this; exact this
          have gb : DGet H5 G (kV (Sum.inr h0)) (some (.str (g h0))) := by have := DGet.k (k := Sum.inr h0) f2; rw [val_in m0] at this; exact this
          have e0 : (hs.map V.str)[0]? = some (.str h0) := by rw [List.getElem?_map, hh0]; rfl
          refine ⟨_, rfl, _, rfl, G, _, rfl, ga, _, rfl, _, rfl, l, _, _, _, rfl, rfl, SqL.of (f1 _ _ hl), atI_nat (j := 0) e0, G, _, rfl, gb, rfl, _, rfl, ?_⟩
          rw [same h hm h0 m0]
          refine ite2 (fun q => absurd q (by simp)) (fun _ => ⟨rfl, _, rfl⟩)
        · rintro σ H4 ⟨rfl, w6, rfl⟩
          refine ⟨_, rfl, fo, refsL zs, prOf H4, rfl, SqL.of f4, fun x hx => ?_, fun ys p hys hsr hp => ?_⟩
          · obtain ⟨t, ht, rfl⟩ := List.mem_map.mp hx
            exact ⟨t.1, rfl, by rw [prOf_at (f5 t ht)]; exact f5 t ht⟩
          · obtain ⟨ws, hws, rfl⟩ := snd_refs hys
            have hpH : H p = none := by
              cases q0 : H p with
              | none => rfl
              | some o => rw [f1 _ _ q0] at hp; cases hp
            have f5' : PrsAt H4 ws := fun t ht => f5 t (hws.mem_iff.mp ht)
            refine k p ws _ hpH (f1.trans (Evl.Ex.new hp)) upd_same (f5'.ex (Evl.Ex.new hp)) ?_ ?_ (fun t ht => f7 t (hws.mem_iff.mp ht))
            · rw [← f6]
              exact hws.map _
            · rw [← prOf_refs f5']
              exact List.pairwise_map.mpr hsr
end
end K02

namespace K02
open PySem PySem.Spec PyProof.Rows L2 Tr Sq Dk
/-! ### the class Village: made of a tree; houses(), near() -/
abbrev FnM (K : PySem.W.Frag) (x q : Str) (st : Stmt) (f : Addr) (fd : FuncData) : Prop := FunD K x q (defArgs st) (defBody st) (defScope st) [] [] f fd
def meth (i : Nat) : Stmt := (C8.clsBody (top 21)).getD i (.Pass ⟨0, 0, 0, 0⟩)
abbrev sInit : Stmt := meth 0
abbrev sHouses : Stmt := meth 1
abbrev sNearM : Stmt := meth 3
/-- a village: its houses in order, its paths in order, what lies beside each -/
structure VilD where
  dx : Addr
  a : Addr
  b : Addr
  d : Addr
  zs : PrL
  ad : Str → Addr
structure Vil (H : Hp) (C v : Addr) (hs : List Str) (ps : Prs) (m : VilD) : Prop where
  at_ : H v = some (.ins C m.dx [("_houses", .ref m.a), ("_paths", .ref m.b), ("_near", .ref m.d)])
  la : H m.a = some (.lst (hs.map V.str))
  lb : H m.b = some (.lst (refsL m.zs))
  pr : PrsAt H m.zs
  eq : m.zs.map (·.2) = ps
  nr : NearAt H m.d hs m.ad (nearL ps)
theorem NearAt.ex {H H' : Hp} {d : Addr} {hs : List Str} {ad : Str → Addr} {g : Str → List Str} (h : NearAt H d hs ad g) (e : Evl.Ex H H') : NearAt H' d hs ad g := ⟨e _ _ h.1, fun x hx => e _ _ (h.2 x hx)⟩
theorem Vil.ex {H H' : Hp} {C v : Addr} {hs : List Str} {ps : Prs} {m : VilD} (h : Vil H C v hs ps m) (e : Evl.Ex H H') : Vil H' C v hs ps m :=
  ⟨e _ _ h.at_, e _ _ h.la, e _ _ h.lb, h.pr.ex e, h.eq, h.nr.ex e⟩
/-- all that a village holds is new -/
structure FreshV (H : Hp) (hs : List Str) (m : VilD) : Prop where
  a : H m.a = none
  b : H m.b = none
  d : H m.d = none
  z : ∀ t ∈ m.zs, H t.1 = none
  ad : ∀ h ∈ hs, H (m.ad h) = none
def spInit (K : PySem.W.Frag) : Sp := fun vs H Q _ => ∃ (v l q C dx : Addr) (hs : List Str) (qs : PrL), vs = [.ref v, .ref l, .ref q] ∧ H v = some (.ins C dx []) ∧ Cls K C ∧ NoAttr K C "_houses" ∧ NoAttr K C "_paths" ∧ NoAttr K C "_near" ∧ H l = some (.lst (hs.map V.str)) ∧ H q = some (.lst (refsL qs)) ∧ PrsAt H qs ∧ Tree hs (qs.map (·.2)) ∧
  hs ≠ [] ∧ hs.length ≤ 12 ∧ qs.length ≤ 12 ∧ (∀ h ∈ hs, h ∈ names12) ∧
  ∀ (H' : Hp) (hs' : List Str) (ps' : Prs) (m : VilD), (∀ b o, b ≠ v → H b = some o → H' b = some o) → Vil H' C v hs' ps' m → hs'.Perm hs → sortedS hs' = true → ps'.Perm ((qs.map (·.2)).map ordP) → ps'.Pairwise (fun x y => Srs.lexT y x = false) → Tree hs' ps' → FreshV H hs' m → Q .non H'
theorem none_of {H H' : Hp} {b : Addr} (h : ∀ o, H b = some o → H' b = some o) (e : H' b = none) : H b = none := by
  cases z : H b with
  | none => rfl
  | some o => rw [h o z] at e; cases e
theorem put2 {x y : V} : putF "_paths" y [(("_houses" : Str), x)] = [(("_houses" : Str), x), (("_paths" : Str), y)] := rfl
theorem put3 {x y z : V} : putF "_near" z [(("_houses" : Str), x), (("_paths" : Str), y)] = [(("_houses" : Str), x), (("_paths" : Str), y), (("_near" : Str), z)] := rfl
theorem ordP_or (q : Str × Str) : ordP q = q ∨ ordP q = (q.2, q.1) := by
  unfold ordP
  split
  · exact .inl rfl
  · exact .inr rfl
section
variable {P : Program} {w : World} {K : PySem.W.Frag} {mg : Str → Option Value} {base : Heap}
theorem scInit : FnScope ["self", "houses", "paths"] ["self", "houses", "paths"] (defScope sInit) := ⟨rfl, rfl, rfl, by decide +kernel, rfl, by decide +kernel, by decide +kernel⟩
theorem ok_init {f fC fP fN : Addr} {fd fdC fdP fdN : FuncData} (F : FnM K "__init__" "Village.__init__" sInit f fd)
    (GC : FnOk P w K mg base CX0 2 fC fdC ["houses"] spCheck) (bC : L2.Binds K fdC ["houses"] []) (kC : PySem.W.keepIn K (.ref fC) = true) (gC : mg "check_houses" = some (.ref fC))
    (GP : FnOk P w K mg base CX0 3 fP fdP ["houses", "paths"] spPathsC) (bP : L2.Binds K fdP ["houses", "paths"] []) (kP : PySem.W.keepIn K (.ref fP) = true) (gP : mg "checked_paths" = some (.ref fP))
    (GN : FnOk P w K mg base CX0 1 fN fdN ["houses", "paths"] spNear) (bN : L2.Binds K fdN ["houses", "paths"] []) (kN : PySem.W.keepIn K (.ref fN) = true) (gN : mg "near_houses" = some (.ref fN))
    (gS : mg "sorted" = none) : FnOk P w K mg base CX0 4 f fd ["self", "houses", "paths"] (spInit K) := by
  refine F.ok scInit (fun vs H Q E h => ?_) (fun cdv A outer s H vs Q E hr h => ?_)
  · obtain ⟨v, l, q, C, dx, hs, qs, rfl, _⟩ := h
    rfl
  · obtain ⟨v, l, q, C, dx, hs, qs, rfl, hv, cl, n1, n2, n3, hl, hq, hP, T, hne, h12, q12, hgood, k⟩ := h
    refine ⟨_, PSs.nox (pss_cons (ps_expr (pe_call GC (hr.mono (by decide)) rfl gC kC bC .nil pass0 (pa_cons (pv 1) pa_nil)))
      (pss_cons (ps_fld (pv 0) (pe_callB cr_sortedS (by rfl) gS (by decide +kernel) (pa_cons (pv 1) pa_nil)) rfl)
      (pss_cons (ps_fld (pv 0) (pe_call GP hr rfl gP kP bP .nil pass0 (pa_cons (pe_fld (pv 0) rfl) (pa_cons (pv 2) pa_nil))) rfl)
      (pss_one (ps_fld (pv 0) (pe_call GN (hr.mono (by decide)) rfl gN kN bN .nil pass0 (pa_cons (pe_fld (pv 0) rfl) (pa_cons (pe_fld (pv 0) rfl) pa_nil))) rfl))))), ?_⟩
    refine ⟨_, rfl, l, hs, rfl, hl, hne, T.nd, Nat.le_trans h12 (by decide), hgood, fun H1 x1 => ?_⟩
    refine ⟨_, rfl, l, hs, rfl, SqL.of (x1 _ _ hl), by omega, fun ys p hys hsr hp => ?_⟩
    have hv1 : H1 v = some (.ins C dx []) := x1 _ _ hv
    have hvp : v ≠ p := ne_of_none hv1 hp
    refine ⟨_, rfl, v, C, dx, [], rfl, by rw [upd_ne hvp]; exact hv1, cl, n1, by decide, ?_⟩
    show tSeq _ _ _ _ (upd (upd H1 p (.lst (ys.map V.str))) v (.ins C dx [("_houses", .ref p)]))
    have keep : ∀ b o, b ≠ v → H b = some o → upd (upd H1 p (.lst (ys.map V.str))) v (.ins C dx [("_houses", .ref p)]) b = some o := fun b o hb e => by
      have := x1 _ _ e
      rw [upd_ne hb, upd_ne (ne_of_none this hp)]
      exact this
    have g1 : upd (upd H1 p (.lst (ys.map V.str))) v (.ins C dx [("_houses", .ref p)]) v = some (.ins C dx [("_houses", .ref p)]) := upd_same
    have g2 : upd (upd H1 p (.lst (ys.map V.str))) v (.ins C dx [("_houses", .ref p)]) p = some (.lst (ys.map V.str)) := by rw [upd_ne hvp.symm]; exact upd_same
    generalize upd (upd H1 p (.lst (ys.map V.str))) v (.ins C dx [("_houses", .ref p)]) = H2 at keep g1 g2
    have hqv : q ≠ v := fun z => by rw [z, hv] at hq; cases hq
    have hqn : ∀ t ∈ qs, t.1 ≠ v := fun t ht z => by have := hP t ht; rw [z, hv] at this; cases this
    have T2 : Tree ys (qs.map (·.2)) := T.perm hys (List.Perm.refl _)
    have hyl : ys.length = hs.length := hys.length_eq
    have yne : ys ≠ [] := fun z => hne (List.length_eq_zero_iff.mp (by rw [← hyl, z]; rfl))
    refine ⟨_, rfl, v, C, dx, _, .ref p, rfl, g1, cl, n1, rfl, _, rfl, p, q, ys, ys, qs, rfl, g2, keep _ _ hqv hq, fun t ht => keep _ _ (hqn t ht) (hP t ht), T2, yne, by omega, by omega, rfl, fun r zs H3 hr3 x3 h3 hP3 hpm hpw hfr => ?_⟩
    have hvr : v ≠ r := ne_of_none g1 hr3
    refine ⟨_, rfl, v, C, dx, [("_houses", .ref p)], rfl, x3 _ _ g1, cl, n2, (by show 1 < 1000; decide), ?_⟩
    rw [put2]
    have k3 : ∀ b o, b ≠ v → H2 b = some o → upd H3 v (.ins C dx [("_houses", .ref p), ("_paths", .ref r)]) b = some o := fun b o hb e => by rw [upd_ne hb]; exact x3 _ _ e
    have k3' : ∀ b o, b ≠ v → H3 b = some o → upd H3 v (.ins C dx [("_houses", .ref p), ("_paths", .ref r)]) b = some o := fun b o hb e => by rw [upd_ne hb]; exact e
    have g4 : upd H3 v (.ins C dx [("_houses", .ref p), ("_paths", .ref r)]) v = some (.ins C dx [("_houses", .ref p), ("_paths", .ref r)]) := upd_same
    generalize upd H3 v (.ins C dx [("_houses", .ref p), ("_paths", .ref r)]) = H4 at k3 k3' g4
    have g5 : H4 p = some (.lst (ys.map V.str)) := k3 _ _ hvp.symm g2
    have g6 : H4 r = some (.lst (refsL zs)) := k3' _ _ hvr.symm h3
    have zn : ∀ t ∈ zs, t.1 ≠ v := fun t ht z => by have := hfr t ht; rw [z, g1] at this; cases this
    have hP4 : PrsAt H4 zs := fun t ht => k3' _ _ (zn t ht) (hP3 t ht)
    have T3 : Tree ys (zs.map (·.2)) := (T2.turn ordP ordP_or).perm (List.Perm.refl _) hpm
    have zl : zs.length = qs.length := by have := hpm.length_eq; rw [List.length_map, List.length_map, List.length_map] at this; exact this
    refine ⟨_, rfl, v, C, dx, _, .ref p, rfl, g4, cl, n1, rfl, _, rfl, v, C, dx, _, .ref r, rfl, g4, cl, n2, rfl, p, r, ys, zs, rfl, g5, g6, hP4, T3.nd, by omega, by omega, fun t ht => T3.mem (.inl (List.mem_map.mpr ⟨t, ht, rfl⟩)), fun d ad H5 hd had x5 hN => ?_⟩
    refine ⟨_, rfl, v, C, dx, [("_houses", .ref p), ("_paths", .ref r)], rfl, x5 _ _ g4, cl, n3, (by show 2 < 1000; decide), ?_⟩
    rw [put3]
    have k5 : ∀ b o, b ≠ v → H5 b = some o → upd H5 v (.ins C dx [("_houses", .ref p), ("_paths", .ref r), ("_near", .ref d)]) b = some o := fun b o hb e => by rw [upd_ne hb]; exact e
    have nd : d ≠ v := (ne_of_none g4 hd).symm
    have nad : ∀ h ∈ ys, ad h ≠ v := fun h hh => (ne_of_none g4 (had h hh)).symm
    refine k _ ys (zs.map (·.2)) ⟨dx, p, r, d, zs, ad⟩ (fun b o hb e => k5 _ _ hb (x5 _ _ (k3 _ _ hb (keep _ _ hb e)))) ⟨upd_same, k5 _ _ hvp.symm (x5 _ _ g5), k5 _ _ hvr.symm (x5 _ _ g6), fun t ht => k5 _ _ (zn t ht) (x5 _ _ (hP4 t ht)), rfl, k5 _ _ nd hN.1, fun h hh => k5 _ _ (nad h hh) (hN.2 h hh)⟩ hys hsr hpm hpw T3 ⟨?_, ?_, ?_, fun t ht => ?_, fun h hh => ?_⟩
    · exact none_of (fun o e => x1 _ _ e) hp
    · exact none_of (fun o e => keep _ _ hvr.symm e) hr3
    · exact none_of (fun o e => k3 _ _ nd (keep _ _ nd e)) hd
    · exact none_of (fun o e => keep _ _ (zn t ht) e) (hfr t ht)
    · exact none_of (fun o e => k3 _ _ (nad h hh) (keep _ _ (nad h hh) e)) (had h hh)
theorem scHouses : FnScope ["self"] ["self"] (defScope sHouses) := ⟨rfl, rfl, rfl, by decide +kernel, rfl, by decide +kernel, by decide +kernel⟩
def spHouses (K : PySem.W.Frag) : Sp := fun vs H Q _ => ∃ (v C : Addr) (hs : List Str) (ps : Prs) (m : VilD), vs = [.ref v] ∧ Cls K C ∧ NoAttr K C "_houses" ∧ Vil H C v hs ps m ∧ ∀ p, H p = none → Q (.ref p) (upd H p (.lst (hs.map V.str)))
theorem ok_houses {f : Addr} {fd : FuncData} (F : FnM K "houses" "Village.houses" sHouses f fd) (gL : mg "list" = none) : FnOk P w K mg base CX0 1 f fd ["self"] (spHouses K) := by
  refine F.ok scHouses (fun vs H Q E h => ?_) (fun cdv A outer s H vs Q E hr h => ?_)
  · obtain ⟨v, C, hs, ps, m, rfl, _⟩ := h
    rfl
  · obtain ⟨v, C, hs, ps, m, rfl, cl, n1, V, k⟩ := h
    refine ⟨_, PSs.nox (pss_one (ps_ret (pe_callTy call_list_of rfl gL (by decide +kernel) (pa_cons (pe_fld (pv 0) rfl) pa_nil)))), ?_⟩
    exact ⟨_, rfl, v, C, _, _, _, rfl, V.at_, cl, n1, rfl, m.a, _, rfl, .inl (SqL.of V.la), fun p hp => k p hp⟩
theorem scNearM : FnScope ["self"] ["self"] (defScope sNearM) := ⟨rfl, rfl, rfl, by decide +kernel, rfl, by decide +kernel, by decide +kernel⟩
def spNearM (K : PySem.W.Frag) : Sp := fun vs H Q _ => ∃ (v C : Addr) (hs : List Str) (ps : Prs) (m : VilD), vs = [.ref v] ∧ Cls K C ∧ NoAttr K C "_near" ∧ Vil H C v hs ps m ∧ Q (.ref m.d) H
theorem ok_nearM {f : Addr} {fd : FuncData} (F : FnM K "near" "Village.near" sNearM f fd) : FnOk P w K mg base CX0 1 f fd ["self"] (spNearM K) := by
  refine F.ok scNearM (fun vs H Q E h => ?_) (fun cdv A outer s H vs Q E hr h => ?_)
  · obtain ⟨v, C, hs, ps, m, rfl, _⟩ := h
    rfl
  · obtain ⟨v, C, hs, ps, m, rfl, cl, n1, V, k⟩ := h
    refine ⟨_, PSs.nox (pss_one (ps_ret (pe_fld (pv 0) rfl))), ?_⟩
    exact ⟨_, rfl, v, C, _, _, _, rfl, V.at_, cl, n1, rfl, k⟩
end
end K02

/-! Going outward from a root, level by level; going on row by row. Law-independent, no machine. -/
namespace Tr
open PySem
abbrev Lv := List (Str × Option Str)
/-- the next level -/
def nxt (ps : Prs) (A : Lv) : Lv := A.flatMap fun q => ((nearL ps q.1).filter fun y => decide (some y ≠ q.2)).map fun y => (y, some q.1)
structure Lev (hs : List Str) (r : Str) (f : Str → Option Str) (i : Nat) (A : Lv) : Prop where
  ok : ∀ q ∈ A, q.1 ∈ hs ∧ q.2 = f q.1 ∧ ∃ l, Pth f r q.1 l ∧ l.length = i + 1
  nd : (A.map (·.1)).Nodup
theorem nxt_mem {hs : List Str} {ps : Prs} {r : Str} {f : Str → Option Str} {i : Nat} {A : Lv} (T : Tree hs ps) (R : Rt hs ps r f) (L : Lev hs r f i A) {y : Str} {b : Option Str} (h : (y, b) ∈ nxt ps A) : ∃ q ∈ A, b = some q.1 ∧ f y = some q.1 ∧ Adj ps q.1 y := by
  unfold nxt at h
  obtain ⟨q, hq, h2⟩ := List.mem_flatMap.mp h
  obtain ⟨z, hz, e⟩ := List.mem_map.mp h2
  cases e
  obtain ⟨h3, h4⟩ := List.mem_filter.mp hz
  have h4 : some y ≠ q.2 := of_decide_eq_true h4
  have ha := nearL_mem.mp h3
  refine ⟨q, hq, rfl, ?_, ha⟩
  rcases R.one _ _ ha with e | e
  · rw [← (L.ok q hq).2.1] at e
    exact absurd e.symm h4
  · exact e
theorem nxt_fst (ps : Prs) (A : Lv) : (nxt ps A).map (·.1) = A.flatMap fun q => (nearL ps q.1).filter fun y => decide (some y ≠ q.2) := by
  unfold nxt
  rw [List.map_flatMap]
  congr 1
  funext q
  rw [List.map_map]
  exact List.map_id _
theorem Lev.next {hs : List Str} {ps : Prs} {r : Str} {f : Str → Option Str} {i : Nat} {A : Lv} (T : Tree hs ps) (R : Rt hs ps r f) (L : Lev hs r f i A) : Lev hs r f (i + 1) (nxt ps A) := by
  refine ⟨fun q hq => ?_, ?_⟩
  · obtain ⟨y, b⟩ := q
    obtain ⟨q, hq2, rfl, e, ha⟩ := nxt_mem T R L hq
    obtain ⟨l, p, hl⟩ := (L.ok q hq2).2.2
    exact ⟨(T.mem ha).2, e.symm, _, .cons e p, by rw [List.length_cons, hl]⟩
  · have key : ∀ B : Lv, (∀ q ∈ B, q ∈ A) → (B.map (·.1)).Nodup → ((nxt ps B).map (·.1)).Nodup := by
      intro B
      induction B with
      | nil => intro _ _; exact List.nodup_nil
      | cons q B ih =>
        intro hB hn
        rw [nxt_fst, List.flatMap_cons, ← nxt_fst]
        rw [List.map_cons] at hn
        refine List.nodup_append.mpr ⟨(T.near q.1).filter _, ih (fun z hz => hB z (List.mem_cons_of_mem _ hz)) (List.nodup_cons.mp hn).2, fun y hy z hz e => ?_⟩
        subst e
        have L2 : Lev hs r f i (q :: B) := ⟨fun z hz => L.ok z (hB z hz), by rw [List.map_cons]; exact hn⟩
        have m1 : (y, some q.1) ∈ nxt ps (q :: B) := by
          unfold nxt
          rw [List.flatMap_cons]
          exact List.mem_append_left _ (List.mem_map.mpr ⟨y, hy, rfl⟩)
        obtain ⟨_, _, e1, e2, _⟩ := nxt_mem T R L2 m1
        rw [← e1] at e2
        obtain ⟨⟨y', b⟩, hb, e3⟩ := List.mem_map.mp hz
        have e3 : y' = y := e3
        subst e3
        obtain ⟨q2, hq2, e4, e5, _⟩ := nxt_mem T R (⟨fun z hz => L.ok z (hB z (List.mem_cons_of_mem _ hz)), (List.nodup_cons.mp hn).2⟩ : Lev hs r f i B) hb
        rw [e2] at e5
        have := Option.some.inj e5
        exact (List.nodup_cons.mp hn).1 (by rw [this]; exact List.mem_map.mpr ⟨q2, hq2, rfl⟩)
    exact key A (fun _ h => h) L.nd
theorem Lev.len {hs : List Str} {r : Str} {f : Str → Option Str} {i : Nat} {A : Lv} (L : Lev hs r f i A) : A.length ≤ hs.length := by
  have := nodup_le (m := hs) L.nd (fun x hx => by
    obtain ⟨q, hq, rfl⟩ := List.mem_map.mp hx
    exact (L.ok q hq).1)
  rwa [List.length_map] at this
theorem Lev.out {hs : List Str} {ps : Prs} {r : Str} {f : Str → Option Str} {i : Nat} {A : Lv} (T : Tree hs ps) (R : Rt hs ps r f) (hr : r ∈ hs) (L : Lev hs r f i A) (h : A ≠ []) : i < hs.length := by
  cases A with
  | nil => exact absurd rfl h
  | cons q B =>
    obtain ⟨_, _, l, p, hl⟩ := L.ok q List.mem_cons_self
    have := R.len T p hr
    omega
theorem Lev.sub {hs : List Str} {r : Str} {f : Str → Option Str} {i : Nat} {A B : Lv} (L : Lev hs r f i A) (h : B.Sublist A) : Lev hs r f i B := ⟨fun q hq => L.ok q (h.mem hq), List.Nodup.sublist (h.map _) L.nd⟩
theorem nxt_snoc (ps : Prs) (A : Lv) (q : Str × Option Str) : nxt ps (A ++ [q]) = nxt ps A ++ ((nearL ps q.1).filter fun y => decide (some y ≠ q.2)).map fun y => (y, some q.1) := by
  unfold nxt
  rw [List.flatMap_append, List.flatMap_cons, List.flatMap_nil, List.append_nil]
theorem Tree.near_le {hs : List Str} {ps : Prs} (T : Tree hs ps) (x : Str) : (nearL ps x).length ≤ hs.length := nodup_le (T.near x) fun _ hy => (T.mem (nearL_mem.mp hy)).2
/-- all that is told so far -/
structure Tot (hs : List Str) (r : Str) (f : Str → Option Str) (M A : Lv) : Prop where
  ok : ∀ q ∈ M, q.1 ∈ hs ∧ q.2 = f q.1
  top : (r, none) ∈ M
  cl : ∀ q ∈ M, q ∈ A ∨ ∀ y, f y = some q.1 → (y, some q.1) ∈ M
  hd : M.head? = some (r, none)
  sub : ∀ q ∈ A, q ∈ M
  be : ∀ i q, M[i + 1]? = some q → ∃ b, q.2 = some b ∧ b ∈ (M.take (i + 1)).map (·.1)
theorem Tot.next {hs : List Str} {ps : Prs} {r : Str} {f : Str → Option Str} {i : Nat} {M A : Lv} (T : Tree hs ps) (R : Rt hs ps r f) (L : Lev hs r f i A) (t : Tot hs r f M A) : Tot hs r f (M ++ nxt ps A) (nxt ps A) := by
  refine ⟨fun q hq => ?_, List.mem_append_left _ t.top, fun q hq => ?_, ?_, fun q hq => List.mem_append_right _ hq, fun i q hq => ?_⟩
  · rcases List.mem_append.mp hq with hq | hq
    · exact t.ok q hq
    · obtain ⟨a, b, _⟩ := (L.next T R).ok q hq
      exact ⟨a, b⟩
  · rcases List.mem_append.mp hq with hq | hq
    · refine .inr fun y hy => ?_
      rcases t.cl q hq with h | h
      · refine List.mem_append_right _ ?_
        unfold nxt
        refine List.mem_flatMap.mpr ⟨q, h, List.mem_map.mpr ⟨y, List.mem_filter.mpr ⟨nearL_mem.mpr (R.adj _ _ hy).symm, decide_eq_true fun e => ?_⟩, rfl⟩⟩
        rw [(L.ok q h).2.1] at e
        -- f q.1 = some y and f y = some q.1
        obtain ⟨l, p, _⟩ := (L.ok q h).2.2
        have c1 := (Pth.cons e.symm (.cons hy p)).uniq R.none p
        have := congrArg List.length c1
        simp at this
        omega
      · exact List.mem_append_left _ (h y hy)
    · exact .inl hq
  · rw [List.head?_append, t.hd]
    rfl
  · by_cases lt : i + 1 < M.length
    · rw [List.getElem?_append_left lt] at hq
      rw [List.take_append_of_le_length (by omega)]
      exact t.be i q hq
    · rw [List.getElem?_append_right (by omega)] at hq
      obtain ⟨y, b⟩ := q
      obtain ⟨q', m', rfl, _, _⟩ := nxt_mem T R L (List.mem_of_getElem? hq)
      refine ⟨q'.1, rfl, List.mem_map.mpr ⟨q', ?_, rfl⟩⟩
      rw [List.take_append]
      refine List.mem_append_left _ ?_
      rw [List.take_of_length_le (by omega)]
      exact t.sub q' m'
theorem Tot.all {hs : List Str} {ps : Prs} {r : Str} {f : Str → Option Str} {M : Lv} (R : Rt hs ps r f) (t : Tot hs r f M []) : ∀ x ∈ hs, (x, f x) ∈ M := by
  intro x hx
  obtain ⟨l, p⟩ := R.way x hx
  clear hx
  induction p with
  | nil => rw [R.none]; exact t.top
  | cons e p ih =>
    rename_i x' y' l'
    rcases t.cl _ ih with h | h
    · exact absurd h (by simp)
    · rw [e]
      exact h x' e
end Tr

namespace K02
open PySem PySem.Spec PyProof.Rows L2 Tr Sq Dk
/-! ### is_house, rooted, steps_towards -/
/-- the class: its methods -/
structure VC (P : Program) (w : World) (K : PySem.W.Frag) (mg : Str → Option Value) (base : Heap) (C : Addr) : Prop where
  cl : Cls K C
  n1 : NoAttr K C "_houses"
  n2 : NoAttr K C "_paths"
  n3 : NoAttr K C "_near"
  hs : ∃ f fd, Meth K C "houses" f ∧ FnOk P w K mg base CX0 1 f fd ["self"] (spHouses K) ∧ L2.Binds K fd ["self"] []
  nr : ∃ f fd, Meth K C "near" f ∧ FnOk P w K mg base CX0 1 f fd ["self"] (spNearM K) ∧ L2.Binds K fd ["self"] []
abbrev sIsHouse : Stmt := top 27
abbrev sRooted : Stmt := top 30
abbrev sSteps : Stmt := top 31
def isHouse (hs : List Str) : V → Bool
  | .str z => decide (z ∈ hs)
  | _ => false
def spIsHouse (C : Addr) : Sp := fun vs H Q _ => ∃ (v : Addr) (x : V) (n : String) (hs : List Str) (ps : Prs) (m : VilD), vs = [.ref v, x] ∧ Vil H C v hs ps m ∧ Pl H x n ∧ Q (.bl (isHouse hs x)) H
def optV : Option Str → V
  | none => .non
  | some z => .str z
/-- told pairs: a house, the one before it -/
abbrev LvL : Type := List (Addr × Str × Option Str)
def LvAt (H : Hp) (M : LvL) : Prop := ∀ t ∈ M, H t.1 = some (.tup [.str t.2.1, optV t.2.2])
def lvRefs (M : LvL) : List V := M.map fun t => .ref t.1
theorem LvAt.ex {H H' : Hp} {M : LvL} (h : LvAt H M) (e : Evl.Ex H H') : LvAt H' M := fun t ht => e _ _ (h t ht)
def spRooted (C : Addr) : Sp := fun vs H Q _ => ∃ (v : Addr) (r : Str) (hs : List Str) (ps : Prs) (m : VilD) (f : Str → Option Str), vs = [.ref v, .str r] ∧ Vil H C v hs ps m ∧ Tree hs ps ∧ r ∈ hs ∧ hs.length ≤ 30 ∧ Rt hs ps r f ∧
  ∀ (q : Addr) (M : LvL) (H' : Hp), Evl.Ex H H' → H q = none → H' q = some (.lst (lvRefs M)) → LvAt H' M → (∀ t ∈ M, t.2.2 = f t.2.1 ∧ t.2.1 ∈ hs) → (∀ x ∈ hs, ∃ t ∈ M, t.2.1 = x) → M.length ≤ 1000 →
    (M.map (·.2)).head? = some (r, none) → (∀ i q, (M.map (·.2))[i + 1]? = some q → ∃ b, q.2 = some b ∧ b ∈ ((M.map (·.2)).take (i + 1)).map (·.1)) → Q (.ref q) H'
def spSteps (C : Addr) : Sp := fun vs H Q _ => ∃ (v : Addr) (r : Str) (hs : List Str) (ps : Prs) (m : VilD) (f : Str → Option Str), vs = [.ref v, .str r] ∧ Vil H C v hs ps m ∧ Tree hs ps ∧ r ∈ hs ∧ hs.length ≤ 30 ∧ Rt hs ps r f ∧
  ∀ (d : Addr) (ks : List Str) (H' : Hp), Evl.Ex H H' → H d = none → H' d = some (.dK (tab ks fun x => optV (f x))) → (∀ x ∈ hs, x ∈ ks) → Q (.ref d) H'
/-- while going outward: so many levels left -/
def wRoot (H : Hp) (v d to : Addr) (r : Str) (hs : List Str) (f : Str → Option Str) (mm : Nat) (σ : L2.St) (H' : Hp) : Prop := ∃ (i aA : Nat) (M A : LvL) (v5 v6 v7 v8 : Option V), mm + i = hs.length + 1 ∧ σ = [some (.ref v), some (.str r), some (.ref d), some (.ref to), some (.ref aA), v5, v6, v7, v8] ∧ Evl.Ex H H' ∧ H' to = some (.lst (lvRefs M)) ∧ H' aA = some (.lst (lvRefs A)) ∧ aA ≠ to ∧
  LvAt H' M ∧ LvAt H' A ∧ Lev hs r f i (A.map (·.2)) ∧ Tot hs r f (M.map (·.2)) (A.map (·.2)) ∧ M.length ≤ 30 * (i + 1) ∧ i ≤ hs.length
/-- the level that is being told: so many gone through -/
def inRoot (H3 : Hp) (D : Addr) (ps : Prs) (A : Lv) (more : Lv) (H' : Hp) : Prop := Evl.Ex H3 H' ∧ ∃ B : LvL, H' D = some (.lst (lvRefs B)) ∧ LvAt H' B ∧ B.map (·.2) = nxt ps A ++ more
section
variable {P : Program} {w : World} {K : PySem.W.Frag} {mg : Str → Option Value} {base : Heap}
theorem scIsHouse : FnScope ["village", "thing"] ["village", "thing"] (defScope sIsHouse) := ⟨rfl, rfl, rfl, by decide +kernel, rfl, by decide +kernel, by decide +kernel⟩
theorem ok_isHouse {C f : Addr} {fd : FuncData} (F : FnP K "is_house" sIsHouse f fd) (c : VC P w K mg base C) (gI : mg "isinstance" = none) (gT : mg "str" = none) : FnOk P w K mg base CX0 2 f fd ["village", "thing"] (spIsHouse C) := by
  obtain ⟨fN, fdN, mN, GN, bN⟩ := c.nr
  refine F.ok scIsHouse (fun vs H Q E h => ?_) (fun cdv A outer s H vs Q E hr h => ?_)
  · obtain ⟨v, x, n, hs, ps, m, rfl, _⟩ := h
    rfl
  · obtain ⟨v, x, n, hs, ps, m, rfl, V, hx, k⟩ := h
    refine ⟨_, PSs.nox (pss_one (ps_ret (pe_and (pe_callB call_isi rfl gI (by decide +kernel) (pa_cons (pv 1) (pa_cons (pe_bltn (v := .ty "str") rfl gT (by decide +kernel) rfl) pa_nil)))
      (pe_one (pe_cmp (pc_din (hu_of hr) (pv 1) (pe_meth0 (pv 0) c.cl mN GN hr bN .nil pass0)) rfl))))), ?_⟩
    refine ⟨_, rfl, _, _, _, _, _, rfl, .ty _, hx.ty, hx.one "str", _, rfl, ?_⟩
    cases hx with
    | str z =>
      refine iteT ⟨_, rfl, _, rfl, v, m.dx, _, rfl, V.at_, rfl, v, C, hs, ps, m, rfl, c.cl, c.n3, V, m.d, _, rfl, DGet.k (k := Sum.inr z) V.nr.1, ?_⟩
      rw [val_tab]
      have k : Q (.bl (decide (z ∈ hs))) H := k
      by_cases hz : z ∈ hs
      · rw [if_pos hz]
        rw [decide_eq_true hz] at k
        exact k
      · rw [if_neg hz]
        rw [decide_eq_false hz] at k
        exact k
    | _ => exact iteF k
theorem scRooted : FnScope ["village", "root", "near", "told", "ahead", "reached", "house", "back", "far"] ["village", "root"] (defScope sRooted) := ⟨rfl, rfl, rfl, by decide +kernel, rfl, by decide +kernel, by decide +kernel⟩
theorem ok_rooted {C f : Addr} {fd : FuncData} (F : FnP K "rooted" sRooted f fd) (c : VC P w K mg base C) : FnOk P w K mg base CX0 2 f fd ["village", "root"] (spRooted C) := by
  obtain ⟨fN, fdN, mN, GN, bN⟩ := c.nr
  refine F.ok scRooted (fun vs H Q E h => ?_) (fun cdv A outer s H vs Q E hr h => ?_)
  · obtain ⟨v, r, hs, ps, m, f, rfl, _⟩ := h
    rfl
  · obtain ⟨v, r, hs, ps, m, f, rfl, Vh, T, hr0, h30, R, k⟩ := h
    refine' ⟨_, PSs.nox (pss_cons (ps_set (i := 2) scRooted.nd rfl (.inr rfl) (pe_meth0 (pv 0) c.cl mN GN hr bN .nil pass0))
      (pss_cons (ps_set (i := 3) scRooted.nd rfl (.inl rfl) (pe_lst (pa_cons (pe_tup (pa_cons (pv 1) (pa_cons pe_non pa_nil))) pa_nil)))
      (pss_cons (ps_set (i := 4) scRooted.nd rfl (.inl rfl) (pe_lst (pa_cons (pe_tup (pa_cons (pv 1) (pa_cons pe_non pa_nil))) pa_nil)))
      (pss_cons (ps_while PassesOwn.never (pt_truth (pv 4) (fun _ => rfl)) (pss_cons ?lc (pss_cons (ps_expr (pe_bm PySem.F.plainAttrs_list PySem.F.slot_list_extend PySem.F.type_list_extend mt_extend (pv 3) (pa_cons (pv 5) pa_nil))) (pss_one (ps_set (i := 4) scRooted.nd rfl (.inl rfl) (pv 5))))))
      (pss_one (ps_ret (pv 3))))))), ?rd⟩
    case lc =>
      exact ps_setLc2 (i := 5) (own := [("house", 6), ("back", 7), ("far", 8)]) (vs1 := [8]) (g := gTup K 2 (gCons (gName 6) (gCons (gName 7) gNil))) (g1 := gName 8) (tt := tYes) (tt1 := tTest (tOp rNe (tVar 8) (tVar 7))) (te := tTup (tCons (tVar 8) (tCons (tVar 6) tNil))) (wi1 := iList K (tDGet (tVar 2) (tVar 6))) (by rfl) scRooted.nd rfl rfl (sw_true rfl rfl rfl (by decide +kernel)) (pi_list (pv 4))
        (blkOk_by (own := [("house", 6), ("back", 7), ("far", 8)]) (N := ["village", "root", "near", "told", "ahead", "reached", "house", "back", "far"]) (sc := defScope sRooted) (by decide +kernel)) (by decide)
        (fun _ _ _ _ _ => pg_tup rfl (pgs_cons (pg_name (i := 6) scRooted.nd rfl (.inl rfl)) (pgs_cons (pg_name (i := 7) scRooted.nd rfl (.inl rfl)) pgs_nil))) (fun _ _ _ _ _ => pts_nil)
        (fun _ _ _ _ _ => pi_list (pe_dget (hu_of hr) (pv 2) (pv 6) (fun _ _ => rfl))) (fun _ _ _ _ _ => pg_name (i := 8) scRooted.nd rfl (.inl rfl)) (fun _ _ _ _ _ => pts_one (pt_cmpR op_ne (pv 8) (pv 7) (nomark _))) (fun _ _ _ _ _ => pe_tup (pa_cons (pv 8) (pa_cons (pv 6) pa_nil)))
    refine ⟨_, rfl, v, m.dx, _, rfl, Vh.at_, rfl, v, C, hs, ps, m, rfl, c.cl, c.n3, Vh, ?_⟩
    refine ⟨_, rfl, by show 2 ≤ sizeLine; decide, fun t1 ht1 => ⟨by show 1 ≤ sizeLine; decide, fun to hto => ?_⟩⟩
    refine ⟨_, rfl, by show 2 ≤ sizeLine; decide, fun t2 ht2 => ⟨by show 1 ≤ sizeLine; decide, fun ao hao => ?_⟩⟩
    have ne1 : t1 ≠ to := ne_of_none upd_same hto
    have htoH : H to = none := by rw [upd_ne ne1.symm] at hto; exact hto
    have x1 : Evl.Ex H (upd (upd H t1 (.tup [.str r, .non])) to (.lst [.ref t1])) := (Evl.Ex.new ht1).trans (Evl.Ex.new hto)
    have a1 : upd (upd H t1 (.tup [.str r, .non])) to (.lst [.ref t1]) t1 = some (.tup [.str r, .non]) := by rw [upd_ne ne1]; exact upd_same
    have a2 : upd (upd H t1 (.tup [.str r, .non])) to (.lst [.ref t1]) to = some (.lst [.ref t1]) := upd_same
    generalize upd (upd H t1 (.tup [.str r, .non])) to (.lst [.ref t1]) = H1 at ht2 hao x1 a1 a2
    have x2 : Evl.Ex H1 (upd (upd H1 t2 (.tup [.str r, .non])) ao (.lst [.ref t2])) := (Evl.Ex.new ht2).trans (Evl.Ex.new hao)
    have ne2 : t2 ≠ ao := ne_of_none upd_same hao
    have b1 : upd (upd H1 t2 (.tup [.str r, .non])) ao (.lst [.ref t2]) t2 = some (.tup [.str r, .non]) := by rw [upd_ne ne2]; exact upd_same
    have b2 : upd (upd H1 t2 (.tup [.str r, .non])) ao (.lst [.ref t2]) ao = some (.lst [.ref t2]) := upd_same
    have nta : to ≠ ao := fun z => by rw [← z, upd_ne (fun q => by rw [q, ht2] at a2; cases a2), a2] at hao; cases hao
    generalize upd (upd H1 t2 (.tup [.str r, .non])) ao (.lst [.ref t2]) = H2 at x2 b1 b2
    have n1 : 1 ≤ hs.length := List.length_pos_of_mem hr0
    refine ⟨wRoot H v m.d to r hs f, ⟨hs.length + 1, 0, ao, [(t1, r, none)], [(t2, r, none)], none, none, none, none, rfl, rfl, x1.trans x2, x2 _ _ a2, b2, nta.symm, ?_, ?_, ?_, ?_, by show 1 ≤ 30 * (0 + 1); decide, Nat.zero_le _⟩, ?_⟩
    · intro t ht
      simp only [List.mem_singleton] at ht
      subst ht
      exact x2 _ _ a1
    · intro t ht
      simp only [List.mem_singleton] at ht
      subst ht
      exact b1
    · refine ⟨fun q hq => ?_, by simp⟩
      simp only [List.map_cons, List.map_nil, List.mem_singleton] at hq
      subst hq
      exact ⟨hr0, R.none.symm, [r], .nil, rfl⟩
    · refine ⟨fun q hq => ?_, by simp, fun q hq => .inl (by simpa using hq), rfl, fun q hq => hq, fun i q hq => by simp at hq⟩
      simp only [List.map_cons, List.map_nil, List.mem_singleton] at hq
      subst hq
      exact ⟨hr0, R.none.symm⟩
    · rintro mm σ H3 ⟨i, aA, M, A, v5, v6, v7, v8, hmm, rfl, x3, c1, c2, c3, c4, c5, L, t, c6, c7⟩
      refine ⟨_, rfl, _, .inl ⟨_, SqL.of c2, rfl⟩, ?_⟩
      have toH : ∀ {A' : LvL}, M.map (·.2) ≠ [] → True := fun _ => trivial
      cases hA : A with
      | nil =>
        subst hA
        refine iteF ⟨_, rfl, k to M H3 x3 htoH c1 c4 (fun t' ht' => ?_) (fun x hx => ?_) ?_ t.hd t.be⟩
        · have := t.ok t'.2 (List.mem_map.mpr ⟨t', ht', rfl⟩)
          exact ⟨this.2, this.1⟩
        · obtain ⟨t', ht', e⟩ := List.mem_map.mp (t.all R x hx)
          exact ⟨t', ht', by rw [e]⟩
        · have : 30 * (i + 1) ≤ 30 * 31 := Nat.mul_le_mul_left _ (by omega)
          omega
      | cons q0 A0 =>
        rw [← hA]
        have hAne : A ≠ [] := by rw [hA]; simp
        have hil : i < hs.length := L.out T R hr0 (fun z => hAne (List.map_eq_nil_iff.mp z))
        have e0 : (!(lvRefs A).isEmpty) = true := by rw [hA]; rfl
        rw [e0]
        refine iteT ⟨wRoot H v m.d to r hs f (mm - 1), fun σ' H' q => ⟨mm - 1, by omega, q⟩, ?_⟩
        refine ⟨_, rfl, aA, rfl, ⟨_, SqL.of c2⟩, fun D hD => ?_⟩
        have hDH : H D = none := by
          cases q1 : H D with
          | none => rfl
          | some o => rw [x3 _ _ q1] at hD; cases hD
        refine out_it (walk_list (xs := lvRefs A)) (fun j H' => inRoot H3 D ps ((A.map (·.2)).take j) [] H') ⟨Evl.Ex.new hD, [], upd_same, fun t' ht' => absurd ht' (by simp), rfl⟩ (fun j H' _ hp => SqL.of (hp.1 _ _ c2)) (fun j x H4 H5 hj hp hy => ?_) (fun H4 hp => ?_)
        · obtain ⟨rfl, hx⟩ := hy
          unfold lvRefs at hj hx
          rw [List.length_map] at hj
          obtain ⟨q, hq⟩ := getD_of hj
          rw [List.getElem?_map, hq] at hx
          cases hx
          obtain ⟨qa, h, b⟩ := q
          have hqm := List.mem_of_getElem? hq
          obtain ⟨hm, hb, _⟩ := L.ok (h, b) (List.mem_map.mpr ⟨_, hqm, rfl⟩)
          have tk : (A.map (·.2)).take (j + 1) = (A.map (·.2)).take j ++ [(h, b)] := by rw [List.take_add_one, List.getElem?_map, hq]; rfl
          have hqt : H5 qa = some (.tup [.str h, optV b]) := hp.1 _ _ (c5 _ hqm)
          have x5 : Evl.Ex H H5 := x3.trans hp.1
          have V5 := Vh.ex x5
          refine ⟨qa, _, rfl, SqT.of hqt, rfl, _, _, rfl, _, _, rfl, rfl, rfl, ?_⟩
          have gn : DGet H5 m.d (kV (Sum.inr h)) (some (.ref (m.ad h))) := by have := DGet.k (k := Sum.inr h) V5.nr.1; rw [val_in hm] at this; exact this
          refine ⟨_, rfl, _, rfl, m.d, _, rfl, gn, m.ad h, rfl, ⟨_, SqL.of (V5.nr.2 h hm)⟩, ?_⟩
          refine out_it (walk_list (xs := (nearL ps h).map V.str)) (fun k H' => inRoot H3 D ps ((A.map (·.2)).take j) ((((nearL ps h).take k).filter fun y => decide (some y ≠ b)).map fun y => (y, some h)) H') hp (fun k H' _ hp' => SqL.of ((Vh.ex (x3.trans hp'.1)).nr.2 h hm)) (fun k x H6 H7 hk hp' hy => ?_) (fun H6 hp' => ?_)
          · obtain ⟨rfl, hx⟩ := hy
            rw [List.length_map] at hk
            obtain ⟨y, hyy⟩ := getD_of hk
            rw [List.getElem?_map, hyy] at hx
            cases hx
            obtain ⟨x6, B, d1, d2, d3⟩ := hp'
            have tk2 : (nearL ps h).take (k + 1) = (nearL ps h).take k ++ [y] := by rw [List.take_add_one, hyy]; rfl
            have hsc : scal (.str y) (optV b) = true := by cases b <;> rfl
            have hde : decide (L2.V.str y = optV b) = decide (some y = b) := by
              cases b with
              | none => simp [optV]
              | some z => simp [optV]
            have hBl : B.length < sizeLine := by
              have e1 := congrArg List.length d3
              rw [List.length_map, List.length_append, List.length_map] at e1
              have e2 := ((L.sub (List.take_sublist j _)).next T R).len
              have e3 : (((nearL ps h).take k).filter fun y => decide (some y ≠ b)).length ≤ (nearL ps h).length := Nat.le_trans (List.length_filter_le _ _) (by rw [List.length_take]; omega)
              have e4 := T.near_le h
              exact Nat.lt_of_le_of_lt (show B.length ≤ 60 by omega) (by decide)
            refine ⟨rfl, _, rfl, _, rfl, hsc, _, rfl, ?_⟩
            rw [hde]
            by_cases hyb : some y = b
            · rw [decide_eq_true hyb]
              refine iteF ⟨x6, B, d1, d2, ?_⟩
              rw [d3, tk2, List.filter_append]
              have : ([y].filter fun y => decide (some y ≠ b)) = [] := by simp [hyb]
              rw [this, List.append_nil]
            · rw [decide_eq_false hyb]
              refine iteT ⟨_, rfl, _, rfl, by show 2 ≤ sizeLine; decide, fun p hp2 => ?_⟩
              have hDp : D ≠ p := ne_of_none d1 hp2
              refine ⟨_, by rw [upd_ne hDp]; exact d1, by unfold lvRefs; rw [List.length_map]; exact hBl, ex_upd (x6.trans (Evl.Ex.new hp2)) hD, B ++ [(p, y, some h)], by unfold lvRefs; rw [upd_same, List.map_append]; rfl, fun t' ht' => ?_, ?_⟩
              · rcases List.mem_append.mp ht' with ht' | ht'
                · have := d2 t' ht'
                  rw [upd_ne (fun z => by rw [z, d1] at this; cases this), upd_ne (ne_of_none this hp2)]
                  exact this
                · simp only [List.mem_singleton] at ht'
                  subst ht'
                  rw [upd_ne hDp.symm]
                  exact upd_same
              · rw [List.map_append, d3, tk2, List.filter_append]
                have : ([y].filter fun y => decide (some y ≠ b)) = [y] := by simp [hyb]
                rw [this, List.map_append, List.append_assoc]
                rfl
          · rw [List.length_map, List.take_length] at hp'
            rw [tk]
            unfold inRoot at hp' ⊢
            rw [nxt_snoc, List.append_nil]
            exact hp'
        · unfold lvRefs at hp
          rw [List.length_map, List.take_of_length_le (by rw [List.length_map]; exact Nat.le_refl _)] at hp
          obtain ⟨x4, B, d1, d2, d3⟩ := hp
          rw [List.append_nil] at d3
          have hBl : B.length ≤ 30 := by
            have e1 := congrArg List.length d3
            rw [List.length_map] at e1
            have e2 := (L.next T R).len
            omega
          have c1' := x4 _ _ c1
          have toD : to ≠ D := ne_of_none c1 hD
          refine ⟨_, rfl, .inl ⟨rfl, _, SqL.of c1'⟩, _, rfl, to, D, _, _, rfl, rfl, c1', d1, ?_, ?_⟩
          · unfold lvRefs
            rw [List.length_map, List.length_map]
            have : 30 * (i + 1) ≤ 30 * 31 := Nat.mul_le_mul_left _ (by omega)
            exact Nat.le_trans (show _ ≤ 1000 by omega) (by decide)
          · refine ⟨_, rfl, i + 1, D, M ++ B, B, _, _, _, _, by omega, rfl, ex_upd (x3.trans x4) htoH, by unfold lvRefs; rw [upd_same, List.map_append], by rw [upd_ne toD.symm]; exact d1, toD.symm, fun t' ht' => ?_, fun t' ht' => ?_, ?_, ?_, ?_, by omega⟩
            · have : H4 t'.1 = some (.tup [.str t'.2.1, optV t'.2.2]) := by
                rcases List.mem_append.mp ht' with ht' | ht'
                · exact x4 _ _ (c4 t' ht')
                · exact d2 t' ht'
              rw [upd_ne (fun z => by rw [z, c1'] at this; cases this)]
              exact this
            · have := d2 t' ht'
              rw [upd_ne (fun z => by rw [z, c1'] at this; cases this)]
              exact this
            · rw [d3]
              exact L.next T R
            · rw [List.map_append, d3]
              exact t.next T R L
            · rw [List.length_append]
              omega
end
end K02

namespace K02
open PySem PySem.Spec PyProof.Rows L2 Tr Sq Dk
section
variable {P : Program} {w : World} {K : PySem.W.Frag} {mg : Str → Option Value} {base : Heap}
theorem scSteps : FnScope ["village", "root", "house", "back"] ["village", "root"] (defScope sSteps) := ⟨rfl, rfl, rfl, by decide +kernel, rfl, by decide +kernel, by decide +kernel⟩
theorem ok_steps {C f fR : Addr} {fd fdR : FuncData} (F : FnP K "steps_towards" sSteps f fd) (GR : FnOk P w K mg base CX0 2 fR fdR ["village", "root"] (spRooted C)) (bR : L2.Binds K fdR ["village", "root"] []) (kR : PySem.W.keepIn K (.ref fR) = true) (gR : mg "rooted" = some (.ref fR)) :
    FnOk P w K mg base CX0 3 f fd ["village", "root"] (spSteps C) := by
  refine F.ok scSteps (fun vs H Q E h => ?_) (fun cdv A outer s H vs Q E hr h => ?_)
  · obtain ⟨v, r, hs, ps, m, f, rfl, _⟩ := h
    rfl
  · obtain ⟨v, r, hs, ps, m, f, rfl, Vh, T, hr0, h30, R, k⟩ := h
    refine ⟨_, PSs.nox (pss_one (ps_ret (pe_dc (own := [("house", 2), ("back", 3)]) (g := gTup K 2 (gCons (gName 2) (gCons (gName 3) gNil))) (tt := tYes) (tk := tVar 2) (tv := tVar 3) rfl scSteps.nd (pi_list (pe_call GR hr rfl gR kR bR .nil pass0 (pa_cons (pv 0) (pa_cons (pv 1) pa_nil))))
        (blkOk_by (own := [("house", 2), ("back", 3)]) (N := ["village", "root", "house", "back"]) (sc := defScope sSteps) (by decide +kernel))
        (fun _ _ _ _ _ => pg_tup rfl (pgs_cons (pg_name (i := 2) scSteps.nd rfl (.inl rfl)) (pgs_cons (pg_name (i := 3) scSteps.nd rfl (.inl rfl)) pgs_nil))) (fun _ _ _ _ _ => pts_nil) (fun _ _ _ _ _ => pv 2) (fun _ _ _ _ _ => pv 3)))), ?_⟩
    refine ⟨_, rfl, _, rfl, v, r, hs, ps, m, f, rfl, Vh, T, hr0, h30, R, fun q M H1 x1 hq hq1 hM hMf hall hMl _ _ => ?_⟩
    refine ⟨q, rfl, ⟨_, SqL.of hq1⟩, fun D hD => ?_⟩
    have hDH : H D = none := by
      cases q1 : H D with
      | none => rfl
      | some o => rw [x1 _ _ q1] at hD; cases hD
    refine dc_it (walk_list (xs := lvRefs M)) (fun i H' => Evl.Ex H1 H' ∧ ∃ ks : List Str, H' D = some (.dK (tab ks fun x => optV (f x))) ∧ (∀ t ∈ M.take i, t.2.1 ∈ ks) ∧ ks.length ≤ i) ?_ ?_ ?_ ?_
    · exact ⟨Evl.Ex.new hD, [], upd_same, fun t ht => absurd ht (by simp), Nat.le_refl _⟩
    · intro i H' _ hp
      exact SqL.of (hp.1 _ _ hq1)
    · rintro i x H2 H3 hi ⟨x2, ks, e1, e2, e3⟩ ⟨rfl, hx⟩
      unfold lvRefs at hi hx
      rw [List.length_map] at hi
      obtain ⟨t, ht⟩ := getD_of hi
      rw [List.getElem?_map, ht] at hx
      cases hx
      obtain ⟨a, h, b⟩ := t
      have tm := List.mem_of_getElem? ht
      have hb : b = f h := (hMf _ tm).1
      have hat := x2 _ _ (hM _ tm)
      have tk : M.take (i + 1) = M.take i ++ [(a, h, b)] := by rw [List.take_add_one, ht]; rfl
      refine ⟨a, _, rfl, SqT.of hat, rfl, _, _, rfl, _, _, rfl, rfl, rfl, _, rfl, _, rfl, _, Sum.inr h, rfl, e1, ?_, ex_upd x2 hD, ?_⟩
      · rw [tab_length]
        exact Nat.lt_of_le_of_lt (show ks.length ≤ 1000 by omega) (by decide)
      · by_cases hk : h ∈ ks
        · refine ⟨ks, ?_, fun t' ht' => ?_, by omega⟩
          · rw [upd_same, put_old hk]
            congr 2
            exact tab_congr fun x _ => by
              show (if x = h then optV b else optV (f x)) = optV (f x)
              split
              · rename_i e; rw [e, hb]
              · rfl
          · rw [tk] at ht'
            rcases List.mem_append.mp ht' with ht' | ht'
            · exact e2 t' ht'
            · simp only [List.mem_singleton] at ht'
              rw [ht']; exact hk
        · refine ⟨ks ++ [h], ?_, fun t' ht' => ?_, by rw [List.length_append]; simp; exact e3⟩
          · rw [upd_same, put_new hk]
            congr 2
            exact tab_congr fun x _ => by
              show (if x = h then optV b else optV (f x)) = optV (f x)
              split
              · rename_i e; rw [e, hb]
              · rfl
          · rw [tk] at ht'
            rcases List.mem_append.mp ht' with ht' | ht'
            · exact List.mem_append_left _ (e2 t' ht')
            · simp only [List.mem_singleton] at ht'
              rw [ht']; simp
    · rintro H2 ⟨x2, ks, e1, e2, e3⟩
      have : M.take (lvRefs M).length = M := by
        unfold lvRefs
        rw [List.length_map, List.take_length]
      rw [this] at e2
      refine k D ks H2 (x1.trans x2) hDH e1 fun x hx => ?_
      obtain ⟨t, ht, e⟩ := hall x hx
      rw [← e]
      exact e2 t ht
end
end K02

/-! Walks: ways put together. Law-independent, no machine. -/
namespace Tr
open PySem
/-- all ways of a tree -/
structure Ways (hs : List Str) (ps : Prs) (fr : Str → Str → Option Str) (way : Str → Str → List Str) : Prop where
  rt : ∀ r ∈ hs, Rt hs ps r (fr r)
  pth : ∀ a ∈ hs, ∀ r ∈ hs, Pth (fr r) r a (way a r)
theorem Tree.ways {hs : List Str} {ps : Prs} (T : Tree hs ps) : ∃ fr way, Ways hs ps fr way := by
  have h1 : ∀ r, ∃ f, r ∈ hs → Rt hs ps r f := fun r => by
    by_cases h : r ∈ hs
    · obtain ⟨f, R⟩ := T.root h
      exact ⟨f, fun _ => R⟩
    · exact ⟨fun _ => none, fun z => absurd z h⟩
  obtain ⟨fr, hfr⟩ := Classical.axiomOfChoice h1
  have h2 : ∀ q : Str × Str, ∃ l, q.1 ∈ hs → q.2 ∈ hs → Pth (fr q.2) q.2 q.1 l := fun q => by
    by_cases h : q.1 ∈ hs ∧ q.2 ∈ hs
    · obtain ⟨l, p⟩ := (hfr q.2 h.2).way q.1 h.1
      exact ⟨l, fun _ _ => p⟩
    · exact ⟨[], fun a b => absurd ⟨a, b⟩ h⟩
  obtain ⟨wy, hwy⟩ := Classical.axiomOfChoice h2
  exact ⟨fr, fun a r => wy (a, r), hfr, fun a ha r hr => hwy (a, r) ha hr⟩
/-- on from a house, to one after another -/
def wkFrom (way : Str → Str → List Str) : Str → List Str → List Str
  | _, [] => []
  | a, h :: t => (way a h).tail ++ wkFrom way h t
theorem wkFrom_snoc (way : Str → Str → List Str) (h : Str) : ∀ (pre : List Str) (a : Str), wkFrom way a (pre ++ [h]) = wkFrom way a pre ++ (way (pre.getLastD a) h).tail
  | [], a => by simp [wkFrom]
  | b :: t, a => by
    rw [List.cons_append, wkFrom, wkFrom, wkFrom_snoc way h t b, List.append_assoc]
    congr 3
    cases t <;> rfl
theorem Ways.tail_last {hs : List Str} {ps : Prs} {fr : Str → Str → Option Str} {way : Str → Str → List Str} (W : Ways hs ps fr way) {a h : Str} (ha : a ∈ hs) (hh : h ∈ hs) : ∃ l, way a h = a :: l ∧ (a :: l).getLast? = some h := by
  obtain ⟨l, e⟩ := (W.pth a ha h hh).head
  exact ⟨l, e, by rw [← e]; exact (W.pth a ha h hh).last⟩
theorem Ways.same {hs : List Str} {ps : Prs} {fr : Str → Str → Option Str} {way : Str → Str → List Str} (W : Ways hs ps fr way) {a : Str} (ha : a ∈ hs) : way a a = [a] := (W.pth a ha a ha).uniq (W.rt a ha).none .nil
theorem Ways.len {hs : List Str} {ps : Prs} {fr : Str → Str → Option Str} {way : Str → Str → List Str} (T : Tree hs ps) (W : Ways hs ps fr way) {a h : Str} (ha : a ∈ hs) (hh : h ∈ hs) : (way a h).length ≤ hs.length := (W.rt h hh).len T (W.pth a ha h hh) hh
theorem Ways.wk_len {hs : List Str} {ps : Prs} {fr : Str → Str → Option Str} {way : Str → Str → List Str} (T : Tree hs ps) (W : Ways hs ps fr way) : ∀ (l : List Str) (a : Str), a ∈ hs → (∀ x ∈ l, x ∈ hs) → (wkFrom way a l).length ≤ hs.length * l.length
  | [], _, _, _ => Nat.le_refl _
  | h :: t, a, ha, hl => by
    have hh := hl h List.mem_cons_self
    have h1 := W.len T ha hh
    have h2 := Ways.wk_len T W t h hh (fun x hx => hl x (List.mem_cons_of_mem _ hx))
    rw [wkFrom, List.length_append, List.length_tail, List.length_cons, Nat.mul_succ]
    omega
theorem Ways.wk_mem {hs : List Str} {ps : Prs} {fr : Str → Str → Option Str} {way : Str → Str → List Str} (T : Tree hs ps) (W : Ways hs ps fr way) : ∀ (l : List Str) (a : Str), a ∈ hs → (∀ x ∈ l, x ∈ hs) → ∀ x ∈ wkFrom way a l, x ∈ hs
  | [], _, _, _, x, hx => by simp [wkFrom] at hx
  | h :: t, a, ha, hl, x, hx => by
    have hh := hl h List.mem_cons_self
    rw [wkFrom] at hx
    rcases List.mem_append.mp hx with hx | hx
    · exact (W.rt h hh).mem T (W.pth a ha h hh) hh x (List.mem_of_mem_tail hx)
    · exact Ways.wk_mem T W t h hh (fun x hx => hl x (List.mem_cons_of_mem _ hx)) x hx
/-- where one stands -/
theorem Ways.wk_last {hs : List Str} {ps : Prs} {fr : Str → Str → Option Str} {way : Str → Str → List Str} (W : Ways hs ps fr way) : ∀ (l : List Str) (a : Str), a ∈ hs → (∀ x ∈ l, x ∈ hs) → (a :: wkFrom way a l).getLast? = some (l.getLastD a)
  | [], _, _, _ => rfl
  | h :: t, a, ha, hl => by
    have hh := hl h List.mem_cons_self
    obtain ⟨m, e, q⟩ := W.tail_last ha hh
    have ih := Ways.wk_last W t h hh (fun x hx => hl x (List.mem_cons_of_mem _ hx))
    rw [wkFrom, e]
    show (a :: (m ++ wkFrom way h t)).getLast? = _
    rw [List.getLastD_cons]
    cases hw : wkFrom way h t with
    | nil =>
      rw [hw] at ih
      have ih : some h = some (t.getLastD h) := ih
      rw [List.append_nil, q]
      exact ih
    | cons b c =>
      rw [hw] at ih
      rw [List.getLast?_cons_cons] at ih
      rw [← ih, ← List.cons_append, List.getLast?_append]
      cases hb : (b :: c).getLast? with
      | none => simp at hb
      | some z => rfl
end Tr

/-! Crossings of a path by walks; what a row is seen as from a house. Law-independent, no machine. -/
namespace Tr
open PySem
section
variable {hs : List Str} {ps : Prs} {fr : Str → Str → Option Str} {way : Str → Str → List Str}
/-- the first step from a house, when one's end moves by a path -/
theorem Ways.step (T : Tree hs ps) (W : Ways hs ps fr way) {u v a : Str} (h : Adj ps u v) (ha : a ∈ hs) : fr v a = if a = v then none else if a = u then some v else fr u a := by
  have hm := T.mem h
  have := (((W.rt u hm.1).move T h).agree T (W.rt v hm.2) a ha)
  rw [← this]
  rfl
/-- whether x lies beyond the path from a to b -/
def bey (fr : Str → Str → Option Str) (a b x : Str) : Bool := decide (fr x a = some b)
theorem Ways.side (T : Tree hs ps) (W : Ways hs ps fr way) {a b u v : Str} (hab : Adj ps a b) (huv : Adj ps u v) :
    (bey fr a b u = bey fr a b v ∧ (u, v) ≠ (a, b) ∧ (u, v) ≠ (b, a)) ∨ ((u, v) = (a, b) ∧ bey fr a b u = false ∧ bey fr a b v = true) ∨ ((u, v) = (b, a) ∧ bey fr a b u = true ∧ bey fr a b v = false) := by
  have ma := (T.mem hab).1
  have mu := (T.mem huv).1
  have mv := (T.mem huv).2
  have hne : u ≠ v := fun z => T.irr (z ▸ huv : Adj ps v v)
  have hs := W.step T huv ma
  have nu := (W.rt u mu).none
  have nv := (W.rt v mv).none
  unfold bey
  by_cases h1 : a = v
  · subst h1
    have e1 : fr u a = some u := by
      rcases (W.rt u mu).one _ _ huv with e | e
      · rw [nu] at e; cases e
      · exact e
    rw [e1, nv]
    by_cases h2 : u = b
    · subst h2
      exact .inr (.inr ⟨rfl, by simp, by simp⟩)
    · refine .inl ⟨by simp [h2], fun z => ?_, fun z => ?_⟩
      · injection z with z1 z2; exact hne z1
      · injection z with z1 z2; exact h2 z1
  · rw [if_neg h1] at hs
    by_cases h2 : a = u
    · subst h2
      rw [if_pos rfl] at hs
      rw [hs, nu]
      by_cases h3 : v = b
      · subst h3
        exact .inr (.inl ⟨rfl, by simp, by simp⟩)
      · refine .inl ⟨by simp [h3], fun z => ?_, fun z => ?_⟩
        · injection z with z1 z2; exact h3 z2
        · injection z with z1 z2; exact h1 z2.symm
    · rw [if_neg h2] at hs
      rw [hs]
      refine .inl ⟨rfl, fun z => ?_, fun z => ?_⟩
      · injection z with z1 z2; exact h2 z1.symm
      · injection z with z1 z2; exact h1 z2.symm
end
/-- the steps of a row -/
def stp (l : List Str) : Prs := l.zip l.tail
theorem stp_cons2 (x y : Str) (l : List Str) : stp (x :: y :: l) = (x, y) :: stp (y :: l) := rfl
theorem stp_app : ∀ (l : List Str) (x : Str) (m : List Str), stp (l ++ x :: m) = stp (l ++ [x]) ++ stp (x :: m)
  | [], x, m => rfl
  | [y], x, m => rfl
  | y :: z :: l, x, m => by
    have := stp_app (z :: l) x m
    show (y, z) :: stp (z :: l ++ x :: m) = (y, z) :: stp (z :: l ++ [x]) ++ stp (x :: m)
    rw [this]
    rfl
theorem stp_mem {l : List Str} {a b : Str} : (a, b) ∈ stp l ↔ ∃ i, l[i]? = some a ∧ l[i + 1]? = some b := by
  unfold stp
  rw [List.mem_iff_getElem?]
  constructor
  · rintro ⟨i, h⟩
    rw [List.getElem?_zip_eq_some] at h
    refine ⟨i, h.1, ?_⟩
    have := h.2
    rwa [List.getElem?_tail] at this
  · rintro ⟨i, h1, h2⟩
    exact ⟨i, by rw [List.getElem?_zip_eq_some]; exact ⟨h1, by rw [List.getElem?_tail]; exact h2⟩⟩
theorem stp_len (l : List Str) : (stp l).length = l.length - 1 := by
  unfold stp
  rw [List.length_zip, List.length_tail]
  omega
theorem stp_adj {ps : Prs} {l : List Str} (h : Row ps l) : ∀ q ∈ stp l, Adj ps q.1 q.2 := fun q hq => by
  obtain ⟨a, b⟩ := q
  obtain ⟨i, h1, h2⟩ := stp_mem.mp hq
  exact h i a b h1 h2
theorem stp_fst : ∀ l : List Str, (stp l).map (·.1) = l.dropLast
  | [] => rfl
  | [x] => rfl
  | x :: y :: l => by rw [stp_cons2, List.map_cons, stp_fst (y :: l), List.dropLast_cons₂]
theorem getLastD_ne {y : Str} {l : List Str} (a b : Str) : (y :: l).getLastD a = (y :: l).getLastD b := by
  rw [List.getLastD_cons, List.getLastD_cons]
theorem stp_count_le {l : List Str} (hn : l.Nodup) (q : Str × Str) : (stp l).count q ≤ 1 := by
  have : (stp l).Nodup := by
    have e : ((stp l).map (·.1)).Nodup := by
      rw [stp_fst]
      exact hn.sublist (List.dropLast_sublist _)
    exact List.Pairwise.imp (fun h z => h (by rw [z])) (List.pairwise_map.mp e)
  exact List.nodup_iff_count.mp this q
theorem stp_not_both {l : List Str} (hn : l.Nodup) {a b : Str} (h1 : (a, b) ∈ stp l) (h2 : (b, a) ∈ stp l) : False := by
  obtain ⟨i, e1, e2⟩ := stp_mem.mp h1
  obtain ⟨j, e3, e4⟩ := stp_mem.mp h2
  have hi := (List.getElem?_eq_some_iff.mp e2).1
  have hj := (List.getElem?_eq_some_iff.mp e4).1
  have a1 := (List.getElem?_inj (by omega) hn).mp (e2.trans e3.symm)
  have a2 := (List.getElem?_inj (by omega) hn).mp (e1.trans e4.symm)
  omega
section
variable {hs : List Str} {ps : Prs} {fr : Str → Str → Option Str} {way : Str → Str → List Str}
/-- over, and back -/
theorem Ways.row_count (T : Tree hs ps) (W : Ways hs ps fr way) {a b : Str} (hab : Adj ps a b) : ∀ (l : List Str) (x : Str), Row ps (x :: l) → (stp (x :: l)).count (a, b) + (bey fr a b x).toNat = (stp (x :: l)).count (b, a) + (bey fr a b ((x :: l).getLastD x)).toNat
  | [], x, _ => rfl
  | y :: l, x, h => by
    have ih := Ways.row_count T W hab l y h.tail
    have ha : Adj ps x y := h 0 x y rfl rfl
    rw [stp_cons2, List.count_cons, List.count_cons, show (x :: y :: l).getLastD x = (y :: l).getLastD y from by rw [List.getLastD_cons]; exact getLastD_ne _ _]
    have hne : a ≠ b := fun z => T.irr (z ▸ hab : Adj ps b b)
    rcases W.side T hab ha with ⟨e, n1, n2⟩ | ⟨e, b1, b2⟩ | ⟨e, b1, b2⟩
    · rw [e]
      have m1 : ((x, y) == (a, b)) = false := beq_eq_false_iff_ne.mpr n1
      have m2 : ((x, y) == (b, a)) = false := beq_eq_false_iff_ne.mpr n2
      rw [m1, m2]
      simpa using ih
    · have m1 : ((x, y) == (a, b)) = true := beq_iff_eq.mpr e
      have m2 : ((x, y) == (b, a)) = false := beq_eq_false_iff_ne.mpr (fun z => by rw [e] at z; injection z with z1 z2; exact hne z1)
      rw [m1, m2, b1]
      rw [b2] at ih
      simp at ih ⊢
      omega
    · have m1 : ((x, y) == (a, b)) = false := beq_eq_false_iff_ne.mpr (fun z => by rw [e] at z; injection z with z1 z2; exact hne z1.symm)
      have m2 : ((x, y) == (b, a)) = true := beq_iff_eq.mpr e
      rw [m1, m2, b1]
      rw [b2] at ih
      simp at ih ⊢
      omega
theorem Ways.way_count (T : Tree hs ps) (W : Ways hs ps fr way) {a b x y : Str} (hab : Adj ps a b) (hx : x ∈ hs) (hy : y ∈ hs) : (stp (way x y)).count (a, b) = if !bey fr a b x && bey fr a b y then 1 else 0 := by
  have P := W.pth x hx y hy
  obtain ⟨l, e, q⟩ := W.tail_last hx hy
  have hr := P.row (W.rt y hy)
  have hn := P.nodup (W.rt y hy).none
  rw [e] at hr hn ⊢
  have k := W.row_count T hab l x hr
  have : (x :: l).getLastD x = y := by
    rw [List.getLastD_eq_getLast?, q]
    rfl
  rw [this] at k
  have c1 := stp_count_le hn (a, b)
  have c2 := stp_count_le hn (b, a)
  have c3 : ¬ (0 < (stp (x :: l)).count (a, b) ∧ 0 < (stp (x :: l)).count (b, a)) := fun z => stp_not_both hn (List.count_pos_iff.mp z.1) (List.count_pos_iff.mp z.2)
  cases h1 : bey fr a b x <;> cases h2 : bey fr a b y <;> rw [h1, h2] at k <;> simp at k ⊢ <;> omega
end
/-- how often one comes to what is so, from what is not -/
def ups (B : Str → Bool) : Str → List Str → Nat
  | _, [] => 0
  | x, y :: l => (if !B x && B y then 1 else 0) + ups B y l
theorem ups_snoc (B : Str → Bool) (z : Str) : ∀ (l : List Str) (x : Str), ups B x (l ++ [z]) = ups B x l + (if !B (l.getLastD x) && B z then 1 else 0)
  | [], x => by simp [ups]
  | y :: l, x => by
    rw [List.cons_append, ups, ups, ups_snoc B z l y, List.getLastD_cons]
    omega
theorem ups_map (B : Str → Bool) (f : Str → Str) : ∀ (l : List Str) (x : Str), ups B (f x) (l.map f) = ups (fun z => B (f z)) x l
  | [], x => rfl
  | y :: l, x => by rw [List.map_cons, ups, ups, ups_map B f l y]
theorem ups_congr {A B : Str → Bool} : ∀ (l : List Str) (x : Str), A x = B x → (∀ y ∈ l, A y = B y) → ups A x l = ups B x l
  | [], _, _, _ => rfl
  | y :: l, x, h, k => by rw [ups, ups, h, k y List.mem_cons_self, ups_congr l y (k y List.mem_cons_self) (fun z hz => k z (List.mem_cons_of_mem _ hz))]
theorem Ways.wk_count {hs : List Str} {ps : Prs} {fr : Str → Str → Option Str} {way : Str → Str → List Str} (T : Tree hs ps) (W : Ways hs ps fr way) {a b : Str} (hab : Adj ps a b) : ∀ (l : List Str) (x : Str), x ∈ hs → (∀ y ∈ l, y ∈ hs) → (stp (x :: wkFrom way x l)).count (a, b) = ups (bey fr a b) x l
  | [], _, _, _ => rfl
  | h :: t, x, hx, hl => by
    have hh := hl h List.mem_cons_self
    have ih := Ways.wk_count T W hab t h hh (fun x hx => hl x (List.mem_cons_of_mem _ hx))
    obtain ⟨l, e, q⟩ := W.tail_last hx hh
    have wc := W.way_count T hab hx hh
    obtain ⟨Y, eY⟩ := List.getLast?_eq_some_iff.mp q
    have e2 : x :: wkFrom way x (h :: t) = Y ++ h :: wkFrom way h t := by
      rw [wkFrom, e]
      show (x :: l) ++ wkFrom way h t = _
      rw [eY, List.append_assoc]
      rfl
    rw [e2, stp_app, List.count_append, ih, ← eY, ← e, wc, ups]
/-- the walk is a row -/
theorem Ways.wk_row {hs : List Str} {ps : Prs} {fr : Str → Str → Option Str} {way : Str → Str → List Str} (T : Tree hs ps) (W : Ways hs ps fr way) : ∀ (l : List Str) (x : Str), x ∈ hs → (∀ y ∈ l, y ∈ hs) → ∀ q ∈ stp (x :: wkFrom way x l), Adj ps q.1 q.2
  | [], _, _, _, q, hq => absurd hq (by simp [stp, wkFrom])
  | h :: t, x, hx, hl, q, hq => by
    have hh := hl h List.mem_cons_self
    obtain ⟨l, e, z⟩ := W.tail_last hx hh
    obtain ⟨Y, eY⟩ := List.getLast?_eq_some_iff.mp z
    have e2 : x :: wkFrom way x (h :: t) = Y ++ h :: wkFrom way h t := by
      rw [wkFrom, e]
      show (x :: l) ++ wkFrom way h t = _
      rw [eY, List.append_assoc]
      rfl
    rw [e2, stp_app, List.mem_append, ← eY, ← e] at hq
    rcases hq with hq | hq
    · exact stp_adj ((W.pth x hx h hh).row (W.rt h hh)) q hq
    · exact Ways.wk_row T W t h hh (fun x hx => hl x (List.mem_cons_of_mem _ hx)) q hq
theorem ups_back (B : Str → Bool) : ∀ (l : List Str) (x : Str), ups B x l + (B x).toNat = ups (fun z => !B z) x l + (B (l.getLastD x)).toNat
  | [], x => rfl
  | y :: l, x => by
    have ih := ups_back B l y
    rw [ups, ups, List.getLastD_cons]
    cases h1 : B x <;> cases h2 : B y <;> rw [h2] at ih <;> simp at ih ⊢ <;> omega
/-! ### what a row is seen as -/
/-- the sign of x from a -/
def sgn (fr : Str → Str → Option Str) (a x : Str) : Str := (fr x a).getD a
section
variable {hs : List Str} {ps : Prs} {fr : Str → Str → Option Str} {way : Str → Str → List Str}
theorem Ways.some_ne (T : Tree hs ps) (W : Ways hs ps fr way) {a x : Str} (ha : a ∈ hs) (hx : x ∈ hs) (h : a ≠ x) : ∃ y, fr x a = some y ∧ Adj ps a y := by
  have P := W.pth a ha x hx
  generalize way a x = l at P
  cases P with
  | nil => exact absurd rfl h
  | cons e p => exact ⟨_, e, (W.rt x hx).adj _ _ e⟩
theorem Ways.sgn_self (W : Ways hs ps fr way) {a : Str} (ha : a ∈ hs) : sgn fr a a = a := by
  unfold sgn
  rw [(W.rt a ha).none]
  rfl
theorem Ways.sgn_ne (T : Tree hs ps) (W : Ways hs ps fr way) {a x : Str} (ha : a ∈ hs) (hx : x ∈ hs) : sgn fr a x = a ↔ x = a := by
  constructor
  · intro h
    by_cases e : x = a
    · exact e
    · obtain ⟨y, h1, h2⟩ := W.some_ne T ha hx (fun z => e z.symm)
      unfold sgn at h
      rw [h1] at h
      have h : y = a := h
      rw [h] at h2
      exact (T.irr h2).elim
  · rintro rfl
    exact W.sgn_self hx
theorem Ways.sgn_bey (T : Tree hs ps) (W : Ways hs ps fr way) {a b x : Str} (ha : a ∈ hs) (hx : x ∈ hs) (hab : Adj ps a b) : decide (sgn fr a x = b) = bey fr a b x := by
  have hne : a ≠ b := fun z => T.irr (z ▸ hab : Adj ps b b)
  unfold bey sgn
  cases h : fr x a with
  | none => simp [hne]
  | some y => simp
/-- from the one before it -/
theorem Ways.sgn_step (T : Tree hs ps) (W : Ways hs ps fr way) {a u v : Str} (ha : a ∈ hs) (h : Adj ps u v) (hv : v ≠ a) : sgn fr a v = if u = a then v else sgn fr a u := by
  have := W.step T h ha
  rw [if_neg (fun z => hv z.symm)] at this
  unfold sgn
  rw [this]
  by_cases e : u = a
  · rw [if_pos e, if_pos e.symm]
    rfl
  · rw [if_neg e, if_neg (fun z => e z.symm)]
theorem Ways.sgn_mem (T : Tree hs ps) (W : Ways hs ps fr way) {a x : Str} (ha : a ∈ hs) (hx : x ∈ hs) : sgn fr a x ∈ hs := by
  unfold sgn
  cases h : fr x a with
  | none => exact ha
  | some y => exact (T.mem ((W.rt x hx).adj _ _ h)).2
end
def cstep (a : Str) (acc : List Str) (s : Str) : List Str := if s = a ∨ acc.getLast? ≠ some s then acc ++ [s] else acc
def comp (a : Str) (l : List Str) : List Str := l.foldl (cstep a) []
theorem comp_snoc (a : Str) (l : List Str) (s : Str) : comp a (l ++ [s]) = cstep a (comp a l) s := by
  unfold comp
  rw [List.foldl_append]
  rfl
theorem cstep_last (a : Str) (acc : List Str) (s : Str) : (cstep a acc s).getLast? = some s := by
  unfold cstep
  split
  · simp
  · rename_i h
    have : ¬ acc.getLast? ≠ some s := fun z => h (.inr z)
    exact Classical.not_not.mp this
theorem snoc_ind {α : Type} {P : List α → Prop} (h0 : P []) (hs : ∀ l x, P l → P (l ++ [x])) : ∀ l, P l := by
  intro l
  rw [← List.reverse_reverse l]
  induction l.reverse with
  | nil => exact h0
  | cons x r ih => rw [List.reverse_cons]; exact hs _ _ ih
theorem comp_last (a : Str) (l : List Str) : (comp a l).getLast? = l.getLast? := by
  refine snoc_ind (P := fun l => (comp a l).getLast? = l.getLast?) rfl (fun l x _ => ?_) l
  rw [comp_snoc, cstep_last]
  simp
theorem comp_head (a : Str) (l : List Str) : (comp a l).head? = l.head? := by
  refine snoc_ind (P := fun l => (comp a l).head? = l.head?) rfl (fun l x ih => ?_) l
  rw [comp_snoc]
  unfold cstep
  cases l with
  | nil => simp [comp]
  | cons y r =>
    cases hc : comp a (y :: r) with
    | nil => rw [hc] at ih; cases ih
    | cons z t =>
      rw [hc] at ih
      split <;> exact ih
theorem comp_ne {a : Str} {l : List Str} (h : l ≠ []) : comp a l ≠ [] := by
  intro z
  have := comp_head a l
  rw [z] at this
  cases l with
  | nil => exact h rfl
  | cons y r => cases this
theorem comp_len (a : Str) (l : List Str) : (comp a l).length ≤ l.length := by
  refine snoc_ind (P := fun l => (comp a l).length ≤ l.length) (Nat.le_refl _) (fun l x ih => ?_) l
  rw [comp_snoc]
  unfold cstep
  split
  · simp; exact ih
  · simp; omega
theorem comp_mem {a : Str} {l : List Str} {z : Str} (h : z ∈ comp a l) : z ∈ l := by
  revert h
  refine snoc_ind (P := fun l => z ∈ comp a l → z ∈ l) (fun h => h) (fun l x ih h => ?_) l
  rw [comp_snoc] at h
  unfold cstep at h
  split at h
  · rcases List.mem_append.mp h with h | h
    · exact List.mem_append_left _ (ih h)
    · exact List.mem_append_right _ h
  · exact List.mem_append_left _ (ih h)
theorem comp_self (a : Str) (l : List Str) : (comp a l).count a = l.count a := by
  refine snoc_ind (P := fun l => (comp a l).count a = l.count a) rfl (fun l x ih => ?_) l
  rw [comp_snoc, List.count_append]
  unfold cstep
  split
  · rw [List.count_append, ih]
  · rename_i h
    have : x ≠ a := fun z => h (.inl z)
    rw [ih, List.count_singleton]
    simp [this]
theorem comp_adj (a : Str) (l : List Str) : ∀ i x, (comp a l)[i]? = some x → (comp a l)[i + 1]? = some x → x = a := by
  refine snoc_ind (P := fun l => ∀ i x, (comp a l)[i]? = some x → (comp a l)[i + 1]? = some x → x = a) (fun i x h => by simp [comp] at h) (fun l y ih => ?_) l
  rw [comp_snoc]
  unfold cstep
  split
  · rename_i h
    intro i x h1 h2
    have lt : i + 1 < (comp a l ++ [y]).length := (List.getElem?_eq_some_iff.mp h2).1
    rw [List.length_append, List.length_singleton] at lt
    by_cases e : i + 1 < (comp a l).length
    · rw [List.getElem?_append_left (by omega)] at h1
      rw [List.getElem?_append_left e] at h2
      exact ih i x h1 h2
    · have e2 : i + 1 = (comp a l).length := by omega
      rw [List.getElem?_append_left (by omega)] at h1
      rw [List.getElem?_append_right (by omega), e2, Nat.sub_self] at h2
      have h2 : y = x := by simpa using h2
      subst h2
      rcases h with h | h
      · exact h
      · refine absurd ?_ h
        rw [List.getLast?_eq_getElem?, ← e2]
        exact h1
  · exact ih
theorem comp_count {a b : Str} (hab : b ≠ a) (s : Str) (l : List Str) : (comp a (s :: l)).count b = (if s = b then 1 else 0) + ups (fun z => decide (z = b)) s l := by
  refine snoc_ind (P := fun l => (comp a (s :: l)).count b = (if s = b then 1 else 0) + ups (fun z => decide (z = b)) s l) ?_ (fun l x ih => ?_) l
  · have : comp a [s] = [s] := by
      unfold comp
      show cstep a [] s = [s]
      unfold cstep
      rw [if_pos (.inr (by simp))]
      rfl
    rw [this, List.count_singleton]
    by_cases e : s = b <;> simp [e, ups]
  · rw [← List.cons_append, comp_snoc, ups_snoc]
    have hl := comp_last a (s :: l)
    have e1 : (s :: l).getLast? = some (l.getLastD s) := by
      rw [List.getLast?_cons]
      cases l with
      | nil => rfl
      | cons y r => simp [List.getLastD_eq_getLast?]
    rw [e1] at hl
    unfold cstep
    rw [hl]
    generalize l.getLastD s = z at *
    by_cases h : x = a ∨ some z ≠ some x
    · rw [if_pos h, List.count_append, ih, List.count_singleton]
      by_cases e : x = b
      · subst e
        have : z ≠ x := by
          rcases h with h | h
          · exact absurd h hab
          · exact fun q => h (by rw [q])
        simp [this]
        omega
      · simp [e]
    · rw [if_neg h, ih]
      have : z = x := Option.some.inj (Classical.not_not.mp fun q => h (.inr q))
      subst this
      simp
/-- closed to a ring -/
def ringd (a : Str) (l : List Str) : List Str := if 1 < l.length ∧ l.getLast? = l.head? ∧ l.head? ≠ some a then l.dropLast else l
theorem ringd_self {a : Str} (l : List Str) (h : (1 : Nat) ≤ l.length) : (ringd a l).count a = l.count a := by
  unfold ringd
  split
  · rename_i h1
    obtain ⟨_, h2, h3⟩ := h1
    cases hl : l.getLast? with
    | none => rw [List.getLast?_eq_none_iff] at hl; rw [hl] at h; exact absurd h (by decide)
    | some z =>
      obtain ⟨Y, e⟩ := List.getLast?_eq_some_iff.mp hl
      rw [hl] at h2
      rw [← h2] at h3
      have : z ≠ a := fun q => h3 (by rw [q])
      rw [e, List.dropLast_concat, List.count_append, List.count_singleton]
      simp [this]
  · rfl
theorem ringd_count {a b s : Str} {l : List Str} (hab : b ≠ a) (hn : ringd a (comp a (s :: l)) ≠ [b]) : (ringd a (comp a (s :: l))).count b = ups (fun z => decide (z = b)) s (l ++ [s]) := by
  have h0 := comp_head a (s :: l)
  have h1 := comp_last a (s :: l)
  have e1 : (s :: l).getLast? = some (l.getLastD s) := by
    rw [List.getLast?_cons]
    cases l with
    | nil => rfl
    | cons y r => simp [List.getLastD_eq_getLast?]
  rw [e1] at h1
  have hc := comp_count hab s l
  rw [ups_snoc]
  have h0 : (comp a (s :: l)).head? = some s := h0
  generalize comp a (s :: l) = c at *
  generalize l.getLastD s = z at *
  unfold ringd at hn ⊢
  obtain ⟨Y, e⟩ := List.getLast?_eq_some_iff.mp h1
  split at hn
  · rename_i h
    rw [if_pos h]
    obtain ⟨h2, h3, h4⟩ := h
    rw [h1, h0] at h3
    injection h3 with h3
    subst h3
    rw [e, List.count_append, List.count_singleton] at hc
    rw [e, List.dropLast_concat]
    by_cases q : z = b
    · subst q
      simp at hc ⊢
      omega
    · simp [q] at hc ⊢
      omega
  · rename_i h
    rw [if_neg h]
    rw [hc]
    by_cases q : s = b
    · subst q
      have : z ≠ s := fun w => by
        subst w
        refine h ⟨?_, h1.trans h0.symm, by rw [h0]; exact fun r => hab (Option.some.inj r)⟩
        cases Y with
        | nil => exact absurd e hn
        | cons y r => rw [e]; simp
      simp [this]
      omega
    · simp [q]
theorem ringd_adj {a s : Str} {l : List Str} : ∀ i x, (ringd a (comp a (s :: l)))[i]? = some x → (ringd a (comp a (s :: l)) ++ [s])[i + 1]? = some x → x = a ∨ (ringd a (comp a (s :: l))).length ≤ 1 := by
  have h0 : (comp a (s :: l)).head? = some s := comp_head a (s :: l)
  have hadj := comp_adj a (s :: l)
  generalize comp a (s :: l) = c at *
  intro i x h1 h2
  unfold ringd at *
  split at h1
  · rename_i h
    rw [if_pos h] at h2 ⊢
    obtain ⟨g2, g3, g4⟩ := h
    rw [h0] at g3
    obtain ⟨Y, e⟩ := List.getLast?_eq_some_iff.mp g3
    rw [e, List.dropLast_concat] at h1 h2
    rw [← e] at h2
    refine .inl (hadj i x ?_ h2)
    rw [e, List.getElem?_append_left (List.getElem?_eq_some_iff.mp h1).1]
    exact h1
  · rename_i h
    rw [if_neg h] at h2 ⊢
    have li := (List.getElem?_eq_some_iff.mp h1).1
    by_cases lt : i + 1 < c.length
    · rw [List.getElem?_append_left lt] at h2
      exact .inl (hadj i x h1 h2)
    · have e2 : i + 1 = c.length := by omega
      rw [List.getElem?_append_right (by omega), e2, Nat.sub_self] at h2
      have h2 : s = x := by simpa using h2
      subst h2
      by_cases e3 : 1 < c.length
      · refine .inl (Classical.byContradiction fun ne => h ⟨e3, ?_, by rw [h0]; exact fun r => ne (Option.some.inj r)⟩)
        rw [h0, List.getLast?_eq_getElem?, show c.length - 1 = i by omega]
        exact h1
      · exact .inr (by omega)
theorem ringd_head {a s : Str} {l : List Str} : (ringd a (comp a (s :: l))).head? = some s ∧ 1 ≤ (ringd a (comp a (s :: l))).length ∧ (comp a (s :: l)).take (ringd a (comp a (s :: l))).length = ringd a (comp a (s :: l)) := by
  have h0 : (comp a (s :: l)).head? = some s := comp_head a (s :: l)
  generalize comp a (s :: l) = c at *
  cases c with
  | nil => cases h0
  | cons x r =>
    unfold ringd
    split
    · rename_i h
      obtain ⟨g1, _⟩ := h
      cases r with
      | nil => simp at g1
      | cons y r => 
        refine ⟨h0, by simp, ?_⟩
        rw [List.dropLast_eq_take, List.length_take]
        congr 1
        simp
    · exact ⟨h0, by simp, by rw [List.take_length]⟩
section
variable {hs : List Str} {ps : Prs} {fr : Str → Str → Option Str} {way : Str → Str → List Str}
theorem Ways.way_1 (W : Ways hs ps fr way) {a x : Str} (ha : a ∈ hs) (hx : x ∈ hs) (h : x ≠ a) : ∃ w, way a x = a :: sgn fr a x :: w := by
  have P := W.pth a ha x hx
  generalize way a x = l at P
  cases P with
  | nil => exact absurd rfl h
  | cons e p =>
    obtain ⟨t, rfl⟩ := p.head
    refine ⟨t, ?_⟩
    unfold sgn
    rw [e]
    rfl
theorem row_of {l : List Str} (h : ∀ q ∈ stp l, Adj ps q.1 q.2) : Row ps l := fun i a b e1 e2 => h (a, b) (stp_mem.mpr ⟨i, e1, e2⟩)
/-- a round's walk: there as often as back -/
theorem Ways.ring_back (T : Tree hs ps) (W : Ways hs ps fr way) {a b r0 : Str} {rt : List Str} (hab : Adj ps a b) (hin : ∀ r ∈ r0 :: rt, r ∈ hs) : (stp (r0 :: wkFrom way r0 (rt ++ [r0]))).count (b, a) = (stp (r0 :: wkFrom way r0 (rt ++ [r0]))).count (a, b) := by
  have h0 := hin r0 List.mem_cons_self
  have h1 : ∀ y ∈ rt ++ [r0], y ∈ hs := fun y hy => by
    rcases List.mem_append.mp hy with hy | hy
    · exact hin y (List.mem_cons_of_mem _ hy)
    · rw [List.mem_singleton.mp hy]; exact h0
  have k := W.row_count T hab _ r0 (row_of (W.wk_row T _ r0 h0 h1))
  have e := W.wk_last _ r0 h0 h1
  rw [List.getLastD_eq_getLast?, e] at k
  simp at k
  omega
theorem Ways.ring_ups (T : Tree hs ps) (W : Ways hs ps fr way) {a b r0 : Str} {rt : List Str} (hab : Adj ps a b) (hin : ∀ r ∈ r0 :: rt, r ∈ hs) : (stp (r0 :: wkFrom way r0 (rt ++ [r0]))).count (a, b) = ups (bey fr a b) r0 (rt ++ [r0]) := by
  have h0 := hin r0 List.mem_cons_self
  refine W.wk_count T hab _ r0 h0 fun y hy => ?_
  rcases List.mem_append.mp hy with hy | hy
  · exact hin y (List.mem_cons_of_mem _ hy)
  · rw [List.mem_singleton.mp hy]; exact h0
/-- a sign stands as often as the path is gone -/
theorem Ways.sign_count (T : Tree hs ps) (W : Ways hs ps fr way) {a b r0 : Str} {rt : List Str} (ha : a ∈ hs) (hab : Adj ps a b) (hin : ∀ r ∈ r0 :: rt, r ∈ hs) (hn : ringd a (comp a ((r0 :: rt).map (sgn fr a))) ≠ [b]) :
    (ringd a (comp a ((r0 :: rt).map (sgn fr a)))).count b = (stp (r0 :: wkFrom way r0 (rt ++ [r0]))).count (a, b) := by
  have hne : b ≠ a := fun z => T.irr (z ▸ hab : Adj ps a a)
  rw [W.ring_ups T hab hin, List.map_cons, ringd_count hne hn]
  have : rt.map (sgn fr a) ++ [sgn fr a r0] = (rt ++ [r0]).map (sgn fr a) := by rw [List.map_append]; rfl
  rw [this, ups_map]
  refine ups_congr _ _ (W.sgn_bey T ha (hin _ List.mem_cons_self) hab) fun y hy => ?_
  refine W.sgn_bey T ha ?_ hab
  rcases List.mem_append.mp hy with hy | hy
  · exact hin y (List.mem_cons_of_mem _ hy)
  · rw [List.mem_singleton.mp hy]; exact hin _ List.mem_cons_self
theorem Ways.sign_self (T : Tree hs ps) (W : Ways hs ps fr way) {a : Str} (ha : a ∈ hs) : ∀ {rs : List Str}, (∀ r ∈ rs, r ∈ hs) → (rs.map (sgn fr a)).count a = rs.count a
  | [], _ => rfl
  | r :: t, h => by
    rw [List.map_cons, List.count_cons, List.count_cons, Ways.sign_self T W ha (fun x hx => h x (List.mem_cons_of_mem _ hx))]
    have := W.sgn_ne T ha (h r List.mem_cons_self)
    by_cases e : r = a
    · rw [this.mpr e, e]
    · have n : sgn fr a r ≠ a := fun z => e (this.mp z)
      rw [beq_eq_false_iff_ne.mpr n, beq_eq_false_iff_ne.mpr e]
end
end Tr

namespace K02
open PySem PySem.Spec PyProof.Rows L2 Tr Sq Dk Exs
/-! ### ask_house, signs_from -/
abbrev sAskH : Stmt := top 28
abbrev sSigns : Stmt := top 32
def spAskH (C CN : Addr) : Sp := fun vs H Q E => ∃ (v : Addr) (x : V) (n : String) (hs : List Str) (ps : Prs) (m : VilD), vs = [.ref v, x] ∧ Vil H C v hs ps m ∧ Pl H x n ∧ (isHouse hs x = true → Q .non H) ∧ (isHouse hs x = false → ∀ d, H d = none → E (.ref CN) (some d) (upd H d (.xd [("thing", x)])))
def spSigns (C : Addr) : Sp := fun vs H Q _ => ∃ (v : Addr) (a : Str) (hs : List Str) (ps : Prs) (m : VilD) (fr : Str → Str → Option Str) (way : Str → Str → List Str), vs = [.ref v, .str a] ∧ Vil H C v hs ps m ∧ Tree hs ps ∧ Ways hs ps fr way ∧ a ∈ hs ∧ hs.length ≤ 30 ∧
  ∀ (d : Addr) (ks : List Str) (H' : Hp), Evl.Ex H H' → H d = none → H' d = some (.dK (tab ks fun x => .str (sgn fr a x))) → (∀ x ∈ hs, x ∈ ks) → Q (.ref d) H'
section
variable {P : Program} {w : World} {K : PySem.W.Frag} {mg : Str → Option Value} {base : Heap}
theorem scAskH : FnScope ["village", "thing"] ["village", "thing"] (defScope sAskH) := ⟨rfl, rfl, rfl, by decide +kernel, rfl, by decide +kernel, by decide +kernel⟩
theorem ok_askH {C CN f f1 fL : Addr} {fd fdL : FuncData} (F : FnP K "ask_house" sAskH f fd) (T1 : Err P w K mg base "NoHouse" "thing" CN f1) (GL : FnOk P w K mg base CX0 2 fL fdL ["village", "thing"] (spIsHouse C)) (bL : L2.Binds K fdL ["village", "thing"] []) (kL : PySem.W.keepIn K (.ref fL) = true) (gL : mg "is_house" = some (.ref fL)) :
    FnOk P w K mg base (L2.CX P w) 3 f fd ["village", "thing"] (spAskH C CN) := by
  refine F.ok scAskH (fun vs H Q E h => ?_) (fun cdv A outer s H vs Q E hr h => ?_)
  · obtain ⟨v, x, n, hs, ps, m, rfl, _⟩ := h
    rfl
  · obtain ⟨v, x, n, hs, ps, m, rfl, Vh, hx, k1, k2⟩ := h
    refine ⟨_, pss_one (ps_if (pt_not (pt_val (pe_call GL hr rfl gL kL bL .nil pass0 (pa_cons (pv 0) (pa_cons (pv 1) pa_nil))))) (pss_one (ps_raise1 rfl T1 (hr.mono (by decide)) (takes_of rfl rfl rfl rfl) rfl (pv 1))) pss_nil), ?_⟩
    refine ⟨_, rfl, _, rfl, v, x, n, hs, ps, m, rfl, Vh, hx, _, rfl, ?_⟩
    cases hi : isHouse hs x with
    | true => exact iteF (k1 hi)
    | false => exact iteT ⟨_, rfl, raiseP fun d hd => k2 hi d hd⟩
theorem scSigns : FnScope ["village", "house", "signs", "far", "back"] ["village", "house"] (defScope sSigns) := ⟨rfl, rfl, rfl, by decide +kernel, rfl, by decide +kernel, by decide +kernel⟩
theorem cutV_tl1 {x : V} {xs : List V} : cutV (x :: xs) (some 1) none = xs := by
  unfold cutV
  rw [show (1 : Int) = ((1 : Nat) : Int) from rfl, HT.sIx_nat, HT.sIx_none, show min 1 (x :: xs).length = 1 by rw [List.length_cons]; omega]
  show (List.drop 1 (x :: xs)).take _ = xs
  rw [List.drop_one, List.tail_cons, List.take_of_length_le (by rw [List.length_cons]; omega)]
theorem ok_signs {C f fR : Addr} {fd fdR : FuncData} (F : FnP K "signs_from" sSigns f fd) (GR : FnOk P w K mg base CX0 2 fR fdR ["village", "root"] (spRooted C)) (bR : L2.Binds K fdR ["village", "root"] []) (kR : PySem.W.keepIn K (.ref fR) = true) (gR : mg "rooted" = some (.ref fR)) :
    FnOk P w K mg base CX0 3 f fd ["village", "house"] (spSigns C) := by
  refine F.ok scSigns (fun vs H Q E h => ?_) (fun cdv A outer s H vs Q E hr h => ?_)
  · obtain ⟨v, a, hs, ps, m, fr, way, rfl, _⟩ := h
    rfl
  · obtain ⟨v, a, hs, ps, m, fr, way, rfl, Vh, T, W, ha, h30, k⟩ := h
    refine ⟨_, PSs.nox (pss_cons (ps_set (i := 2) scSigns.nd rfl (.inl rfl) (pe_disp (pps_cons (pv 1) (pv 1) pps_nil) rfl rfl (by simp) (by simp)))
      (pss_cons (ps_for PassesOwn.never rfl (pi_list (pe_slice sl_list (pe_call GR hr rfl gR kR bR .nil pass0 (pa_cons (pv 0) (pa_cons (pv 1) pa_nil))) (po_some pe_int) po_none)) (pg_tup rfl (pgs_cons (pg_name (i := 3) scSigns.nd rfl (.inl rfl)) (pgs_cons (pg_name (i := 4) scSigns.nd rfl (.inl rfl)) pgs_nil)))
        (pss_one (ps_dput (hu_of hr) (pv 2) (pv 3) (pe_ifExp (pt_cmpR op_eq (pv 4) (pv 1) (nomark _)) (pv 3) (pe_dget (hu_of hr) (pv 2) (pv 4) (fun _ _ => rfl))) rfl)))
      (pss_one (ps_ret (pv 2))))), ?_⟩
    refine fun d hd => ⟨_, rfl, _, rfl, upd_same, [(Sum.inr a, .str a)], rfl, (by show 1 ≤ 15; decide), ?_⟩
    have e0 : upd (upd H d (.dK [])) d (.dK (mergeK [] [(Sum.inr a, .str a)])) = upd H d (.dK (tab [a] fun x => .str (sgn fr a x))) := by
      rw [L2.upd_upd]
      show upd H d (.dK [(Sum.inr a, .str a)]) = upd H d (.dK [(Sum.inr a, .str (sgn fr a a))])
      rw [W.sgn_self ha]
    rw [e0]
    have x0 : Evl.Ex H (upd H d (.dK (tab [a] fun x => .str (sgn fr a x)))) := Evl.Ex.new hd
    have g0 : upd H d (.dK (tab [a] fun x => .str (sgn fr a x))) d = some (.dK (tab [a] fun x => .str (sgn fr a x))) := upd_same
    generalize upd H d (.dK (tab [a] fun x => .str (sgn fr a x))) = H0 at x0 g0
    refine ⟨_, rfl, _, rfl, v, a, hs, ps, m, fr a, rfl, Vh.ex x0, T, ha, h30, W.rt a ha, fun q M H1 x1 hq hq1 hM hMf hall hMl hM0 hMb => ?_⟩
    obtain ⟨t0, M', rfl⟩ : ∃ t0 M', M = t0 :: M' := by
      cases M with
      | nil => cases hM0
      | cons t0 M' => exact ⟨t0, M', rfl⟩
    have ht0 : t0.2 = (a, none) := Option.some.inj hM0
    refine ⟨_, rfl, q, _, rfl, SqL.of hq1, fun c hc => ?_⟩
    rw [show cutV (lvRefs (t0 :: M')) (some 1) none = lvRefs M' from cutV_tl1]
    have x2 : Evl.Ex H1 (upd H1 c (.lst (lvRefs M'))) := Evl.Ex.new hc
    have c2 : upd H1 c (.lst (lvRefs M')) c = some (.lst (lvRefs M')) := upd_same
    have g1 := x1 _ _ g0
    have hcd : c ≠ d := fun z => by rw [z, g1] at hc; cases hc
    have g2 := x2 _ _ g1
    generalize upd H1 c (.lst (lvRefs M')) = H2 at x2 c2 g2
    refine ⟨c, rfl, ⟨_, SqL.of c2⟩, ?_⟩
    have hM2 : LvAt H2 (t0 :: M') := hM.ex x2
    have xH : Evl.Ex H H2 := (x0.trans x1).trans x2
    refine for_it (walk_list (xs := lvRefs M')) (fun i σ H' => ∃ (v3 v4 : Option V) (ks : List Str), σ = [some (.ref v), some (.str a), some (.ref d), v3, v4] ∧ Evl.Ex H H' ∧ (∀ b o, b ≠ d → H2 b = some o → H' b = some o) ∧ H' d = some (.dK (tab ks fun x => .str (sgn fr a x))) ∧ (∀ t ∈ (t0 :: M').take (i + 1), t.2.1 ∈ ks) ∧ ks.length ≤ i + 1) ?_ ?_ ?_ ?_
    · refine ⟨none, none, [a], rfl, xH, fun _ _ _ h => h, g2, fun t ht => ?_, Nat.le_refl _⟩
      simp only [List.take_succ_cons, List.take_zero, List.mem_singleton] at ht
      rw [ht, ht0]
      simp
    · rintro i σ H' _ ⟨v3, v4, ks, rfl, x3, k3, _⟩
      exact SqL.of (k3 _ _ hcd c2)
    · rintro i x σ H3 H4 hi ⟨v3, v4, ks, rfl, x3, k3, e1, e2, e3⟩ ⟨rfl, hx⟩
      unfold lvRefs at hi hx
      rw [List.length_map] at hi
      obtain ⟨t, ht⟩ := getD_of hi
      rw [List.getElem?_map, ht] at hx
      cases hx
      obtain ⟨ta, far, o⟩ := t
      have tm := List.mem_of_getElem? ht
      obtain ⟨b, hb1, hb2⟩ := hMb i (far, o) (by rw [List.getElem?_map, List.getElem?_cons_succ, ht]; rfl)
      have hb1 : o = some b := hb1
      subst hb1
      obtain ⟨hf, hfm⟩ := hMf _ (List.mem_cons_of_mem _ tm)
      have hf : some b = fr a far := hf
      have hfm : far ∈ hs := hfm
      have hbk : b ∈ ks := by
        obtain ⟨p, hp, e⟩ := List.mem_map.mp hb2
        rw [← List.map_take] at hp
        obtain ⟨t', ht', rfl⟩ := List.mem_map.mp hp
        rw [← e]
        exact e2 t' ht'
      have hadj : Adj ps b far := ((W.rt a ha).adj _ _ hf.symm).symm
      have hfa : far ≠ a := fun z => by rw [z, (W.rt a ha).none] at hf; cases hf
      have hs' := W.sgn_step T ha hadj hfa
      have tad : ta ≠ d := fun z => by
        have := hM2 _ (List.mem_cons_of_mem _ tm)
        rw [z, g2] at this
        cases this
      have hat := k3 _ _ tad (hM2 _ (List.mem_cons_of_mem _ tm))
      have tk : (t0 :: M').take (i + 1 + 1) = (t0 :: M').take (i + 1) ++ [(ta, far, some b)] := by rw [List.take_add_one (i := i + 1), List.getElem?_cons_succ, ht]; rfl
      refine ⟨ta, _, rfl, SqT.of hat, rfl, _, _, rfl, _, _, rfl, rfl, _, rfl, _, rfl, rfl, ?_⟩
      refine ⟨_, rfl, ?_⟩
      have val : V.str (sgn fr a far) = if b = a then V.str far else V.str (sgn fr a b) := by
        rw [hs']
        split <;> rfl
      have last : ∀ z : V, z = .str (sgn fr a far) → ∃ (v3' v4' : Option V) (ks' : List Str), [some (V.ref v), some (V.str a), some (V.ref d), some (V.str far), some (V.str b)] = [some (V.ref v), some (V.str a), some (V.ref d), v3', v4'] ∧ Evl.Ex H (upd H4 d (.dK (putK (tab ks fun x => .str (sgn fr a x)) (Sum.inr far) z))) ∧
          (∀ b o, b ≠ d → H2 b = some o → upd H4 d (.dK (putK (tab ks fun x => .str (sgn fr a x)) (Sum.inr far) z)) b = some o) ∧ upd H4 d (.dK (putK (tab ks fun x => .str (sgn fr a x)) (Sum.inr far) z)) d = some (.dK (tab ks' fun x => .str (sgn fr a x))) ∧ (∀ t ∈ (t0 :: M').take (i + 1 + 1), t.2.1 ∈ ks') ∧ ks'.length ≤ i + 1 + 1 := by
        rintro z rfl
        by_cases hk : far ∈ ks
        · refine ⟨_, _, ks, rfl, ex_upd x3 hd, fun b o hb e => by rw [upd_ne hb]; exact k3 b o hb e, ?_, fun t' ht' => ?_, by omega⟩
          · rw [upd_same, put_old hk]
            congr 2
            exact tab_congr fun x _ => by
              show (if x = far then V.str (sgn fr a far) else V.str (sgn fr a x)) = V.str (sgn fr a x)
              split
              · rename_i e; rw [e]
              · rfl
          · rw [tk] at ht'
            rcases List.mem_append.mp ht' with ht' | ht'
            · exact e2 t' ht'
            · simp only [List.mem_singleton] at ht'
              rw [ht']; exact hk
        · refine ⟨_, _, ks ++ [far], rfl, ex_upd x3 hd, fun b o hb e => by rw [upd_ne hb]; exact k3 b o hb e, ?_, fun t' ht' => ?_, by rw [List.length_append]; simp; exact e3⟩
          · rw [upd_same, put_new hk]
            congr 2
            exact tab_congr fun x _ => by
              show (if x = far then V.str (sgn fr a far) else V.str (sgn fr a x)) = V.str (sgn fr a x)
              split
              · rename_i e; rw [e]
              · rfl
          · rw [tk] at ht'
            rcases List.mem_append.mp ht' with ht' | ht'
            · exact List.mem_append_left _ (e2 t' ht')
            · simp only [List.mem_singleton] at ht'
              rw [ht']; simp
      have room : (tab ks fun x => V.str (sgn fr a x)).length < sizeLine := by
        rw [tab_length]
        exact Nat.lt_of_le_of_lt (show ks.length ≤ 1002 by rw [List.length_cons] at hMl; omega) (by decide)
      by_cases hba : b = a
      · rw [if_pos hba] at val
        refine ite2 (fun _ => ⟨_, rfl, _, rfl, _, rfl, d, _, rfl, DPut.k (k := Sum.inr far) e1 room, last _ val.symm⟩) (fun z => absurd ?_ z)
        show decide (V.str b = V.str a) = true
        rw [hba]
        simp
      · rw [if_neg hba] at val
        refine ite2 (fun z => absurd z ?_) (fun _ => ?_)
        · show ¬ decide (V.str b = V.str a) = true
          simp [hba]
        · have g : DGet H4 d (kV (Sum.inr b)) (some (.str (sgn fr a b))) := by have := DGet.k (k := Sum.inr b) e1; rw [val_in hbk] at this; exact this
          exact ⟨_, rfl, _, rfl, d, _, rfl, g, _, rfl, _, rfl, d, _, rfl, DPut.k (k := Sum.inr far) e1 room, last _ val.symm⟩
    · rintro σ H3 ⟨v3, v4, ks, rfl, x3, k3, e1, e2, e3⟩
      have len : (lvRefs M').length = M'.length := by unfold lvRefs; rw [List.length_map]
      rw [len, List.take_of_length_le (by rw [List.length_cons]; exact Nat.le_refl _)] at e2
      refine ⟨_, rfl, k d ks H3 x3 hd e1 fun x hx => ?_⟩
      obtain ⟨t, ht, e⟩ := hall x hx
      rw [← e]
      exact e2 t ht
end
end K02

/-! an own error of two fields, raised. Law-independent. -/
namespace Exs
open PySem PySem.Spec PyProof.Rows L2
def spInit2 (C : Addr) (f g : Str) : Sp := fun vs H Q _ => ∃ (a : Addr) (v u : V), vs = [.ref a, v, u] ∧ H a = some (exo a C none) ∧ ∀ dx, H dx = none → dx ≠ a → Q .non (upd (upd (upd H dx (exd dx [(f, v)])) a (exo a C (some dx))) dx (exd dx ([(g, u), (f, v)])))
abbrev initB2 (f g : Str) (p1 p2 p3 p4 p5 p6 p7 p8 : Pos) : List Stmt := [.Assign [.Attribute (.Name "self" p1) f p2] (.Name f p3) p4, .Assign [.Attribute (.Name "self" p5) g p6] (.Name g p7) p8]
section
variable {P : Program} {w : World} {K : PySem.W.Frag} {mg : Str → Option Value} {base : Heap}
theorem ok_init2 {x f g : Str} {C fI : Addr} {fd : FuncData} {pa : Arguments} {bd : List Stmt} {sc : Scope} {p1 p2 p3 p4 p5 p6 p7 p8 : Pos} (oc : OexC K C) (no : PySem.W.findIn K (.ref C) f = some none) (no2 : PySem.W.findIn K (.ref C) g = some none) (F : FunD K "__init__" x pa bd sc [] [] fI fd) (hb : bd = initB2 f g p1 p2 p3 p4 p5 p6 p7 p8)
    (S : FnScope ["self", f, g] ["self", f, g] sc) (v0 : sc.names.lookup ("self" : Str) = some NameKind.local) (v1 : sc.names.lookup f = some NameKind.local) (v2 : sc.names.lookup g = some NameKind.local) (hd : (f == ("__debug__" : Str)) = false) (hc : (f == ("__classdict__" : Str)) = false) (hd2 : (g == ("__debug__" : Str)) = false) (hc2 : (g == ("__classdict__" : Str)) = false) :
    FnOk P w K mg base CX0 1 fI fd ["self", f, g] (spInit2 C f g) := by
  subst hb
  refine F.ok S (fun vs H Q E h => ?_) (fun cdv A outer s H vs Q E hr h => ?_)
  · obtain ⟨a, v, u, rfl, _⟩ := h
    rfl
  · obtain ⟨a, v, u, rfl, ha, k⟩ := h
    refine ⟨_, PSs.nox (pss_cons (ps_ost (pe_var (i := 0) rfl (.inl v0)) (pe_var (i := 1) rfl (.inl v1) hd hc)) (pss_one (ps_ost (pe_var (i := 0) rfl (.inl v0)) (pe_var (i := 2) rfl (.inl v2) hd2 hc2)))), ?_⟩
    refine ⟨_, rfl, _, rfl, a, C, rfl, oc, no, .inl ⟨ha, fun dx n ne => ?_⟩⟩
    refine ⟨_, rfl, _, rfl, a, C, rfl, oc, no2, .inr ⟨dx, [(f, v)], upd_same, by rw [upd_ne ne, upd_same], by show 1 ≤ 900; decide, ?_⟩⟩
    exact k dx n ne
structure Err2 (P : Program) (w : World) (K : PySem.W.Frag) (mg : Str → Option Value) (base : Heap) (x f g : Str) (C fI : Addr) : Prop where
  c : ErrC K C fI f
  no2 : PySem.W.findIn K (.ref C) g = some none
  ne : f ≠ g
  gl : mg x = some (.ref C)
  fn : ∃ fd, FnOk P w K mg base CX0 1 fI fd ["self", f, g] (spInit2 C f g) ∧ L2.Binds K fd ["self", f, g] []
end
def RaiseP2 (C : Addr) (f g : Str) (W : XK) (v u : V) (H1 : Hp) : Prop := [v, u].length ≤ 1000 ∧ ∀ a, H1 a = none → spInit2 C f g (.ref a :: ([v, u] ++ [])) (upd H1 a (exo a C none))
  (fun u H2 => u = .non ∧ ∃ (d : Addr) (fs : List (Str × V)), H2 a = some (exo a C (some d)) ∧ H2 d = some (exd d fs) ∧ H1 d = none ∧ W (.ref C) (some d) (upd (del H2 a) d (.xd fs))) (fun _ _ _ => False)
theorem raiseP2 {C : Addr} {f g : Str} {W : XK} {v u : V} {H1 : Hp} (h : ∀ d, H1 d = none → W (.ref C) (some d) (upd H1 d (.xd ([(g, u), (f, v)])))) : RaiseP2 C f g W v u H1 := by
  refine ⟨by show 2 ≤ 1000; decide, fun a ha => ⟨a, v, u, rfl, upd_same, fun dx hdx ne => ⟨rfl, dx, [(g, u), (f, v)], ?_, upd_same, ?_, ?_⟩⟩⟩
  · rw [upd_ne ne.symm]
    exact upd_same
  · rw [upd_ne ne] at hdx
    exact hdx
  · have hd1 : H1 dx = none := by
      rw [upd_ne ne] at hdx
      exact hdx
    have e : upd (del (upd (upd (upd (upd H1 a (exo a C none)) dx (exd dx [(f, v)])) a (exo a C (some dx))) dx (exd dx ([(g, u), (f, v)]))) a) dx (.xd ([(g, u), (f, v)])) = upd H1 dx (.xd ([(g, u), (f, v)])) := by
      funext b
      by_cases hb : b = dx
      · rw [hb, upd_same, upd_same]
      · rw [upd_ne hb, upd_ne hb]
        by_cases hba : b = a
        · rw [hba, del_same, ha]
        · rw [del_ne hba, upd_ne hb, upd_ne hba, upd_ne hb, upd_ne hba]
    rw [e]
    exact h dx hd1
/-- raise x(e, e2) -/
def tRaise2 (C : Addr) (f g : Str) (W : WX) (te tu : TE) : TS := fun _ σ H => te σ H fun v H0 => tu σ H0 fun u H1 => RaiseP2 C f g (fun cls d H' => W cls d σ H') v u H1
section
variable {X : Cx}
theorem ps_raise2 {x f g : Str} {C fI : Addr} {e e2 : Expr} {te tu : TE} {W : WX} {p pos pos2 : Pos} (hc : X.calm = true) (T : Err2 X.prog X.w X.K X.mg X.base x f g C fI) (hr : Room 2 X.A) (tk : Takes X W) (hg : Gl X x) (he : PE X e te) (hu : PE X e2 tu)
    (hdb : (x == ("__debug__" : Str)) = false := by decide) (hs : starEach [e, e2] X.env = (false, eval e X.env) :: starEach [e2] X.env := by rfl) (hs2 : starEach [e2] X.env = (false, eval e2 X.env) :: starEach [] X.env := by rfl) (hpl : (backTo pos (starEach [e2] X.env)).any (·.1) = false := by rfl) :
    PS X (.Raise (some (.Call (.Name x p) [e, e2] [] pos)) none pos2) (tRaise2 C f g W te tu) := by
  obtain ⟨fd, F, b⟩ := T.fn
  have base := ps_raise (pos := pos2) hc tk (pmk_oex (p := p) (pos := pos) T.c.oc T.c.iC T.c.tI F hr b .nil pass0 hg T.gl (pa_cons he (pa_cons hu pa_nil hs2) hs) hdb hs hpl)
  exact ⟨fun pins s σ H D I h => base.run pins s σ H D I h⟩
end
end Exs

namespace K02
open PySem PySem.Spec PyProof.Rows L2 Tr Sq Dk Exs
/-! ### ask_path, way, beyond -/
abbrev sAskP : Stmt := top 33
abbrev sWayOf : Stmt := top 34
abbrev sBeyOf : Stmt := top 35
theorem in_strsX {h : Str} {l : List Str} : inV (.str h) (l.map V.str) = decide (h ∈ l) := by
  induction l with
  | nil => rfl
  | cons a r ih =>
    unfold inV at ih ⊢
    rw [List.map_cons, List.any_cons, ih]
    have : eqV (.str a) (.str h) = decide (h = a) := by
      simp [eqV]
      rw [Bool.eq_iff_iff]
      simp
      exact eq_comm
    rw [this, Bool.eq_iff_iff]
    simp
theorem flat_strsX (l : List Str) : (l.map V.str).all flatV = true := by
  rw [List.all_map]
  exact List.all_eq_true.mpr fun _ _ => rfl
/-- the refusals of two houses, then of a path between them -/
def spAskP (C CN CP : Addr) : Sp := fun vs H Q E => ∃ (v : Addr) (x y : V) (n1 n2 : String) (hs : List Str) (ps : Prs) (m : VilD), vs = [.ref v, x, y] ∧ Vil H C v hs ps m ∧ hs.Nodup ∧ hs.length ≤ 30 ∧ Pl H x n1 ∧ Pl H y n2 ∧
  (isHouse hs x = false → ∀ d, H d = none → E (.ref CN) (some d) (upd H d (.xd [("thing", x)]))) ∧
  (isHouse hs x = true → isHouse hs y = false → ∀ d, H d = none → E (.ref CN) (some d) (upd H d (.xd [("thing", y)]))) ∧
  (∀ a b, x = .str a → y = .str b → a ∈ hs → b ∈ hs → ¬ Adj ps a b → ∀ d, H d = none → E (.ref CP) (some d) (upd H d (.xd [("other", y), ("one", x)]))) ∧
  (∀ a b, x = .str a → y = .str b → a ∈ hs → b ∈ hs → Adj ps a b → Q .non H)
def spWayOf (C CN : Addr) : Sp := fun vs H Q E => ∃ (v : Addr) (x y : V) (n1 n2 : String) (hs : List Str) (ps : Prs) (m : VilD) (fr : Str → Str → Option Str) (way : Str → Str → List Str), vs = [.ref v, x, y] ∧ Vil H C v hs ps m ∧ Tree hs ps ∧ Ways hs ps fr way ∧ hs.length ≤ 30 ∧ Pl H x n1 ∧ Pl H y n2 ∧
  (isHouse hs x = false → ∀ d, H d = none → E (.ref CN) (some d) (upd H d (.xd [("thing", x)]))) ∧
  (isHouse hs x = true → isHouse hs y = false → ∀ d, H d = none → E (.ref CN) (some d) (upd H d (.xd [("thing", y)]))) ∧
  (∀ a b, x = .str a → y = .str b → a ∈ hs → b ∈ hs → ∀ r H', Evl.Ex H H' → H r = none → H' r = some (.lst ((way a b).map V.str)) → Q (.ref r) H')
def spBeyOf (C CN CP : Addr) : Sp := fun vs H Q E => ∃ (v : Addr) (x y : V) (n1 n2 : String) (hs : List Str) (ps : Prs) (m : VilD) (fr : Str → Str → Option Str) (way : Str → Str → List Str), vs = [.ref v, x, y] ∧ Vil H C v hs ps m ∧ Tree hs ps ∧ Ways hs ps fr way ∧ hs.length ≤ 30 ∧ Pl H x n1 ∧ Pl H y n2 ∧
  (isHouse hs x = false → ∀ d, H d = none → E (.ref CN) (some d) (upd H d (.xd [("thing", x)]))) ∧
  (isHouse hs x = true → isHouse hs y = false → ∀ d, H d = none → E (.ref CN) (some d) (upd H d (.xd [("thing", y)]))) ∧
  (∀ a b, x = .str a → y = .str b → a ∈ hs → b ∈ hs → ¬ Adj ps a b → ∀ d, H d = none → E (.ref CP) (some d) (upd H d (.xd [("other", y), ("one", x)]))) ∧
  (∀ a b, x = .str a → y = .str b → a ∈ hs → b ∈ hs → Adj ps a b → ∀ r H', Evl.Ex H H' → H r = none → H' r = some (.lst ((hs.filter (bey fr a b)).map V.str)) → Q (.ref r) H')
theorem isHouse_str {hs : List Str} {x : V} (h : isHouse hs x = true) : ∃ a, x = .str a ∧ a ∈ hs := by
  cases x with
  | str a => exact ⟨a, rfl, of_decide_eq_true h⟩
  | _ => cases h
section
variable {P : Program} {w : World} {K : PySem.W.Frag} {mg : Str → Option Value} {base : Heap}
theorem scAskP : FnScope ["village", "house", "other"] ["village", "house", "other"] (defScope sAskP) := ⟨rfl, rfl, rfl, by decide +kernel, rfl, by decide +kernel, by decide +kernel⟩
theorem ok_askP {C CN CP f f2 fA : Addr} {fd fdA : FuncData} (F : FnP K "ask_path" sAskP f fd) (c : VC P w K mg base C) (T2 : Err2 P w K mg base "NoPath" "one" "other" CP f2) (GA : FnOk P w K mg base (L2.CX P w) 3 fA fdA ["village", "thing"] (spAskH C CN)) (bA : L2.Binds K fdA ["village", "thing"] []) (kA : PySem.W.keepIn K (.ref fA) = true) (gA : mg "ask_house" = some (.ref fA)) :
    FnOk P w K mg base (L2.CX P w) 4 f fd ["village", "house", "other"] (spAskP C CN CP) := by
  obtain ⟨fN, fdN, mN, GN, bN⟩ := c.nr
  refine F.ok scAskP (fun vs H Q E h => ?_) (fun cdv A outer s H vs Q E hr h => ?_)
  · obtain ⟨v, x, y, n1, n2, hs, ps, m, rfl, _⟩ := h
    rfl
  · obtain ⟨v, x, y, n1, n2, hs, ps, m, rfl, Vh, hnd, h30, hx, hy, k1, k2, k3, k4⟩ := h
    refine ⟨_, pss_cons (ps_expr (pe_callS GA hr rfl gA kA bA (fun σ => passAt (takes_of rfl rfl rfl rfl) σ) (pa_cons (pv 0) (pa_cons (pv 1) pa_nil))))
      (pss_cons (ps_expr (pe_callS GA hr rfl gA kA bA (fun σ => passAt (takes_of rfl rfl rfl rfl) σ) (pa_cons (pv 0) (pa_cons (pv 2) pa_nil))))
      (pss_one (ps_if (pt_cmpR op_notIn_seq (pv 2) (pe_dget (hu_of hr) (pe_meth0 (pv 0) c.cl mN GN (hr.mono (by decide)) bN .nil pass0) (pv 1) (fun _ _ => rfl)) rfl) (pss_one (ps_raise2 rfl T2 (hr.mono (by decide)) (takes_of rfl rfl rfl rfl) rfl (pv 1) (pv 2))) pss_nil))), ?_⟩
    refine ⟨_, rfl, _, rfl, v, x, n1, hs, ps, m, rfl, Vh, hx, fun h1 => ?_, fun h1 d hd => k1 h1 d hd⟩
    refine ⟨_, rfl, _, rfl, v, y, n2, hs, ps, m, rfl, Vh, hy, fun h2 => ?_, fun h2 d hd => k2 h1 h2 d hd⟩
    obtain ⟨a, rfl, ha⟩ := isHouse_str h1
    obtain ⟨b, rfl, hb⟩ := isHouse_str h2
    have ga : DGet H m.d (.str a) (some (.ref (m.ad a))) := by
      have := DGet.k (k := Sum.inr a) Vh.nr.1
      rw [val_in ha] at this
      exact this
    refine ⟨_, rfl, _, rfl, v, m.dx, _, rfl, Vh.at_, rfl, v, C, hs, ps, m, rfl, c.cl, c.n3, Vh, _, rfl, m.d, _, rfl, ga, m.ad a, _, rfl, .inl (SqL.of (Vh.nr.2 a ha)), rfl, flat_strsX _, _, rfl, ?_⟩
    rw [in_strsX]
    by_cases hab : Adj ps a b
    · exact ite2 (fun z => absurd z (by simp [nearL_mem.mpr hab])) (fun _ => k4 a b rfl rfl ha hb hab)
    · refine ite2 (fun _ => ⟨_, rfl, _, rfl, raiseP2 fun d hd => k3 a b rfl rfl ha hb hab d hd⟩) (fun z => absurd (by simp [nearL_mem, hab]) z)
theorem scWayOf : FnScope ["village", "one", "other", "towards", "row"] ["village", "one", "other"] (defScope sWayOf) := ⟨rfl, rfl, rfl, by decide +kernel, rfl, by decide +kernel, by decide +kernel⟩
def wGo (H : Hp) (v D st : Addr) (a h : Str) (hs : List Str) (fr : Str → Str → Option Str) (tgt : List Str) (ks : List Str) (mm : Nat) (σ : L2.St) (H' : Hp) : Prop := ∃ (Y : List Str) (cur : Str) (rest : List Str), σ = [some (.ref v), some (.str a), some (.str h), some (.ref D), some (.ref st)] ∧ rest.length = mm ∧ Evl.Ex H H' ∧ H' D = some (.dK (tab ks fun x => optV (fr h x))) ∧ cur ∈ hs ∧ H' st = some (.lst ((Y ++ [cur]).map V.str)) ∧ Pth (fr h) h cur (cur :: rest) ∧ Y ++ cur :: rest = tgt
theorem ok_wayOf {C CN f fA fS : Addr} {fd fdA fdS : FuncData} (F : FnP K "way" sWayOf f fd) (GA : FnOk P w K mg base (L2.CX P w) 3 fA fdA ["village", "thing"] (spAskH C CN)) (bA : L2.Binds K fdA ["village", "thing"] []) (kA : PySem.W.keepIn K (.ref fA) = true) (gA : mg "ask_house" = some (.ref fA))
    (GS : FnOk P w K mg base CX0 3 fS fdS ["village", "root"] (spSteps C)) (bS : L2.Binds K fdS ["village", "root"] []) (kS : PySem.W.keepIn K (.ref fS) = true) (gS : mg "steps_towards" = some (.ref fS)) :
    FnOk P w K mg base (L2.CX P w) 4 f fd ["village", "one", "other"] (spWayOf C CN) := by
  refine F.ok scWayOf (fun vs H Q E h => ?_) (fun cdv A outer s H vs Q E hr h => ?_)
  · obtain ⟨v, x, y, n1, n2, hs, ps, m, fr, way, rfl, _⟩ := h
    rfl
  · obtain ⟨v, x, y, n1, n2, hs, ps, m, fr, way, rfl, Vh, T, W, h30, hx, hy, k1, k2, k3⟩ := h
    refine ⟨_, pss_cons (ps_expr (pe_callS GA hr rfl gA kA bA (fun σ => passAt (takes_of rfl rfl rfl rfl) σ) (pa_cons (pv 0) (pa_cons (pv 1) pa_nil))))
      (pss_cons (ps_expr (pe_callS GA hr rfl gA kA bA (fun σ => passAt (takes_of rfl rfl rfl rfl) σ) (pa_cons (pv 0) (pa_cons (pv 2) pa_nil))))
      (pss_cons (ps_set (i := 3) scWayOf.nd rfl (.inl rfl) (pe_call GS hr rfl gS kS bS .nil pass0 (pa_cons (pv 0) (pa_cons (pv 2) pa_nil))))
      (pss_cons (ps_set (i := 4) scWayOf.nd rfl (.inl rfl) (pe_lst (pa_cons (pv 1) pa_nil)))
      (pss_cons (ps_while PassesOwn.leaving (pt_cmpR op_ne (pe_ix ix_list (pv 4) (pe_un un_neg pe_int) (fun _ _ => rfl)) (pv 2) (nomark _))
        (pss_one (ps_expr (pe_bm PySem.F.plainAttrs_list PySem.F.slot_list_append PySem.F.type_list_append mt_append (pv 4) (pa_cons (pe_dget (hu_of hr) (pv 3) (pe_ix ix_list (pv 4) (pe_un un_neg pe_int) (fun _ _ => rfl)) (fun _ _ => rfl)) pa_nil)))))
      (pss_one (ps_ret (pv 4))))))), ?_⟩
    refine ⟨_, rfl, _, rfl, v, x, n1, hs, ps, m, rfl, Vh, hx, fun h1 => ?_, fun h1 d hd => k1 h1 d hd⟩
    refine ⟨_, rfl, _, rfl, v, y, n2, hs, ps, m, rfl, Vh, hy, fun h2 => ?_, fun h2 d hd => k2 h1 h2 d hd⟩
    obtain ⟨a, rfl, ha⟩ := isHouse_str h1
    obtain ⟨b, rfl, hb⟩ := isHouse_str h2
    refine ⟨_, rfl, _, rfl, v, b, hs, ps, m, fr b, rfl, Vh, T, hb, h30, W.rt b hb, fun D ks H1 x1 hD hD1 hks => ?_⟩
    refine ⟨_, rfl, by show 1 ≤ sizeLine; decide, fun st hst => ?_⟩
    have x2 := x1.trans (Evl.Ex.new (o := .lst [V.str a]) hst)
    have hstH : H st = none := none_of (fun o z => x1 _ _ z) hst
    have hDst : D ≠ st := ne_of_none hD1 hst
    have P0 := W.pth a ha b hb
    obtain ⟨w1, ew, _⟩ := W.tail_last ha hb
    have wl := W.len T ha hb
    rw [ew] at P0 wl
    refine ⟨wGo H v D st a b hs fr (way a b) ks, ⟨w1.length, [], a, w1, rfl, rfl, x2, by rw [upd_ne hDst]; exact hD1, ha, upd_same, P0, by rw [ew]; rfl⟩, ?_⟩
    rintro mm σ4 H4 ⟨Y4, cur, rest, rfl, hml, x4, t4, hc4, e4, p4, q4⟩
    have e4' : H4 st = some (.lst (Y4.map V.str ++ [.str cur])) := by rw [e4, List.map_append]; rfl
    refine ⟨_, rfl, _, rfl, st, _, -1, _, rfl, rfl, SqL.of e4', atI_last _ _, _, rfl, rfl, _, rfl, ?_⟩
    by_cases hch : cur = b
    · subst hch
      have : rest = [] := by
        have := p4.uniq (W.rt cur hb).none .nil
        simpa using this
      subst this
      refine ite2 (fun q => absurd q (by simp)) (fun _ => ⟨_, rfl, k3 a cur rfl rfl ha hb st H4 x4 hstH ?_⟩)
      rw [← q4]
      exact e4
    · refine ite2 (fun _ => ?_) (fun q => absurd (by simp [hch]) q)
      cases p4 with
      | nil => exact absurd rfl hch
      | @cons _ y _ hf p5 =>
        obtain ⟨l5, rfl⟩ := p5.head
        have ym : y ∈ hs := (T.mem ((W.rt b hb).adj _ _ hf)).2
        have d2 : DGet H4 D (kV (Sum.inr cur)) (some (.str y)) := by
          have := DGet.k (k := Sum.inr cur) t4
          rw [val_in (hks cur hc4)] at this
          rw [hf] at this
          exact this
        have ylen : Y4.length + 1 < 100000 := by
          have := congrArg List.length q4
          rw [ew, List.length_append] at this
          simp only [List.length_cons] at this wl
          omega
        refine ⟨fun σ5 H5 => wGo H v D st a b hs fr (way a b) ks l5.length σ5 H5, fun σ5 H5 q => ⟨l5.length, by rw [← hml]; exact Nat.lt_succ_self _, q⟩, ?_⟩
        refine ⟨_, rfl, .inl ⟨rfl, _, SqL.of e4'⟩, _, rfl, _, rfl, _, rfl, st, _, -1, _, rfl, rfl, SqL.of e4', atI_last _ _, D, _, rfl, d2, st, _, _, rfl, rfl, e4', ?_, ?_⟩
        · rw [List.length_append, List.length_map]
          exact Nat.lt_of_lt_of_le (show Y4.length + 1 < 100000 by omega) (by decide)
        · refine ⟨Y4 ++ [cur], y, l5, rfl, rfl, ex_upd x4 hstH, ?_, ym, ?_, p5, by rw [← q4, List.append_assoc]; rfl⟩
          · rw [upd_ne hDst]
            exact t4
          · rw [upd_same, List.map_append, List.map_append]
            rfl
theorem scBeyOf : FnScope ["village", "house", "other", "signs", "far"] ["village", "house", "other"] (defScope sBeyOf) := ⟨rfl, rfl, rfl, by decide +kernel, rfl, by decide +kernel, by decide +kernel⟩
theorem ok_beyOf {C CN CP f fA fS : Addr} {fd fdA fdS : FuncData} (F : FnP K "beyond" sBeyOf f fd) (c : VC P w K mg base C) (GA : FnOk P w K mg base (L2.CX P w) 4 fA fdA ["village", "house", "other"] (spAskP C CN CP)) (bA : L2.Binds K fdA ["village", "house", "other"] []) (kA : PySem.W.keepIn K (.ref fA) = true) (gA : mg "ask_path" = some (.ref fA))
    (GS : FnOk P w K mg base CX0 3 fS fdS ["village", "house"] (spSigns C)) (bS : L2.Binds K fdS ["village", "house"] []) (kS : PySem.W.keepIn K (.ref fS) = true) (gS : mg "signs_from" = some (.ref fS)) :
    FnOk P w K mg base (L2.CX P w) 5 f fd ["village", "house", "other"] (spBeyOf C CN CP) := by
  obtain ⟨fH, fdH, mH, GH, bH⟩ := c.hs
  refine F.ok scBeyOf (fun vs H Q E h => ?_) (fun cdv A outer s H vs Q E hr h => ?_)
  · obtain ⟨v, x, y, n1, n2, hs, ps, m, fr, way, rfl, _⟩ := h
    rfl
  · obtain ⟨v, x, y, n1, n2, hs, ps, m, fr, way, rfl, Vh, T, W, h30, hx, hy, k1, k2, k3, k4⟩ := h
    refine ⟨_, pss_cons (ps_expr (pe_callS GA hr rfl gA kA bA (fun σ => passAt (takes_of rfl rfl rfl rfl) σ) (pa_cons (pv 0) (pa_cons (pv 1) (pa_cons (pv 2) pa_nil)))))
      (pss_cons (ps_set (i := 3) scBeyOf.nd rfl (.inr rfl) (pe_call GS (hr.mono (by decide)) rfl gS kS bS .nil pass0 (pa_cons (pv 0) (pa_cons (pv 1) pa_nil))))
      (pss_one (ps_ret (pe_lc (own := [("far", 4)]) (g := gName 4) (tt := tTest (tOp rEq (tDGet (tVar 3) (tVar 4)) (tVar 2))) (te := tVar 4) rfl scBeyOf.nd (pi_list (pe_meth0 (pv 0) c.cl mH GH (hr.mono (by decide)) bH .nil pass0))
        (blkOk_by (own := [("far", 4)]) (N := ["village", "house", "other", "signs", "far"]) (sc := defScope sBeyOf) (by decide +kernel)) (fun _ _ _ _ _ => pg_name (i := 4) scBeyOf.nd rfl (.inl rfl)) (fun _ _ _ _ _ => pts_one (pt_cmpR op_eq (pe_dget (hu_of hr) (pv 3) (pv 4) (fun _ _ => rfl)) (pv 2) (nomark _))) (fun _ _ _ _ _ => pv 4))))), ?_⟩
    refine ⟨_, rfl, _, rfl, _, rfl, v, x, y, n1, n2, hs, ps, m, rfl, Vh, T.nd, h30, hx, hy, k1, k2, k3, fun a b ea eb ha hb hab => ?_⟩
    subst ea
    subst eb
    refine ⟨_, rfl, _, rfl, v, a, hs, ps, m, fr, way, rfl, Vh, T, W, ha, h30, fun D ks H1 x1 hD hD1 hks => ?_⟩
    refine ⟨_, rfl, v, m.dx, _, rfl, (Vh.ex x1).at_, rfl, v, C, hs, ps, m, rfl, c.cl, c.n1, Vh.ex x1, fun l hl => ?_⟩
    have x2 := Evl.Ex.new (o := .lst (hs.map V.str)) hl
    have l2 : upd H1 l (.lst (hs.map V.str)) l = some (.lst (hs.map V.str)) := upd_same
    generalize upd H1 l (.lst (hs.map V.str)) = H2 at x2 l2 ⊢
    refine ⟨l, rfl, ⟨_, SqL.of l2⟩, fun L hL => ?_⟩
    refine lc_it (walk_list (xs := hs.map V.str)) (fun i H' => Evl.Ex H2 H' ∧ H' L = some (.lst (((hs.take i).filter (bey fr a b)).map V.str))) ⟨Evl.Ex.new hL, upd_same⟩ (fun i H' _ hp => SqL.of (hp.1 _ _ l2)) (fun i z H3 H4 hi hp hy => ?_) (fun H3 hp => ?_)
    · obtain ⟨x3, e3⟩ := hp
      obtain ⟨rfl, hz⟩ := hy
      rw [List.length_map] at hi
      obtain ⟨h, hh⟩ := getD_of hi
      rw [List.getElem?_map, hh] at hz
      cases hz
      have hm : h ∈ hs := List.mem_of_getElem? hh
      have tk : hs.take (i + 1) = hs.take i ++ [h] := by rw [List.take_add_one, hh]; rfl
      have d1 : DGet H4 D (kV (Sum.inr h)) (some (.str (sgn fr a h))) := by
        have := DGet.k (k := Sum.inr h) (x3 _ _ (x2 _ _ hD1))
        rw [val_in (hks h hm)] at this
        exact this
      have sb := W.sgn_bey T ha hm hab
      have len : ((hs.take i).filter (bey fr a b)).length ≤ 30 := Nat.le_trans (List.length_filter_le _ _) (by rw [List.length_take]; omega)
      refine ⟨rfl, _, rfl, _, rfl, D, _, rfl, d1, _, rfl, rfl, _, rfl, ?_⟩
      cases hbb : bey fr a b h with
      | true =>
        rw [hbb] at sb
        refine ite2 (fun _ => ⟨_, rfl, _, e3, ?_, ex_upd x3 hL, ?_⟩) (fun z => absurd (by simpa using sb) z)
        · rw [List.length_map]
          exact Nat.lt_of_le_of_lt len (by decide)
        · rw [upd_same, tk, List.filter_append]
          simp [hbb]
      | false =>
        rw [hbb] at sb
        refine ite2 (fun z => absurd z (by simpa using sb)) (fun _ => ⟨x3, ?_⟩)
        rw [e3, tk, List.filter_append]
        simp [hbb]
    · obtain ⟨x3, e3⟩ := hp
      rw [List.length_map, List.take_length] at e3
      have xx := (x1.trans x2).trans x3
      exact k4 a b rfl rfl ha hb hab L H3 xx (none_of (fun o z => (x1.trans x2) _ _ z) hL) e3
end
end K02

namespace K02
open PySem PySem.Spec PyProof.Rows L2 Tr Sq Dk
/-! ### has_just, is_table, is_letters -/
abbrev sHasJ : Stmt := top 18
abbrev sIsTab : Stmt := top 19
abbrev sIsLet : Stmt := top 37
/-- a thing: a dict of plain things, or no dict at all -/
inductive DX (H : Hp) : V → Option (List (Key × V)) → Prop
  | dic {a : Addr} {kvs : List (Key × V)} (h : H a = some (.dK kvs)) (hi : ∀ p ∈ kvs, ∃ n, Pl H p.2 n) (hn : ∀ p ∈ kvs, p.2 ≠ .ref a) (hl : kvs.length ≤ 1000) : DX H (.ref a) (some kvs)
  | not {x : V} {n : String} (h : Pl H x n) (hn : isB n "dict" = false) : DX H x none
theorem DX.ex {H H' : Hp} {x : V} {o : Option (List (Key × V))} (h : DX H x o) (e : Evl.Ex H H') : DX H' x o := by
  cases h with
  | dic h hi hn hl => exact .dic (e _ _ h) (fun p hp => (hi p hp).imp fun n z => z.ext e) hn hl
  | not h hn => exact .not (h.ext e) hn
theorem Pl.updA {H : Hp} {x : V} {n : String} {a : Addr} {o : HO} (h : Pl H x n) (hn : x ≠ .ref a) : Pl (upd H a o) x n := by
  have key : ∀ {b : Addr} {u : HO}, x = .ref b → H b = some u → upd H a o b = some u := fun hx e => by rw [upd_ne (fun z => hn (by rw [hx, z]))]; exact e
  cases h with
  | non => exact .non
  | bl b => exact .bl b
  | int i => exact .int i
  | str z => exact .str z
  | lst h => exact .lst (key rfl h)
  | tup h => exact .tup (key rfl h)
  | frt h => exact .frt (key rfl h)
  | dic h => exact .dic (key rfl h)
  | dct h => exact .dct (key rfl h)
def hasJ (hs : List Str) : Option (List (Key × V)) → Bool
  | none => false
  | some kvs => decide (kvs.length = hs.length) && hs.all fun h => (valV kvs (Sum.inr h)).isSome
def isTab (hs : List Str) (o : Option (List (Key × V))) : Bool := hasJ hs o && (match o with
  | none => false
  | some kvs => kvs.all fun p => numV p.2)
def posV : V → Bool
  | .int i => decide (0 < i)
  | _ => false
def isLet (hs : List Str) (o : Option (List (Key × V))) : Bool := isTab hs o && (match o with
  | none => false
  | some kvs => kvs.any fun p => posV p.2)
def spHasJ : Sp := fun vs H Q _ => ∃ (x : V) (o : Option (List (Key × V))) (l : Addr) (hs : List Str), vs = [x, .ref l] ∧ DX H x o ∧ H l = some (.lst (hs.map V.str)) ∧ hs.length ≤ 1000 ∧ ∀ H', Evl.Ex H H' → Q (.bl (hasJ hs o)) H'
def spIsTab : Sp := fun vs H Q _ => ∃ (x : V) (o : Option (List (Key × V))) (l : Addr) (hs : List Str), vs = [x, .ref l] ∧ DX H x o ∧ H l = some (.lst (hs.map V.str)) ∧ hs.length ≤ 1000 ∧ ∀ H', Evl.Ex H H' → Q (.bl (isTab hs o)) H'
def spIsLet (C : Addr) : Sp := fun vs H Q _ => ∃ (v : Addr) (x : V) (o : Option (List (Key × V))) (hs : List Str) (ps : Prs) (m : VilD), vs = [.ref v, x] ∧ Vil H C v hs ps m ∧ DX H x o ∧ hs.length ≤ 1000 ∧ ∀ H', Evl.Ex H H' → Q (.bl (isLet hs o)) H'
/-- walking the values within a lock: the same behind -/
theorem unlock {H H' : Hp} {d : Addr} {u : HO} {od : Obj} (hd : H d = some u) (x : Evl.Ex (upd H d (.frz od u)) H') : Evl.Ex H (upd H' d u) := fun b o e => by
  by_cases h : b = d
  · rw [h, hd] at e
    rw [h, upd_same]
    exact e
  · rw [upd_ne h]
    exact x _ _ (by rw [upd_ne h]; exact e)
section
variable {P : Program} {w : World} {K : PySem.W.Frag} {mg : Str → Option Value} {base : Heap}
theorem scHasJ : FnScope ["thing", "keys", "key"] ["thing", "keys"] (defScope sHasJ) := ⟨rfl, rfl, rfl, by decide +kernel, rfl, by decide +kernel, by decide +kernel⟩
theorem ok_hasJ {f : Addr} {fd : FuncData} (F : FnP K "has_just" sHasJ f fd) (gI : mg "isinstance" = none) (gD : mg "dict" = none) (gL : mg "len" = none) (gA : mg "all" = none) : FnOk P w K mg base CX0 1 f fd ["thing", "keys"] spHasJ := by
  refine F.ok scHasJ (fun vs H Q E h => ?_) (fun cdv A outer s H vs Q E hr h => ?_)
  · obtain ⟨x, o, l, hs, rfl, _⟩ := h
    rfl
  · obtain ⟨x, o, l, hs, rfl, hx, hl, h1k, k⟩ := h
    refine' ⟨_, PSs.nox (pss_cons (ps_if (PW.pt (pw_or (pt_not (pt_val (pe_callB call_isi rfl gI (by decide +kernel) (pa_cons (pv 0) (pa_cons (pe_bltn (v := .ty "dict") rfl gD (by decide +kernel) rfl) pa_nil)))))
        (pw_or1 (pt_cmpR op_ne (pe_callB call_lenD (by rfl) gL PySem.boot_len (pa_cons (pv 0) pa_nil)) (pe_callB call_len_seq (by rfl) gL PySem.boot_len (pa_cons (pv 1) pa_nil)) (nomark _))))) (pss_one (ps_ret pe_bl)) pss_nil)
      (pss_one (ps_ret (pe_callB (cr_all rfl) (by rfl) gA (by decide +kernel) (pa_cons ?lc pa_nil))))), ?rd⟩
    case lc =>
      refine pe_lc (own := [("key", 2)]) (g := gName 2) (tt := tYes) (te := tDIn (tVar 2) (tVar 0)) rfl scHasJ.nd (pi_list (pv 1))
        (blkOk_by (own := [("key", 2)]) (N := ["thing", "keys", "key"]) (sc := defScope sHasJ) (by decide +kernel)) (fun _ _ _ _ _ => pg_name (i := 2) scHasJ.nd rfl (.inl rfl)) (fun _ _ _ _ _ => pts_nil) ?_
      intro _ _ _ _ _
      exact pe_cmp (pc_din (hu_of hr) (pv 2) (pv 0)) rfl
    cases hx with
    | @not x n hp hn =>
      refine ⟨_, rfl, _, _, _, _, _, rfl, .ty _, hp.ty, hp.one "dict", _, rfl, ?_⟩
      rw [hn]
      exact iteT (iteT (k _ (fun _ _ e => e)))
    | @dic a kvs ha hi hna hkl =>
      refine ⟨_, rfl, _, _, _, _, _, rfl, .ty _, (Pl.dic ha : Pl H (.ref a) "dict").ty, (Pl.dic ha : Pl H (.ref a) "dict").one "dict", _, rfl, ?_⟩
      refine iteF ⟨_, rfl, a, kvs, rfl, ha, _, rfl, l, _, rfl, .inl (SqL.of hl), rfl, _, rfl, ?_⟩
      have e1 : (!decide (L2.V.int (kvs.length : Nat) = L2.V.int (((hs.map V.str).length : Nat) : Int))) = !decide (kvs.length = hs.length) := by
        rw [List.length_map]
        congr 1
        rw [Bool.eq_iff_iff]
        simp
        omega
      rw [e1]
      cases hlen : decide (kvs.length = hs.length) with
      | false =>
        have this : Q (.bl (decide (kvs.length = hs.length) && hs.all fun h => (valV kvs (Sum.inr h)).isSome)) H := k H (fun _ _ e => e)
        rw [hlen] at this
        exact iteT this
      | true =>
        refine iteF ⟨_, rfl, l, rfl, ⟨_, SqL.of hl⟩, fun D hD => ?_⟩
        refine lc_it (walk_list (xs := hs.map V.str)) (fun i H' => Evl.Ex H H' ∧ H' D = some (.lst (((hs.take i).map fun h => (valV kvs (Sum.inr h)).isSome).map V.bl))) ⟨Evl.Ex.new hD, upd_same⟩ (fun i H' _ hp => SqL.of (hp.1 _ _ hl)) (fun i x H1 H2 hi2 hp hy => ?_) (fun H1 hp => ?_)
        · obtain ⟨x1, e2⟩ := hp
          obtain ⟨rfl, hx⟩ := hy
          rw [List.length_map] at hi2
          obtain ⟨h, hh⟩ := getD_of hi2
          rw [List.getElem?_map, hh] at hx
          cases hx
          refine ⟨rfl, _, rfl, _, rfl, a, _, rfl, DGet.k (k := Sum.inr h) (x1 _ _ ha), _, e2, ?_, ex_upd x1 hD, ?_⟩
          · rw [List.length_map, List.length_map, List.length_take]
            exact Nat.lt_of_le_of_lt (show min i hs.length ≤ 1000 by omega) (by decide)
          · rw [upd_same, List.take_add_one, hh, List.map_append, List.map_append]
            rfl
        · obtain ⟨x1, e2⟩ := hp
          rw [List.length_map, List.take_length] at e2
          refine ⟨D, _, rfl, SqL.of e2, ?_⟩
          have this : Q (.bl (decide (kvs.length = hs.length) && hs.all fun h => (valV kvs (Sum.inr h)).isSome)) H1 := k _ x1
          rw [hlen, Bool.true_and] at this
          rw [List.all_map]
          exact this
end
end K02

namespace K02
open PySem PySem.Spec PyProof.Rows L2
abbrev sIsInt : Stmt := top 14
abbrev sIsNum : Stmt := top 15
section
variable {P : Program} {w : World} {K : PySem.W.Frag} {mg : Str → Option Value} {base : Heap}
theorem scIsInt : FnScope ["thing"] ["thing"] (defScope sIsInt) := ⟨rfl, rfl, rfl, by decide +kernel, rfl, by decide +kernel, by decide +kernel⟩
theorem ok_isInt {f : Addr} {fd : FuncData} (F : FnP K "is_integer" sIsInt f fd) (gI : mg "int" = none) (gB : mg "bool" = none) (gS : mg "isinstance" = none) : FnOk P w K mg base CX0 1 f fd ["thing"] spIsInt := by
  refine F.ok scIsInt (fun vs H Q E h => ?_) (fun cdv A outer s H vs Q E hr h => ?_)
  · obtain ⟨x, n, rfl, _⟩ := h
    rfl
  · obtain ⟨x, n, rfl, hx, k⟩ := h
    refine ⟨_, PSs.nox (pss_one (ps_ret (pe_and (pe_callB call_isi rfl gS (by decide +kernel) (pa_cons (pv 0) (pa_cons (pe_bltn (v := .ty "int") rfl gI (by decide +kernel) rfl) pa_nil))) (pe_one (pe_not (pe_callB call_isi rfl gS (by decide +kernel) (pa_cons (pv 0) (pa_cons (pe_bltn (v := .ty "bool") rfl gB (by decide +kernel) rfl) pa_nil)))))))), ?_⟩
    refine ⟨_, rfl, _, _, _, _, _, rfl, .ty _, hx.ty, hx.one "int", _, rfl, ?_⟩
    have e := int_kind hx
    cases hi : isB n "int" with
    | false =>
      rw [hi] at e
      refine iteF ?_
      rw [Bool.false_and] at e
      rw [e]
      exact k
    | true =>
      rw [hi, Bool.true_and] at e
      refine iteT ⟨_, rfl, _, _, _, _, _, rfl, .ty _, hx.ty, hx.one "bool", _, rfl, ?_⟩
      rw [e]
      exact k
theorem scIsNum : FnScope ["thing"] ["thing"] (defScope sIsNum) := ⟨rfl, rfl, rfl, by decide +kernel, rfl, by decide +kernel, by decide +kernel⟩
theorem ok_isNum {f fI : Addr} {fd fdI : FuncData} (F : FnP K "is_number" sIsNum f fd) (FI : FnP K "is_integer" sIsInt fI fdI) (gI : mg "int" = none) (gB : mg "bool" = none) (gS : mg "isinstance" = none) (gF : mg "is_integer" = some (.ref fI)) : FnOk P w K mg base CX0 2 f fd ["thing"] spIsNum := by
  have G1 : FnOk P w K mg base CX0 1 fI fdI ["thing"] spIsInt := ok_isInt FI gI gB gS
  have b1 : Binds K fdI ["thing"] [] := FI.bindsN fun _ _ _ _ _ _ us hl => match us, hl with | [_], _ => rfl
  refine F.ok scIsNum (fun vs H Q E h => ?_) (fun cdv A outer s H vs Q E hr h => ?_)
  · obtain ⟨x, n, rfl, _⟩ := h
    rfl
  · obtain ⟨x, n, rfl, hx, k⟩ := h
    refine ⟨_, PSs.nox (pss_one (ps_ret (pe_and (pe_call G1 hr rfl gF FI.kp b1 .nil pass0 (pa_cons (pv 0) pa_nil)) (pe_one (pe_cmpR op_ge (pv 0) pe_int (nomark _)))))), ?_⟩
    refine ⟨_, rfl, x, n, rfl, hx, _, rfl, ?_⟩
    cases hx with
    | int i => exact iteT ⟨_, rfl, _, _, rfl, rfl, k⟩
    | _ => exact iteF k
end
end K02

namespace K02
open PySem PySem.Spec PyProof.Rows L2 Tr Sq Dk Exs
section
variable {P : Program} {w : World} {K : PySem.W.Frag} {mg : Str → Option Value} {base : Heap}
theorem scIsTab : FnScope ["thing", "keys", "number"] ["thing", "keys"] (defScope sIsTab) := ⟨rfl, rfl, rfl, by decide +kernel, rfl, by decide +kernel, by decide +kernel⟩
theorem ok_isTab {f fJ fN : Addr} {fd fdJ fdN : FuncData} (F : FnP K "is_table" sIsTab f fd) (GJ : FnOk P w K mg base CX0 1 fJ fdJ ["thing", "keys"] spHasJ) (bJ : L2.Binds K fdJ ["thing", "keys"] []) (kJ : PySem.W.keepIn K (.ref fJ) = true) (gJ : mg "has_just" = some (.ref fJ))
    (GN : FnOk P w K mg base CX0 2 fN fdN ["thing"] spIsNum) (bN : L2.Binds K fdN ["thing"] []) (kN : PySem.W.keepIn K (.ref fN) = true) (gN : mg "is_number" = some (.ref fN)) (gA : mg "all" = none) : FnOk P w K mg base CX0 3 f fd ["thing", "keys"] spIsTab := by
  refine F.ok scIsTab (fun vs H Q E h => ?_) (fun cdv A outer s H vs Q E hr h => ?_)
  · obtain ⟨x, o, l, hs, rfl, _⟩ := h
    rfl
  · obtain ⟨x, o, l, hs, rfl, hx, hl, h1k, k⟩ := h
    refine' ⟨_, PSs.nox (pss_one (ps_ret (pe_and (pe_call GJ (hr.mono (by decide)) rfl gJ kJ bJ .nil pass0 (pa_cons (pv 0) (pa_cons (pv 1) pa_nil))) (pe_one (pe_lock (pe_callB (cr_all rfl) (by rfl) gA (by decide +kernel) (pa_cons ?lc pa_nil))))))), ?rd⟩
    case lc =>
      refine pe_lc (own := [("number", 2)]) (g := gName 2) (tt := tYes) (te := tCall spIsNum [] E0 (tCons (tVar 2) tNil)) rfl scIsTab.nd (pi_values (pv 0))
        (blkOk_by (own := [("number", 2)]) (N := ["thing", "keys", "number"]) (sc := defScope sIsTab) (by decide +kernel)) (fun _ _ _ _ _ => pg_name (i := 2) scIsTab.nd rfl (.inl rfl)) (fun _ _ _ _ _ => pts_nil) ?_
      intro _ _ _ _ _
      exact pe_call GN hr rfl gN kN bN .nil pass0 (pa_cons (pv 2) pa_nil)
    refine ⟨_, rfl, _, rfl, x, o, l, hs, rfl, hx, hl, h1k, fun H1 x1 => ⟨_, rfl, ?_⟩⟩
    cases hj : hasJ hs o with
    | false =>
      have := k H1 x1
      unfold isTab at this
      rw [hj] at this
      exact iteF this
    | true =>
      refine iteT ?_
      cases hx with
      | not hp hn => cases hj
      | @dic a kvs ha hi hna hkl =>
        have k : ∀ H', Evl.Ex H H' → Q (.bl (hasJ hs (some kvs) && kvs.all fun p => numV p.2)) H' := k
        rw [hj, Bool.true_and] at k
        have ha1 := x1 _ _ ha
        refine ⟨a, _, ha1, trivial, fun od => ?_⟩
        refine ⟨_, rfl, a, od, kvs, rfl, upd_same, fun D hD => ?_⟩
        have haD : a ≠ D := ne_of_none upd_same hD
        refine lc_it (walk_values (kvs := kvs)) (fun i H' => Evl.Ex (upd H1 a (.frz od (.dK kvs))) H' ∧ H' D = some (.lst (((kvs.take i).map fun p => numV p.2).map V.bl))) ⟨Evl.Ex.new hD, upd_same⟩ (fun i H' _ hp => hp.1 _ _ upd_same) (fun i x H2 H3 hi2 hp hy => ?_) (fun H2 hp => ?_)
        · obtain ⟨x2, e2⟩ := hp
          obtain ⟨rfl, kk, hx⟩ := hy
          have hm := List.mem_of_getElem? hx
          obtain ⟨n, hn⟩ := hi _ hm
          have hn3 : Pl H3 x n := ((hn.ext x1).updA (hna _ hm)).ext x2
          refine ⟨rfl, _, rfl, x, n, rfl, hn3, _, e2, ?_, ex_upd x2 hD, ?_⟩
          · rw [List.length_map, List.length_map, List.length_take]
            exact Nat.lt_of_le_of_lt (show min i kvs.length ≤ 1000 by omega) (by decide)
          · rw [upd_same, List.take_add_one, hx, List.map_append, List.map_append]
            rfl
        · obtain ⟨x2, e2⟩ := hp
          rw [List.take_length] at e2
          refine ⟨D, _, rfl, SqL.of e2, x2 _ _ upd_same, ?_⟩
          have := k _ (x1.trans (unlock ha1 x2))
          rw [List.all_map]
          exact this
theorem scIsLet : FnScope ["village", "thing", "number"] ["village", "thing"] (defScope sIsLet) := ⟨rfl, rfl, rfl, by decide +kernel, rfl, by decide +kernel, by decide +kernel⟩
theorem ok_isLet {C f fT : Addr} {fd fdT : FuncData} (F : FnP K "is_letters" sIsLet f fd) (c : VC P w K mg base C) (GT : FnOk P w K mg base CX0 3 fT fdT ["thing", "keys"] spIsTab) (bT : L2.Binds K fdT ["thing", "keys"] []) (kT : PySem.W.keepIn K (.ref fT) = true) (gT : mg "is_table" = some (.ref fT)) (gY : mg "any" = none) :
    FnOk P w K mg base CX0 4 f fd ["village", "thing"] (spIsLet C) := by
  obtain ⟨fH, fdH, mH, GH, bH⟩ := c.hs
  refine F.ok scIsLet (fun vs H Q E h => ?_) (fun cdv A outer s H vs Q E hr h => ?_)
  · obtain ⟨v, x, o, hs, ps, m, rfl, _⟩ := h
    rfl
  · obtain ⟨v, x, o, hs, ps, m, rfl, Vh, hx, h1k, k⟩ := h
    refine' ⟨_, PSs.nox (pss_one (ps_ret (pe_and (pe_call GT hr rfl gT kT bT .nil pass0 (pa_cons (pv 1) (pa_cons (pe_meth0 (pv 0) c.cl mH GH (hr.mono (by decide)) bH .nil pass0) pa_nil))) (pe_one (pe_lock (pe_callB (cr_any rfl) (by rfl) gY (by decide +kernel) (pa_cons ?lc pa_nil))))))), ?rd⟩
    case lc =>
      refine pe_lc (own := [("number", 2)]) (g := gName 2) (tt := tYes) (te := tOp (rI0 fun i j => .bl (decide (j < i))) (tVar 2) (tC (.int 0))) rfl scIsLet.nd (pi_values (pv 1))
        (blkOk_by (own := [("number", 2)]) (N := ["village", "thing", "number"]) (sc := defScope sIsLet) (by decide +kernel)) (fun _ _ _ _ _ => pg_name (i := 2) scIsLet.nd rfl (.inl rfl)) (fun _ _ _ _ _ => pts_nil) ?_
      intro _ _ _ _ _
      exact pe_cmpR op_gt (pv 2) pe_int (nomark _)
    refine ⟨_, rfl, _, rfl, v, m.dx, _, rfl, Vh.at_, rfl, v, C, hs, ps, m, rfl, c.cl, c.n1, Vh, fun l hl => ?_⟩
    refine ⟨x, o, l, hs, rfl, hx.ex (Evl.Ex.new hl), upd_same, h1k, fun H1 x1' => ⟨_, rfl, ?_⟩⟩
    have x1 : Evl.Ex H H1 := (Evl.Ex.new hl).trans x1'
    cases hj : isTab hs o with
    | false =>
      have := k H1 x1
      unfold isLet at this
      rw [hj] at this
      exact iteF this
    | true =>
      refine iteT ?_
      cases hx with
      | not hp hn => cases hj
      | @dic a kvs ha hi hna hkl =>
        have k : ∀ H', Evl.Ex H H' → Q (.bl (isTab hs (some kvs) && kvs.any fun p => posV p.2)) H' := k
        rw [hj, Bool.true_and] at k
        have ha1 := x1 _ _ ha
        refine ⟨a, _, ha1, trivial, fun od => ?_⟩
        refine ⟨_, rfl, a, od, kvs, rfl, upd_same, fun D hD => ?_⟩
        refine lc_it (walk_values (kvs := kvs)) (fun i H' => Evl.Ex (upd H1 a (.frz od (.dK kvs))) H' ∧ H' D = some (.lst (((kvs.take i).map fun p => posV p.2).map V.bl))) ⟨Evl.Ex.new hD, upd_same⟩ (fun i H' _ hp => hp.1 _ _ upd_same) (fun i x H2 H3 hi2 hp hy => ?_) (fun H2 hp => ?_)
        · obtain ⟨x2, e2⟩ := hp
          obtain ⟨rfl, kk, hx⟩ := hy
          have hnum : numV x = true := by
            have h9 : (hasJ hs (some kvs) && kvs.all fun p => numV p.2) = true := hj
            rw [Bool.and_eq_true] at h9
            exact List.all_eq_true.mp h9.2 _ (List.mem_of_getElem? hx)
          obtain ⟨j, rfl⟩ : ∃ j, x = .int j := by
            cases x with
            | int j => exact ⟨j, rfl⟩
            | _ => cases hnum
          refine ⟨rfl, _, rfl, _, _, rfl, rfl, _, e2, ?_, ex_upd x2 hD, ?_⟩
          · rw [List.length_map, List.length_map, List.length_take]
            exact Nat.lt_of_le_of_lt (show min i kvs.length ≤ 1000 by omega) (by decide)
          · rw [upd_same, List.take_add_one, hx, List.map_append, List.map_append]
            rfl
        · obtain ⟨x2, e2⟩ := hp
          rw [List.take_length] at e2
          refine ⟨D, _, rfl, SqL.of e2, x2 _ _ upd_same, ?_⟩
          have := k _ (x1.trans (unlock ha1 x2))
          rw [List.any_map]
          exact this
end
end K02

namespace K02
open PySem PySem.Spec PyProof.Rows L2 Tr Sq Dk Exs
/-! ### ask_letters, letters_beyond -/
abbrev sAskL : Stmt := top 38
abbrev sLetB : Stmt := top 39
def lcnt (kvs : List (Key × V)) (h : Str) : Int := match valV kvs (Sum.inr h) with
  | some (.int i) => i
  | _ => 0
theorem let_at {hs : List Str} {kvs : List (Key × V)} (h : isLet hs (some kvs) = true) {z : Str} (hz : z ∈ hs) : valV kvs (Sum.inr z) = some (.int (lcnt kvs z)) := by
  have h1 : (isTab hs (some kvs) && kvs.any fun p => posV p.2) = true := h
  rw [Bool.and_eq_true] at h1
  have h2 : (hasJ hs (some kvs) && kvs.all fun p => numV p.2) = true := h1.1
  rw [Bool.and_eq_true] at h2
  have h3 : (decide (kvs.length = hs.length) && hs.all fun h => (valV kvs (Sum.inr h)).isSome) = true := h2.1
  rw [Bool.and_eq_true] at h3
  have h4 := List.all_eq_true.mp h3.2 z hz
  unfold lcnt
  cases hv : valV kvs (Sum.inr z) with
  | none => rw [hv] at h4; cases h4
  | some x =>
    have hm : ∃ p ∈ kvs, p.2 = x := by
      unfold valV at hv
      obtain ⟨p, hp, e⟩ := Option.map_eq_some_iff.mp hv
      exact ⟨p, List.mem_of_find?_eq_some hp, e⟩
    obtain ⟨p, hp, e⟩ := hm
    have h5 := List.all_eq_true.mp h2.2 p hp
    rw [e] at h5
    cases x with
    | int i => rfl
    | _ => cases h5
def spAskL (C CL : Addr) : Sp := fun vs H Q E => ∃ (v : Addr) (x : V) (o : Option (List (Key × V))) (hs : List Str) (ps : Prs) (m : VilD), vs = [.ref v, x] ∧ Vil H C v hs ps m ∧ DX H x o ∧ hs.length ≤ 1000 ∧ (isLet hs o = true → ∀ H', Evl.Ex H H' → Q .non H') ∧ (isLet hs o = false → ∀ H' d, Evl.Ex H H' → H' d = none → E (.ref CL) (some d) (upd H' d (.xd [("thing", x)])))
def spLetB (C CN CP CL : Addr) : Sp := fun vs H Q E => ∃ (v : Addr) (l x y : V) (n1 n2 : String) (o : Option (List (Key × V))) (hs : List Str) (ps : Prs) (m : VilD) (fr : Str → Str → Option Str) (way : Str → Str → List Str), vs = [.ref v, l, x, y] ∧ Vil H C v hs ps m ∧ Tree hs ps ∧ Ways hs ps fr way ∧ hs.length ≤ 30 ∧ DX H l o ∧ Pl H x n1 ∧ Pl H y n2 ∧
  (isLet hs o = false → ∀ H' d, Evl.Ex H H' → H' d = none → E (.ref CL) (some d) (upd H' d (.xd [("thing", l)]))) ∧
  (isLet hs o = true → isHouse hs x = false → ∀ H' d, Evl.Ex H H' → H' d = none → E (.ref CN) (some d) (upd H' d (.xd [("thing", x)]))) ∧
  (isLet hs o = true → isHouse hs x = true → isHouse hs y = false → ∀ H' d, Evl.Ex H H' → H' d = none → E (.ref CN) (some d) (upd H' d (.xd [("thing", y)]))) ∧
  (isLet hs o = true → ∀ a b, x = .str a → y = .str b → a ∈ hs → b ∈ hs → ¬ Adj ps a b → ∀ H' d, Evl.Ex H H' → H' d = none → E (.ref CP) (some d) (upd H' d (.xd [("other", y), ("one", x)]))) ∧
  (∀ kvs, o = some kvs → isLet hs o = true → ∀ a b, x = .str a → y = .str b → a ∈ hs → b ∈ hs → Adj ps a b → ∀ H', Evl.Ex H H' → Q (.int ((hs.filter (bey fr a b)).map (lcnt kvs)).sum) H')
section
variable {P : Program} {w : World} {K : PySem.W.Frag} {mg : Str → Option Value} {base : Heap}
theorem scAskL : FnScope ["village", "letters"] ["village", "letters"] (defScope sAskL) := ⟨rfl, rfl, rfl, by decide +kernel, rfl, by decide +kernel, by decide +kernel⟩
theorem ok_askL {C CL f f1 fL : Addr} {fd fdL : FuncData} (F : FnP K "ask_letters" sAskL f fd) (T1 : Err P w K mg base "BadLetters" "thing" CL f1) (GL : FnOk P w K mg base CX0 4 fL fdL ["village", "thing"] (spIsLet C)) (bL : L2.Binds K fdL ["village", "thing"] []) (kL : PySem.W.keepIn K (.ref fL) = true) (gL : mg "is_letters" = some (.ref fL)) :
    FnOk P w K mg base (L2.CX P w) 5 f fd ["village", "letters"] (spAskL C CL) := by
  refine F.ok scAskL (fun vs H Q E h => ?_) (fun cdv A outer s H vs Q E hr h => ?_)
  · obtain ⟨v, x, o, hs, ps, m, rfl, _⟩ := h
    rfl
  · obtain ⟨v, x, o, hs, ps, m, rfl, Vh, hx, h1k, k1, k2⟩ := h
    refine ⟨_, pss_one (ps_if (pt_not (pt_val (pe_call GL hr rfl gL kL bL .nil pass0 (pa_cons (pv 0) (pa_cons (pv 1) pa_nil))))) (pss_one (ps_raise1 rfl T1 (hr.mono (by decide)) (takes_of rfl rfl rfl rfl) rfl (pv 1))) pss_nil), ?_⟩
    refine ⟨_, rfl, _, rfl, v, x, o, hs, ps, m, rfl, Vh, hx, h1k, fun H1 x1 => ⟨_, rfl, ?_⟩⟩
    cases hi : isLet hs o with
    | true => exact iteF (k1 hi H1 x1)
    | false => exact iteT ⟨_, rfl, raiseP fun d hd => k2 hi H1 d x1 hd⟩
theorem scLetB : FnScope ["village", "letters", "house", "other", "far"] ["village", "letters", "house", "other"] (defScope sLetB) := ⟨rfl, rfl, rfl, by decide +kernel, rfl, by decide +kernel, by decide +kernel⟩
theorem ok_letB {C CN CP CL f fA fB : Addr} {fd fdA fdB : FuncData} (F : FnP K "letters_beyond" sLetB f fd) (GA : FnOk P w K mg base (L2.CX P w) 5 fA fdA ["village", "letters"] (spAskL C CL)) (bA : L2.Binds K fdA ["village", "letters"] []) (kA : PySem.W.keepIn K (.ref fA) = true) (gA : mg "ask_letters" = some (.ref fA))
    (GB : FnOk P w K mg base (L2.CX P w) 5 fB fdB ["village", "house", "other"] (spBeyOf C CN CP)) (bB : L2.Binds K fdB ["village", "house", "other"] []) (kB : PySem.W.keepIn K (.ref fB) = true) (gB : mg "beyond" = some (.ref fB)) (gS : mg "sum" = none) :
    FnOk P w K mg base (L2.CX P w) 6 f fd ["village", "letters", "house", "other"] (spLetB C CN CP CL) := by
  refine F.ok scLetB (fun vs H Q E h => ?_) (fun cdv A outer s H vs Q E hr h => ?_)
  · obtain ⟨v, l, x, y, n1, n2, o, hs, ps, m, fr, way, rfl, _⟩ := h
    rfl
  · obtain ⟨v, l, x, y, n1, n2, o, hs, ps, m, fr, way, rfl, Vh, T, W, h30, hl, hx, hy, k0, k1, k2, k3, k4⟩ := h
    refine ⟨_, pss_cons (ps_expr (pe_callS GA hr rfl gA kA bA (fun σ => passAt (takes_of rfl rfl rfl rfl) σ) (pa_cons (pv 0) (pa_cons (pv 1) pa_nil))))
      (pss_one (ps_ret (pe_callB (cr_sum rfl) (by rfl) gS (by decide +kernel) (pa_cons (pe_lc (own := [("far", 4)]) (g := gName 4) (tt := tYes) (te := tDGet (tVar 1) (tVar 4)) rfl scLetB.nd (pi_list (pe_callS GB hr rfl gB kB bB (fun σ => passAt (takes_of rfl rfl rfl rfl) σ) (pa_cons (pv 0) (pa_cons (pv 2) (pa_cons (pv 3) pa_nil)))))
        (blkOk_by (own := [("far", 4)]) (N := ["village", "letters", "house", "other", "far"]) (sc := defScope sLetB) (by decide +kernel)) (fun _ _ _ _ _ => pg_name (i := 4) scLetB.nd rfl (.inl rfl)) (fun _ _ _ _ _ => pts_nil) (fun _ _ _ _ _ => pe_dget (hu_of hr) (pv 1) (pv 4) (fun _ _ => rfl))) pa_nil)))), ?_⟩
    refine ⟨_, rfl, _, rfl, v, l, o, hs, ps, m, rfl, Vh, hl, by omega, fun hi H1 x1 => ?_, fun hi H1 d x1 hd => k0 hi H1 d x1 hd⟩
    refine ⟨_, rfl, _, rfl, _, rfl, v, x, y, n1, n2, hs, ps, m, fr, way, rfl, Vh.ex x1, T, W, h30, hx.ext x1, hy.ext x1, fun h1 d hd => k1 hi h1 H1 d x1 hd, fun h1 h2 d hd => k2 hi h1 h2 H1 d x1 hd, fun a b ea eb ha hb hab d hd => k3 hi a b ea eb ha hb hab H1 d x1 hd, fun a b ea eb ha hb hab r H2 x2 hr2 hr2' => ?_⟩
    cases hl with
    | not h9 h8 => cases hi
    | @dic la kvs hla hli hln hll =>
      refine ⟨r, rfl, ⟨_, SqL.of hr2'⟩, fun L hL => ?_⟩
      have x12 := x1.trans x2
      have la2 := x12 _ _ hla
      refine lc_it (walk_list (xs := (hs.filter (bey fr a b)).map V.str)) (fun i H' => Evl.Ex H2 H' ∧ H' L = some (.lst ((((hs.filter (bey fr a b)).take i).map (lcnt kvs)).map V.int))) ⟨Evl.Ex.new hL, upd_same⟩ (fun i H' _ hp => SqL.of (hp.1 _ _ hr2')) (fun i z H3 H4 hi3 hp hy9 => ?_) (fun H3 hp => ?_)
      · obtain ⟨x3, e3⟩ := hp
        obtain ⟨rfl, hz⟩ := hy9
        rw [List.length_map] at hi3
        obtain ⟨h, hh⟩ := getD_of hi3
        rw [List.getElem?_map, hh] at hz
        cases hz
        have hm : h ∈ hs := (List.mem_filter.mp (List.mem_of_getElem? hh)).1
        have tk : (hs.filter (bey fr a b)).take (i + 1) = (hs.filter (bey fr a b)).take i ++ [h] := by rw [List.take_add_one, hh]; rfl
        have d1 : DGet H4 la (kV (Sum.inr h)) (some (.int (lcnt kvs h))) := by
          have := DGet.k (k := Sum.inr h) (x3 _ _ la2)
          rw [let_at hi hm] at this
          exact this
        have len := List.length_filter_le (bey fr a b) hs
        refine ⟨rfl, _, rfl, _, rfl, la, _, rfl, d1, _, e3, ?_, ex_upd x3 hL, ?_⟩
        · rw [List.length_map, List.length_map, List.length_take]
          exact Nat.lt_of_le_of_lt (show _ ≤ 30 by omega) (by decide)
        · rw [upd_same, tk, List.map_append, List.map_append]
          rfl
      · obtain ⟨x3, e3⟩ := hp
        rw [List.length_map, List.take_length] at e3
        exact ⟨L, _, rfl, SqL.of e3, k4 kvs rfl hi a b ea eb ha hb hab H3 (x12.trans x3)⟩
end
end K02

namespace K02
open PySem PySem.Spec PyProof.Rows L2 Tr Sq
/-! ### _law_v_village, _law_v_round -/
abbrev sVill : Stmt := top 48
def spVill : Sp := fun vs H Q _ => ∃ (p c : Addr) (n most : Nat), vs = [.ref p, .int (most : Nat)] ∧ StrAt H p c n ∧ n + 200 ≤ 1000000000 ∧ 1 ≤ most ∧ most ≤ 12 ∧
  ∀ (t a b : Addr) (hs : List Str) (qs : PrL) (H' : Hp), H t = none → H a = none → H b = none → (∀ t ∈ qs, H t.1 = none) → H' t = some (.tup [.ref a, .ref b]) → H' a = some (.lst (hs.map V.str)) → H' b = some (.lst (refsL qs)) → PrsAt H' qs → Tree hs (qs.map (·.2)) → hs ≠ [] → hs.length ≤ most → (∀ h ∈ hs, h ∈ names12) → qs.length + 1 = hs.length → Kp p c H H' → StrAt H' p c (n + 200) → Q (.ref t) H'
def spRound : Sp := fun vs H Q _ => ∃ (p c l : Addr) (n most : Nat) (hs : List Str), vs = [.ref p, .ref l, .int (most : Nat)] ∧ StrAt H p c n ∧ n + 200 ≤ 1000000000 ∧ 1 ≤ most ∧ most ≤ 100 ∧ H l = some (.lst (hs.map V.str)) ∧ hs ≠ [] ∧ hs.length ≤ 1000 ∧
  ∀ (q : Addr) (rs : List Str) (H' : Hp), H q = none → H' q = some (.lst (rs.map V.str)) → rs ≠ [] → rs.length ≤ most → (∀ r ∈ rs, r ∈ hs) → Kp p c H H' → StrAt H' p c (n + 200) → Q (.ref q) H'
section
variable {P : Program} {w : World} {K : PySem.W.Frag} {mg : Str → Option Value} {base : Heap}
theorem scVill : FnScope ["stream", "most", "houses"] ["stream", "most"] (defScope sVill) := ⟨rfl, rfl, rfl, by decide +kernel, rfl, by decide +kernel, by decide +kernel⟩
theorem ok_vill {f fD fM fN fP : Addr} {fd fdD fdM fdN fdP : FuncData} (F : FnP K "_law_v_village" sVill f fd) (GD : FnOk P w K mg base CX0 1 fD fdD ["stream", "many"] spDraw) (bD : L2.Binds K fdD ["stream", "many"] []) (kD : PySem.W.keepIn K (.ref fD) = true) (gD : mg "_law_draw" = some (.ref fD))
    (GM : FnOk P w K mg base CX0 2 fM fdM ["stream", "some"] (spMixed K)) (bM : L2.Binds K fdM ["stream", "some"] []) (kM : PySem.W.keepIn K (.ref fM) = true) (gM : mg "_law_mixed" = some (.ref fM))
    (GN : FnOk P w K mg base CX0 3 fN fdN ["stream", "many"] spNames) (bN : L2.Binds K fdN ["stream", "many"] []) (kN : PySem.W.keepIn K (.ref fN) = true) (gN : mg "_law_v_names" = some (.ref fN))
    (GP : FnOk P w K mg base CX0 3 fP fdP ["stream", "houses"] spPaths) (bP : L2.Binds K fdP ["stream", "houses"] []) (kP : PySem.W.keepIn K (.ref fP) = true) (gP : mg "_law_v_paths" = some (.ref fP)) : FnOk P w K mg base CX0 4 f fd ["stream", "most"] spVill := by
  refine F.ok scVill (fun vs H Q E h => ?_) (fun cdv A outer s H vs Q E hr h => ?_)
  · obtain ⟨p, c, n, most, rfl, _⟩ := h
    rfl
  · obtain ⟨p, c, n, most, rfl, hS, hn, hm1, hm2, k⟩ := h
    refine ⟨_, PSs.nox (pss_cons (ps_set (i := 2) scVill.nd rfl (.inl rfl) (pe_call GN hr rfl gN kN bN .nil pass0 (pa_cons (pv 0) (pa_cons (pe_op op_add pe_int (pe_call GD (hr.mono (by decide)) rfl gD kD bD .nil pass0 (pa_cons (pv 0) (pa_cons (pv 1) pa_nil)))) pa_nil))))
      (pss_one (ps_ret (pe_tup (pa_cons (pe_call GM (hr.mono (by decide)) rfl gM kM bM .nil pass0 (pa_cons (pv 0) (pa_cons (pv 2) pa_nil))) (pa_cons (pe_call GP hr rfl gP kP bP .nil pass0 (pa_cons (pv 0) (pa_cons (pv 2) pa_nil))) pa_nil)))))), ?_⟩
    refine ⟨_, rfl, _, rfl, _, rfl, p, c, n, (most : Int), rfl, hS, by omega, by omega, by omega, fun d H1 d0 d1 hK1 hS1 => ?_⟩
    obtain ⟨j, rfl⟩ : ∃ j : Nat, d = (j : Int) := ⟨d.toNat, by omega⟩
    refine ⟨_, _, rfl, rfl, p, c, n + 1, 1 + j, by show [V.ref p, V.int (1 + (j : Int))] = _; rw [show (1 : Int) + (j : Int) = ((1 + j : Nat) : Int) by omega], hS1, by omega, by omega, by omega, fun l hs0 H2 hl hl2 hlen hnd hgood hK2 hS2 => ?_⟩
    have hne : hs0 ≠ [] := fun z => by rw [z] at hlen; simp at hlen; omega
    obtain ⟨hlp, hlc⟩ := strs_nep hl2 hne hS2
    have hlH : H l = none := hK1.fresh hS1 hl
    refine ⟨_, rfl, _, rfl, p, c, l, n + 1 + 12, hs0.map V.str, rfl, hS2, by rw [List.length_map]; omega, .inl (SqL.of hl2), by rw [List.length_map]; omega, fun a ys H3 ha ha3 hp3 hK3 hS3 => ?_⟩
    obtain ⟨hs, hperm, rfl⟩ := perm_strs hp3
    have haH : H a = none := (hK1.trans hK2).fresh hS2 ha
    have hl3 := hK3 _ _ hl2 hlp hlc
    rw [List.length_map] at hS3
    have hne2 : hs ≠ [] := fun z => hne (List.length_eq_zero_iff.mp (by rw [← hperm.length_eq, z]; rfl))
    obtain ⟨hap, hac⟩ := strs_nep ha3 hne2 hS3
    refine ⟨_, rfl, _, rfl, p, c, l, n + 1 + 12 + hs0.length, hs0, rfl, hS3, by omega, hl3, hne, by omega, hnd, fun b qs H4 hb hb4 hP4 hPf T hql hK4 hS4 => ?_⟩
    refine ⟨by show 2 ≤ sizeLine; decide, fun t ht => ?_⟩
    have K4 := ((hK1.trans hK2).trans hK3).trans hK4
    have ha4 := hK4 _ _ ha3 hap hac
    refine k t a b hs qs _ (K4.fresh hS4 ht) haH (((hK1.trans hK2).trans hK3).fresh hS3 hb) (fun t' ht' => ((hK1.trans hK2).trans hK3).fresh hS3 (hPf t' ht')) upd_same ?_ ?_ (fun t' ht' => ?_) (T.perm hperm (List.Perm.refl _)) hne2 (by rw [hperm.length_eq]; omega) (fun h hh => hgood h (hperm.mem_iff.mp hh)) (by rw [hperm.length_eq]; exact hql) (K4.new ht) ((hS4.new ht).mono (by omega))
    · rw [upd_ne (ne_of_none ha4 ht)]
      exact ha4
    · rw [upd_ne (ne_of_none hb4 ht)]
      exact hb4
    · rw [upd_ne (ne_of_none (hP4 t' ht') ht)]
      exact hP4 t' ht'
end
end K02

namespace K02
open PySem PySem.Spec PyProof.Rows L2 Tr Sq
/-! ### _law_v_beside -/
abbrev sBes : Stmt := top 49
def besL (ps : Prs) (h : Str) : List Str := ((ps.filter fun q => decide (q.1 = h)).map (·.2)) ++ ((ps.filter fun q => decide (q.2 = h)).map (·.1))
theorem besL_mem {ps : Prs} {h y : Str} : y ∈ besL ps h ↔ Adj ps h y := by
  unfold besL Adj
  simp only [List.mem_append, List.mem_map, List.mem_filter, decide_eq_true_eq]
  constructor
  · rintro (⟨⟨a, b⟩, ⟨h1, h2⟩, h3⟩ | ⟨⟨a, b⟩, ⟨h1, h2⟩, h3⟩)
    · exact .inl (by simp only at h2 h3; rw [← h2, ← h3]; exact h1)
    · exact .inr (by simp only at h2 h3; rw [← h2, ← h3]; exact h1)
  · rintro (e | e)
    · exact .inl ⟨(h, y), ⟨e, rfl⟩, rfl⟩
    · exact .inr ⟨(y, h), ⟨e, rfl⟩, rfl⟩
def spBes (K : PySem.W.Frag) : Sp := fun vs H Q _ => ∃ (q : Addr) (h : Str) (qs : PrL), vs = [.ref q, .str h] ∧ H q = some (.lst (refsL qs)) ∧ PrsAt H qs ∧ qs.length ≤ 30 ∧
  ∀ (r : Addr) (ys : List Str) (H' : Hp), Evl.Ex H H' → H r = none → H' r = some (.lst (ys.map V.str)) → ys.Perm (besL (qs.map (·.2)) h) → sortedS ys = true → Q (.ref r) H'
section
variable {P : Program} {w : World} {K : PySem.W.Frag} {mg : Str → Option Value} {base : Heap}
theorem scBes : FnScope ["paths", "house", "found", "one", "other"] ["paths", "house"] (defScope sBes) := ⟨rfl, rfl, rfl, by decide +kernel, rfl, by decide +kernel, by decide +kernel⟩
theorem ok_bes {f : Addr} {fd : FuncData} (F : FnP K "_law_v_beside" sBes f fd) (gS : mg "sorted" = none) : FnOk P w K mg base CX0 1 f fd ["paths", "house"] (spBes K) := by
  refine F.ok scBes (fun vs H Q E h => ?_) (fun cdv A outer s H vs Q E hr h => ?_)
  · obtain ⟨q, h, qs, rfl, _⟩ := h
    rfl
  · obtain ⟨q, h, qs, rfl, hq, hP, hl, k⟩ := h
    refine' ⟨_, PSs.nox (pss_cons (ps_set (i := 2) scBes.nd rfl (.inl rfl) (pe_op op_cat ?l1 ?l2)) (pss_one (ps_ret (pe_callB cr_sortedS (by rfl) gS (by decide +kernel) (pa_cons (pv 2) pa_nil))))), ?rd⟩
    case l1 =>
      refine pe_lc (own := [("one", 3), ("other", 4)]) (g := gTup K 2 (gCons (gName 3) (gCons (gName 4) gNil))) (tt := tTest (tOp rEq (tVar 3) (tVar 1))) (te := tVar 4) rfl scBes.nd (pi_list (pv 0))
        (blkOk_by (own := [("one", 3), ("other", 4)]) (N := ["paths", "house", "found", "one", "other"]) (sc := defScope sBes) (by decide +kernel)) (fun _ _ _ _ _ => pg_tup rfl (pgs_cons (pg_name (i := 3) scBes.nd rfl (.inl rfl)) (pgs_cons (pg_name (i := 4) scBes.nd rfl (.inl rfl)) pgs_nil))) (fun _ _ _ _ _ => pts_one (pt_cmpR op_eq (pv 3) (pv 1) (nomark _))) ?_
      intro _ _ _ _ _
      exact pv 4
    case l2 =>
      refine pe_lc (own := [("one", 3), ("other", 4)]) (g := gTup K 2 (gCons (gName 3) (gCons (gName 4) gNil))) (tt := tTest (tOp rEq (tVar 4) (tVar 1))) (te := tVar 3) rfl scBes.nd (pi_list (pv 0))
        (blkOk_by (own := [("one", 3), ("other", 4)]) (N := ["paths", "house", "found", "one", "other"]) (sc := defScope sBes) (by decide +kernel)) (fun _ _ _ _ _ => pg_tup rfl (pgs_cons (pg_name (i := 3) scBes.nd rfl (.inl rfl)) (pgs_cons (pg_name (i := 4) scBes.nd rfl (.inl rfl)) pgs_nil))) (fun _ _ _ _ _ => pts_one (pt_cmpR op_eq (pv 4) (pv 1) (nomark _))) ?_
      intro _ _ _ _ _
      exact pv 3
    have len1 : ∀ i, (((qs.map (·.2)).take i).filter fun q => decide (q.1 = h)).length ≤ 30 := fun i => Nat.le_trans (List.length_filter_le _ _) (by rw [List.length_take, List.length_map]; omega)
    have len2 : ∀ i, (((qs.map (·.2)).take i).filter fun q => decide (q.2 = h)).length ≤ 30 := fun i => Nat.le_trans (List.length_filter_le _ _) (by rw [List.length_take, List.length_map]; omega)
    have all : ∀ {α : Type} (g : List (Str × Str) → α), g ((qs.map (·.2)).take (refsL qs).length) = g (qs.map (·.2)) := fun g => by
      congr 1
      unfold refsL
      rw [List.length_map, List.take_of_length_le (by rw [List.length_map]; exact Nat.le_refl _)]
    refine ⟨_, rfl, q, rfl, ⟨_, SqL.of hq⟩, fun D hD => ?_⟩
    refine lc_it (walk_list (xs := refsL qs)) (fun i H' => Evl.Ex H H' ∧ H' D = some (.lst (((((qs.map (·.2)).take i).filter fun q => decide (q.1 = h)).map (·.2)).map V.str))) ⟨Evl.Ex.new hD, upd_same⟩ (fun i H' _ hp => SqL.of (hp.1 _ _ hq)) (fun i x H1 H2 hi hp hy => ?_) (fun H1 hp => ?_)
    · obtain ⟨x1, e1⟩ := hp
      obtain ⟨rfl, hx⟩ := hy
      unfold refsL at hi hx
      rw [List.length_map] at hi
      obtain ⟨t, ht⟩ := getD_of hi
      rw [List.getElem?_map, ht] at hx
      cases hx
      obtain ⟨T, a, b⟩ := t
      have hT := x1 _ _ (hP _ (List.mem_of_getElem? ht))
      have tk : (qs.map (·.2)).take (i + 1) = (qs.map (·.2)).take i ++ [(a, b)] := by rw [List.take_add_one, List.getElem?_map, ht]; rfl
      refine ⟨T, _, rfl, SqT.of hT, rfl, _, _, rfl, _, _, rfl, rfl, rfl, _, rfl, _, rfl, rfl, _, rfl, ?_⟩
      refine ite2 (fun z => ?_) (fun z => ?_)
      · have z : a = h := by simpa using z
        refine ⟨_, rfl, _, e1, ?_, ex_upd x1 hD, ?_⟩
        · rw [List.length_map, List.length_map]
          exact Nat.lt_of_le_of_lt (len1 i) (by decide)
        · rw [upd_same, tk, List.filter_append]
          simp [z]
      · have z : ¬ a = h := by simpa using z
        refine ⟨x1, ?_⟩
        rw [e1, tk, List.filter_append]
        simp [z]
    · obtain ⟨x1, e1⟩ := hp
      rw [all (fun l => ((l.filter fun q => decide (q.1 = h)).map (·.2)).map V.str)] at e1
      refine ⟨_, rfl, q, rfl, ⟨_, SqL.of (x1 _ _ hq)⟩, fun D2 hD2 => ?_⟩
      have nD : D ≠ D2 := ne_of_none e1 hD2
      refine lc_it (walk_list (xs := refsL qs)) (fun i H' => Evl.Ex H1 H' ∧ H' D2 = some (.lst (((((qs.map (·.2)).take i).filter fun q => decide (q.2 = h)).map (·.1)).map V.str))) ⟨Evl.Ex.new hD2, upd_same⟩ (fun i H' _ hp => SqL.of (hp.1 _ _ (x1 _ _ hq))) (fun i x H3 H4 hi hp hy => ?_) (fun H3 hp => ?_)
      · obtain ⟨x3, e3⟩ := hp
        obtain ⟨rfl, hx⟩ := hy
        unfold refsL at hi hx
        rw [List.length_map] at hi
        obtain ⟨t, ht⟩ := getD_of hi
        rw [List.getElem?_map, ht] at hx
        cases hx
        obtain ⟨T, a, b⟩ := t
        have hT := x3 _ _ (x1 _ _ (hP _ (List.mem_of_getElem? ht)))
        have tk : (qs.map (·.2)).take (i + 1) = (qs.map (·.2)).take i ++ [(a, b)] := by rw [List.take_add_one, List.getElem?_map, ht]; rfl
        refine ⟨T, _, rfl, SqT.of hT, rfl, _, _, rfl, _, _, rfl, rfl, rfl, _, rfl, _, rfl, rfl, _, rfl, ?_⟩
        refine ite2 (fun z => ?_) (fun z => ?_)
        · have z : b = h := by simpa using z
          refine ⟨_, rfl, _, e3, ?_, ex_upd x3 hD2, ?_⟩
          · rw [List.length_map, List.length_map]
            exact Nat.lt_of_le_of_lt (len2 i) (by decide)
          · rw [upd_same, tk, List.filter_append]
            simp [z]
        · have z : ¬ b = h := by simpa using z
          refine ⟨x3, ?_⟩
          rw [e3, tk, List.filter_append]
          simp [z]
      · obtain ⟨x3, e3⟩ := hp
        rw [all (fun l => ((l.filter fun q => decide (q.2 = h)).map (·.1)).map V.str)] at e3
        have l1 := len1 (qs.map (·.2)).length
        have l2 := len2 (qs.map (·.2)).length
        rw [List.take_length] at l1 l2
        refine ⟨D, D2, _, _, rfl, rfl, x3 _ _ e1, e3, ?_, fun p hp2 => ?_⟩
        · rw [List.length_map, List.length_map, List.length_map, List.length_map]
          exact Nat.le_trans (show _ ≤ 60 by omega) (by decide)
        · have x4 := (x1.trans x3).trans (Evl.Ex.new (o := .lst (((((qs.map (·.2)).filter fun q => decide (q.1 = h)).map (·.2)).map V.str) ++ ((((qs.map (·.2)).filter fun q => decide (q.2 = h)).map (·.1)).map V.str))) hp2)
          refine ⟨_, rfl, p, besL (qs.map (·.2)) h, rfl, SqL.of (by rw [upd_same]; unfold besL; rw [List.map_append]), ?_, fun ys r hys hsr hr2 => ?_⟩
          · unfold besL
            rw [List.length_append, List.length_map, List.length_map]
            omega
          · refine k r ys _ (x4.trans (Evl.Ex.new hr2)) ?_ upd_same hys hsr
            cases q1 : H r with
            | none => rfl
            | some o => rw [x4 _ _ q1] at hr2; cases hr2
end
end K02

/-! Rows of houses gone on from a stack, until one ends at a house. Law-independent, no machine. -/
namespace Tr
open PySem
structure Good (hs : List Str) (ps : Prs) (a : Str) (t : List Str) : Prop where
  hd : ∃ l, t = a :: l
  nd : t.Nodup
  row : Row ps t
  mem : ∀ x ∈ t, x ∈ hs
structure DInv (hs : List Str) (ps : Prs) (a : Str) (w : List Str) (R : List (List Str)) : Prop where
  good : ∀ t ∈ R, Good hs ps a t
  pre : ∃ t ∈ R, ∃ rest, t ++ rest = w
  idx : ∀ i t, R[i]? = some t → i ≤ 60 * (t.length - 1)
def wgt (n : Nat) (R : List (List Str)) : Nat := (R.map fun t => 100 ^ (n + 1 - t.length)).sum
theorem DInv.start {hs : List Str} {ps : Prs} {a : Str} {w l : List Str} (ha : a ∈ hs) (h : w = a :: l) : DInv hs ps a w [[a]] := by
  refine ⟨fun t ht => ?_, ⟨[a], by simp, l, by rw [h]; rfl⟩, fun i t h => ?_⟩
  · simp only [List.mem_singleton] at ht
    subst ht
    exact ⟨⟨[], rfl⟩, by simp, fun i x y h1 h2 => by simp at h2, fun x hx => by simp at hx; rw [hx]; exact ha⟩
  · have := (List.getElem?_eq_some_iff.mp h).1
    simp at this
    omega
theorem Good.done {hs : List Str} {ps : Prs} {a b : Str} {t w : List Str} {f : Str → Option Str} (g : Good hs ps a t) (R : Rt hs ps b f) (hw : Pth f b a w) (hl : t.getLast? = some b) : t = w := by
  obtain ⟨l, rfl⟩ := g.hd
  exact (R.row l a g.nd g.row hl).uniq R.none hw
theorem Good.len {hs : List Str} {ps : Prs} {a : Str} {t : List Str} (g : Good hs ps a t) : 1 ≤ t.length ∧ t.length ≤ hs.length := by
  refine ⟨?_, nodup_le g.nd g.mem⟩
  obtain ⟨l, rfl⟩ := g.hd
  simp
theorem Good.more {hs : List Str} {ps : Prs} (T : Tree hs ps) {a c y : Str} {t : List Str} (g : Good hs ps a t) (hl : t.getLast? = some c) (ha : Adj ps c y) (hy : y ∉ t) : Good hs ps a (t ++ [y]) := by
  obtain ⟨l, e⟩ := g.hd
  refine ⟨⟨l ++ [y], by rw [e]; rfl⟩, ?_, fun i u v h1 h2 => ?_, fun x hx => ?_⟩
  · rw [List.nodup_append]
    refine ⟨g.nd, by simp, fun x hx z hz => ?_⟩
    simp only [List.mem_singleton] at hz
    intro q
    exact hy (by rw [← hz, ← q]; exact hx)
  · have hlt := (List.getElem?_eq_some_iff.mp h2).1
    rw [List.length_append, List.length_singleton] at hlt
    by_cases hi : i + 1 < t.length
    · rw [List.getElem?_append_left (by omega)] at h1
      rw [List.getElem?_append_left hi] at h2
      exact g.row i u v h1 h2
    · have e1 : i + 1 = t.length := by omega
      rw [List.getElem?_append_left (by omega)] at h1
      rw [e1, List.getElem?_append_right (Nat.le_refl _), Nat.sub_self] at h2
      simp at h2
      rw [List.getLast?_eq_getElem?, ← e1, Nat.add_sub_cancel, h1] at hl
      rw [Option.some.inj hl, ← h2]
      exact ha
  · rcases List.mem_append.mp hx with hx | hx
    · exact g.mem x hx
    · simp only [List.mem_singleton] at hx
      rw [hx]
      exact (T.mem ha).2
theorem wgt_app (n : Nat) (A B : List (List Str)) : wgt n (A ++ B) = wgt n A + wgt n B := by
  unfold wgt
  rw [List.map_append, List.sum_append]
theorem wgt_more (n k : Nat) (t : List Str) (h : t.length + 1 = k) : ∀ F : List Str, wgt n (F.map fun y => t ++ [y]) = F.length * 100 ^ (n + 1 - k)
  | [] => by simp [wgt]
  | y :: r => by
    have ih := wgt_more n k t h r
    unfold wgt at ih ⊢
    rw [List.map_cons, List.map_cons, List.sum_cons, ih, List.length_append, List.length_singleton, h, List.length_cons, Nat.succ_mul]
    omega
theorem DInv.step {hs : List Str} {ps : Prs} (T : Tree hs ps) {a b c : Str} {w t : List Str} {R0 : List (List Str)} {f : Str → Option Str} (R : Rt hs ps b f) (hw : Pth f b a w) (D : DInv hs ps a w (R0 ++ [t])) (hl : t.getLast? = some c) (hcb : c ≠ b) {F : List Str}
    (h1 : ∀ y ∈ F, Adj ps c y ∧ y ∉ t) (h2 : ∀ y, Adj ps c y → y ∉ t → y ∈ F) (h3 : F.length ≤ 60) : DInv hs ps a w (R0 ++ F.map fun y => t ++ [y]) ∧ wgt hs.length (R0 ++ F.map fun y => t ++ [y]) < wgt hs.length (R0 ++ [t]) := by
  have gt := D.good t (by simp)
  obtain ⟨l1, l2⟩ := gt.len
  have it := D.idx R0.length t (by rw [List.getElem?_append_right (Nat.le_refl _), Nat.sub_self]; rfl)
  refine ⟨⟨fun u hu => ?_, ?_, fun i u hu => ?_⟩, ?_⟩
  · rcases List.mem_append.mp hu with hu | hu
    · exact D.good u (List.mem_append_left _ hu)
    · obtain ⟨y, hy, rfl⟩ := List.mem_map.mp hu
      exact gt.more T hl (h1 y hy).1 (h1 y hy).2
  · obtain ⟨u, hu, rest, e⟩ := D.pre
    rcases List.mem_append.mp hu with hu | hu
    · exact ⟨u, List.mem_append_left _ hu, rest, e⟩
    · simp only [List.mem_singleton] at hu
      subst hu
      cases rest with
      | nil =>
        rw [List.append_nil] at e
        rw [e, hw.last] at hl
        exact absurd (Option.some.inj hl).symm hcb
      | cons y r =>
        refine ⟨u ++ [y], List.mem_append_right _ (List.mem_map.mpr ⟨y, ?_, rfl⟩), r, by rw [List.append_assoc]; exact e⟩
        have n1 := hw.nodup R.none
        rw [← e] at n1
        have hy : y ∉ u := fun z => (List.nodup_append.mp n1).2.2 y z y (by simp) rfl
        refine h2 y ?_ hy
        have q1 : w[u.length - 1]? = some c := by
          rw [← e, List.getElem?_append_left (by omega), ← List.getLast?_eq_getElem?]
          exact hl
        have q2 : w[u.length - 1 + 1]? = some y := by
          rw [← e, show u.length - 1 + 1 = u.length by omega, List.getElem?_append_right (Nat.le_refl _), Nat.sub_self]
          rfl
        exact hw.row R _ _ _ q1 q2
  · by_cases hi : i < R0.length
    · rw [List.getElem?_append_left hi] at hu
      exact D.idx i u (by rw [List.getElem?_append_left hi]; exact hu)
    · have hlt := (List.getElem?_eq_some_iff.mp hu).1
      rw [List.getElem?_append_right (by omega), List.getElem?_map] at hu
      obtain ⟨y, _, rfl⟩ := Option.map_eq_some_iff.mp hu
      rw [List.length_append, List.length_map] at hlt
      rw [List.length_append, List.length_singleton]
      omega
  · rw [wgt_app, wgt_app, wgt_more hs.length (t.length + 1) t rfl F]
    have e1 : wgt hs.length [t] = 100 ^ (hs.length + 1 - t.length) := by simp [wgt]
    rw [e1, show hs.length + 1 - t.length = (hs.length + 1 - (t.length + 1)) + 1 by omega, Nat.pow_succ]
    have : 0 < 100 ^ (hs.length + 1 - (t.length + 1)) := Nat.pow_pos (by decide)
    have : F.length * 100 ^ (hs.length + 1 - (t.length + 1)) ≤ 60 * 100 ^ (hs.length + 1 - (t.length + 1)) := Nat.mul_le_mul_right _ h3
    omega
theorem DInv.len {hs : List Str} {ps : Prs} {a : Str} {w : List Str} {R : List (List Str)} (D : DInv hs ps a w R) (h : hs.length ≤ 30) : R.length ≤ 2000 := by
  cases hR : R.getLast? with
  | none =>
    rw [List.getLast?_eq_none_iff] at hR
    rw [hR]
    exact Nat.zero_le _
  | some t =>
    rw [List.getLast?_eq_getElem?] at hR
    have := D.idx _ t hR
    have := (D.good t (List.mem_of_getElem? hR)).len
    omega
end Tr

namespace K02
open PySem PySem.Spec PyProof.Rows L2 Tr Sq
/-! ### _law_v_way -/
abbrev sWay : Stmt := top 50
/-- rows of names, each a list at its place -/
abbrev RwL : Type := List (Addr × List Str)
def RwAt (H0 H : Hp) (R : RwL) : Prop := ∀ t ∈ R, H t.1 = some (.lst (t.2.map V.str)) ∧ H0 t.1 = none
def rwRefs (R : RwL) : List V := R.map fun t => .ref t.1
def pdRow (l : List Str) : PyData := .list (l.map PyData.str)
theorem dpa_strs {K : PySem.W.Frag} {H : Hp} : ∀ l : List Str, DpAll K H (l.map V.str) (l.map PyData.str)
  | [] => .nil
  | n :: r => .cons (.str n) (dpa_strs r)
theorem dpa_rows {K : PySem.W.Frag} {H0 H : Hp} : ∀ {R : RwL}, RwAt H0 H R → DpAll K H (rwRefs R) (R.map fun t => pdRow t.2)
  | [], _ => .nil
  | t :: r, h => .cons (.lst (SqL.of (h t List.mem_cons_self).1) (dpa_strs _)) (dpa_rows fun u hu => h u (List.mem_cons_of_mem _ hu))
theorem lay_strs : ∀ l : List Str, (∀ z ∈ l, PyData.strOk z = true) → PyData.canLayAll0 (l.map PyData.str) = true
  | [], _ => by simp [PyData.canLayAll0]
  | n :: r, h => by simp [PyData.canLayAll0, PyData.canLay0, h n List.mem_cons_self, lay_strs r fun z hz => h z (List.mem_cons_of_mem _ hz)]
theorem depth_strs : ∀ l : List Str, PyData.depthAll (l.map PyData.str) = 0
  | [] => by simp [PyData.depthAll]
  | n :: r => by simp [PyData.depthAll, PyData.depth, depth_strs r]
theorem lay_rows : ∀ R : List (List Str), (∀ t ∈ R, ∀ z ∈ t, PyData.strOk z = true) → PyData.canLayAll0 (R.map pdRow) = true
  | [], _ => by simp [PyData.canLayAll0]
  | n :: r, h => by
    rw [List.map_cons]
    unfold pdRow
    simp only [PyData.canLayAll0, PyData.canLay0, lay_strs n (h n List.mem_cons_self), Bool.true_and]
    exact lay_rows r fun t ht => h t (List.mem_cons_of_mem _ ht)
theorem depth_rows : ∀ R : List (List Str), PyData.depthAll (R.map pdRow) ≤ 1
  | [] => by simp [PyData.depthAll]
  | n :: r => by
    have := depth_rows r
    rw [List.map_cons]
    unfold pdRow at this ⊢
    simp only [PyData.depthAll, PyData.depth, depth_strs n]
    omega
theorem shaped_rows (R : List (List Str)) (h : ∀ t ∈ R, ∀ z ∈ t, PyData.strOk z = true) : SeqAt.shaped (.list (R.map pdRow)) = true := by
  unfold SeqAt.shaped
  have := depth_rows R
  simp only [PyData.canLay0, PyData.depth, lay_rows R h, Bool.true_and]
  exact decide_eq_true (by omega)
theorem eqv_rows_nil (R : List (List Str)) : PyData.eqv (.list (R.map pdRow)) (.list []) = R.isEmpty := by
  cases R <;> simp [PyData.eqv, PyData.eqvAll]
theorem good_ok : ∀ z ∈ names12, PyData.strOk z = true := by decide +kernel
theorem in_strs {h : Str} {l : List Str} : inV (.str h) (l.map V.str) = decide (h ∈ l) := by
  induction l with
  | nil => rfl
  | cons a r ih =>
    unfold inV at ih ⊢
    rw [List.map_cons, List.any_cons, ih]
    have : eqV (.str a) (.str h) = decide (h = a) := by
      simp [eqV]
      rw [Bool.eq_iff_iff]
      simp
      exact eq_comm
    rw [this, Bool.eq_iff_iff]
    simp
theorem flat_strs (l : List Str) : (l.map V.str).all flatV = true := by
  rw [List.all_map]
  exact List.all_eq_true.mpr fun _ _ => rfl
def spWay : Sp := fun vs H Q _ => ∃ (q : Addr) (a b : Str) (qs : PrL) (hs : List Str) (fr : Str → Str → Option Str) (way : Str → Str → List Str), vs = [.ref q, .str a, .str b] ∧ H q = some (.lst (refsL qs)) ∧ PrsAt H qs ∧ Tree hs (qs.map (·.2)) ∧ Ways hs (qs.map (·.2)) fr way ∧ a ∈ hs ∧ b ∈ hs ∧ hs.length ≤ 30 ∧ qs.length ≤ 30 ∧ (∀ h ∈ hs, h ∈ names12) ∧
  ∀ (r : Addr) (H' : Hp), Evl.Ex H H' → H r = none → H' r = some (.lst ((way a b).map V.str)) → Q (.ref r) H'
def wDfs (H : Hp) (q ro : Addr) (a b : Str) (hs : List Str) (ps : Prs) (w : List Str) (mm : Nat) (σ : L2.St) (H' : Hp) : Prop := ∃ (R : RwL) (v4 v5 v6 : Option V), wgt hs.length (R.map (·.2)) = mm ∧ σ = [some (.ref q), some (.str a), some (.str b), some (.ref ro), v4, v5, v6] ∧ Evl.Ex H H' ∧ H' ro = some (.lst (rwRefs R)) ∧ RwAt H H' R ∧ DInv hs ps a w (R.map (·.2))
section
variable {P : Program} {w : World} {K : PySem.W.Frag} {mg : Str → Option Value} {base : Heap}
theorem scWay : FnScope ["paths", "one", "other", "rows", "row", "further", "house"] ["paths", "one", "other"] (defScope sWay) := ⟨rfl, rfl, rfl, by decide +kernel, rfl, by decide +kernel, by decide +kernel⟩
theorem ok_way {f fB : Addr} {fd fdB : FuncData} (F : FnP K "_law_v_way" sWay f fd) (GB : FnOk P w K mg base CX0 1 fB fdB ["paths", "house"] (spBes K)) (bB : L2.Binds K fdB ["paths", "house"] []) (kB : PySem.W.keepIn K (.ref fB) = true) (gB : mg "_law_v_beside" = some (.ref fB)) :
    FnOk P w K mg base CX0 2 f fd ["paths", "one", "other"] spWay := by
  refine F.ok scWay (fun vs H Q E h => ?_) (fun cdv A outer s H vs Q E hr h => ?_)
  · obtain ⟨q, a, b, qs, hs, fr, way, rfl, _⟩ := h
    rfl
  · obtain ⟨q, a, b, qs, hs, fr, way, rfl, hq, hP, T, W, ha, hb, h30, q30, hgood, k⟩ := h
    refine' ⟨_, PSs.nox (pss_cons (ps_set (i := 3) scWay.nd rfl (.inl rfl) (pe_lst (pa_cons (pe_lst (pa_cons (pv 1) pa_nil)) pa_nil)))
      (pss_cons (ps_while PassesOwn.never (pt_cmpR (op_neD hr.units) (pv 3) (pe_lst pa_nil) (nomark _))
        (pss_cons (ps_set (i := 4) scWay.nd rfl (.inr rfl) (pe_bm0 PySem.F.plainAttrs_list PySem.F.slot_list_pop PySem.F.type_list_pop mt_pop (pv 3)))
        (pss_cons (ps_if (pt_cmpR op_eq (pe_ix ix_list (pv 4) (pe_un un_neg pe_int) (fun _ _ => rfl)) (pv 2) (nomark _)) (pss_one (ps_ret (pv 4))) pss_nil)
        (pss_cons ?l1 (pss_one (ps_expr (pe_bm PySem.F.plainAttrs_list PySem.F.slot_list_extend PySem.F.type_list_extend mt_extend (pv 3) (pa_cons ?l2 pa_nil))))))))
      (pss_one (ps_ret (pe_lst pa_nil))))), ?rd⟩
    case l1 =>
      refine ps_setLc (i := 5) (own := [("house", 6)]) (g := gName 6) (tt := tTest (tOp (rIn K true) (tVar 6) (tVar 4))) (te := tVar 6) (by rfl) scWay.nd rfl rfl (sw_true rfl rfl rfl (by decide +kernel)) (pi_list (pe_call GB hr rfl gB kB bB .nil pass0 (pa_cons (pv 0) (pa_cons (pe_ix ix_list (pv 4) (pe_un un_neg pe_int) (fun _ _ => rfl)) pa_nil))))
        (blkOk_by (own := [("house", 6)]) (N := ["paths", "one", "other", "rows", "row", "further", "house"]) (sc := defScope sWay) (by decide +kernel)) (fun _ _ _ _ _ => pg_name (i := 6) scWay.nd rfl (.inl rfl)) (fun _ _ _ _ _ => pts_one (pt_cmpR op_notIn_seq (pv 6) (pv 4) rfl)) ?_
      intro _ _ _ _ _
      exact pv 6
    case l2 =>
      refine pe_lc (own := [("house", 6)]) (g := gName 6) (tt := tYes) (te := tOp rCat (tVar 4) (tLst (tCons (tVar 6) tNil))) rfl scWay.nd (pi_list (pv 5))
        (blkOk_by (own := [("house", 6)]) (N := ["paths", "one", "other", "rows", "row", "further", "house"]) (sc := defScope sWay) (by decide +kernel)) (fun _ _ _ _ _ => pg_name (i := 6) scWay.nd rfl (.inl rfl)) (fun _ _ _ _ _ => pts_nil) ?_
      intro _ _ _ _ _
      exact pe_op op_cat (pv 4) (pe_lst (pa_cons (pv 6) pa_nil))
    refine ⟨_, rfl, by show 1 ≤ sizeLine; decide, fun t1 ht1 => ⟨by show 1 ≤ sizeLine; decide, fun ro hro => ?_⟩⟩
    have n1 : t1 ≠ ro := ne_of_none upd_same hro
    have hroH : H ro = none := by rw [upd_ne n1.symm] at hro; exact hro
    obtain ⟨lw, ew, _⟩ := W.tail_last ha hb
    have pw := W.pth a ha b hb
    refine ⟨wDfs H q ro a b hs (qs.map (·.2)) (way a b), ⟨_, [(t1, [a])], none, none, none, rfl, rfl, (Evl.Ex.new ht1).trans (Evl.Ex.new hro), upd_same, fun t ht => ?_, DInv.start ha ew⟩, ?_⟩
    · simp only [List.mem_singleton] at ht
      subst ht
      exact ⟨by rw [upd_ne n1]; exact upd_same, ht1⟩
    · rintro mm σ H1 ⟨R, v4, v5, v6, hmm, rfl, x1, e1, e2, D⟩
      have hok : ∀ t ∈ R.map (·.2), ∀ z ∈ t, PyData.strOk z = true := fun t ht z hz => good_ok z (hgood z ((D.good t ht).mem z hz))
      have em : R.map (fun t => pdRow t.2) = (R.map (·.2)).map pdRow := by rw [List.map_map]; rfl
      refine ⟨_, rfl, Nat.zero_le _, fun e he => ?_⟩
      have x2 : Evl.Ex H1 (upd H1 e (.lst [])) := Evl.Ex.new he
      have y2 : upd H1 e (.lst []) e = some (.lst []) := upd_same
      generalize upd H1 e (.lst []) = H2 at x2 y2
      have e2' : RwAt H H2 R := fun t ht => ⟨x2 _ _ (e2 t ht).1, (e2 t ht).2⟩
      refine ⟨_, _, .lst (SqL.of (x2 _ _ e1)) (dpa_rows e2'), .lst (SqL.of y2) .nil, by rw [em]; exact shaped_rows _ hok, shaped_rows [] (fun t ht => by simp at ht), _, rfl, ?_⟩
      rw [em, eqv_rows_nil]
      have hRne : R ≠ [] := fun z => by
        obtain ⟨t, ht, _⟩ := D.pre
        rw [z] at ht
        simp at ht
      have hie : (!(R.map (·.2)).isEmpty) = true := by
        cases R with
        | nil => exact absurd rfl hRne
        | cons x y => rfl
      rw [hie]
      obtain ⟨R0, t, rfl⟩ : ∃ R0 t, R = R0 ++ [t] := ⟨R.dropLast, R.getLast hRne, (List.dropLast_concat_getLast hRne).symm⟩
      refine iteT ⟨fun σ' H' => ∃ m', m' < mm ∧ wDfs H q ro a b hs (qs.map (·.2)) (way a b) m' σ' H', fun σ' H' z => z, ?_⟩
      have er : rwRefs (R0 ++ [t]) = rwRefs R0 ++ [.ref t.1] := by unfold rwRefs; rw [List.map_append]; rfl
      rw [er] at e1
      have e3 := x2 _ _ e1
      refine ⟨_, rfl, .inl ⟨rfl, _, SqL.of e3⟩, ro, _, .ref t.1, rfl, rfl, e3, by simp, ?_⟩
      rw [List.dropLast_concat]
      have tm : t ∈ R0 ++ [t] := by simp
      obtain ⟨g1, g2⟩ := e2' t tm
      have gt := D.good t.2 (List.mem_map.mpr ⟨t, tm, rfl⟩)
      have htne : t.2 ≠ [] := fun z => by have := gt.len.1; rw [z] at this; simp at this
      have trn : ∀ u ∈ R0 ++ [t], u.1 ≠ ro := fun u hu z => by
        have h1 := (e2' u hu).1
        rw [z, e3] at h1
        have h2 := (D.good u.2 (List.mem_map.mpr ⟨u, hu, rfl⟩)).len.1
        injection h1 with h1
        injection h1 with h1
        have h3 : V.ref t.1 ∈ u.2.map V.str := by rw [← h1]; simp
        obtain ⟨z9, _, e9⟩ := List.mem_map.mp h3
        cases e9
      have x3 : Evl.Ex H (upd H2 ro (.lst (rwRefs R0))) := ex_upd (x1.trans x2) hroH
      have f1 : upd H2 ro (.lst (rwRefs R0)) ro = some (.lst (rwRefs R0)) := upd_same
      have f2 : RwAt H (upd H2 ro (.lst (rwRefs R0))) (R0 ++ [t]) := fun u hu => ⟨by rw [upd_ne (trn u hu)]; exact (e2' u hu).1, (e2' u hu).2⟩
      generalize upd H2 ro (.lst (rwRefs R0)) = H3 at x3 f1 f2
      obtain ⟨Y, c, eY⟩ : ∃ Y c, t.2 = Y ++ [c] := ⟨t.2.dropLast, t.2.getLast htne, (List.dropLast_concat_getLast htne).symm⟩
      have hlast : t.2.getLast? = some c := by rw [eY]; simp
      have ht3 := (f2 t tm).1
      have ht3' : H3 t.1 = some (.lst (Y.map V.str ++ [.str c])) := by rw [ht3, eY, List.map_append]; rfl
      refine ⟨_, rfl, _, rfl, t.1, _, -1, _, rfl, rfl, SqL.of ht3', atI_last _ _, _, rfl, rfl, _, rfl, ?_⟩
      by_cases hcb : c = b
      · refine ite2 (fun _ => ⟨_, rfl, k t.1 H3 x3 g2 ?_⟩) (fun z => absurd ?_ z)
        · rw [ht3, gt.done (W.rt b hb) pw (by rw [hlast, hcb])]
        · simp [hcb]
      · refine ite2 (fun z => absurd z (by simp [hcb])) (fun _ => ?_)
        refine ⟨_, rfl, _, rfl, _, rfl, t.1, _, -1, _, rfl, rfl, SqL.of ht3', atI_last _ _, q, c, qs, rfl, x3 _ _ hq, hP.ex x3, q30, fun r ys H4 x4 hr4 hr4' hys _ => ?_⟩
        refine ⟨r, rfl, ⟨_, SqL.of hr4'⟩, fun D1 hD1 => ?_⟩
        have ht4 := x4 _ _ ht3
        have ysl : ys.length ≤ 60 := by
          rw [hys.length_eq]
          unfold besL
          rw [List.length_append, List.length_map, List.length_map]
          have q1 := List.length_filter_le (fun q => decide (q.1 = c)) (qs.map (·.2))
          have q2 := List.length_filter_le (fun q => decide (q.2 = c)) (qs.map (·.2))
          rw [List.length_map] at q1 q2
          omega
        refine lc_it (walk_list (xs := ys.map V.str)) (fun i H' => Evl.Ex H4 H' ∧ H' D1 = some (.lst (((ys.take i).filter fun y => !decide (y ∈ t.2)).map V.str))) ⟨Evl.Ex.new hD1, upd_same⟩ (fun i H' _ hp => SqL.of (hp.1 _ _ hr4')) (fun i x H5 H6 hi hp hy => ?_) (fun H5 hp => ?_)
        · obtain ⟨x5, d1⟩ := hp
          obtain ⟨rfl, hx⟩ := hy
          rw [List.length_map] at hi
          obtain ⟨y, hyy⟩ := getD_of hi
          rw [List.getElem?_map, hyy] at hx
          cases hx
          refine ⟨rfl, _, rfl, _, rfl, t.1, _, rfl, .inl (SqL.of (x5 _ _ ht4)), rfl, flat_strs _, _, rfl, ?_⟩
          rw [in_strs]
          have tk : ys.take (i + 1) = ys.take i ++ [y] := by rw [List.take_add_one, hyy]; rfl
          refine ite2 (fun z => ?_) (fun z => ?_)
          · have z : (!decide (y ∈ t.2)) = true := by simpa using z
            refine ⟨_, rfl, _, d1, ?_, ex_upd x5 hD1, ?_⟩
            · rw [List.length_map]
              refine Nat.lt_of_le_of_lt (Nat.le_trans (List.length_filter_le _ _) (show _ ≤ 60 by rw [List.length_take]; omega)) (by decide)
            · rw [upd_same, tk, List.filter_append, List.map_append]
              have fz : [y].filter (fun y => !decide (y ∈ t.2)) = [y] := by simp at z; simp [z]
              rw [fz]
              rfl
          · have z : (!decide (y ∈ t.2)) = false := by simpa using z
            refine ⟨x5, ?_⟩
            rw [d1, tk, List.filter_append]
            have fz : [y].filter (fun y => !decide (y ∈ t.2)) = [] := by simp at z; simp [z]
            rw [fz, List.append_nil]
        · obtain ⟨x5, d1⟩ := hp
          rw [List.length_map, List.take_length] at d1
          generalize hF : (ys.filter fun y => !decide (y ∈ t.2)) = F at d1
          have Fl : F.length ≤ 60 := by rw [← hF]; exact Nat.le_trans (List.length_filter_le _ _) ysl
          have F1 : ∀ y ∈ F, Adj (qs.map (·.2)) c y ∧ y ∉ t.2 := fun y hy => by
            rw [← hF] at hy
            obtain ⟨h1, h2⟩ := List.mem_filter.mp hy
            exact ⟨besL_mem.mp (hys.mem_iff.mp h1), by simpa using h2⟩
          have F2 : ∀ y, Adj (qs.map (·.2)) c y → y ∉ t.2 → y ∈ F := fun y h1 h2 => by
            rw [← hF]
            exact List.mem_filter.mpr ⟨hys.mem_iff.mpr (besL_mem.mpr h1), by simpa using h2⟩
          have hDm : R0.map (·.2) ++ [t.2] = (R0 ++ [t]).map (·.2) := by rw [List.map_append]; rfl
          obtain ⟨D', wl⟩ := DInv.step T (W.rt b hb) pw (by rw [hDm]; exact D) hlast hcb F1 F2 Fl
          rw [hDm, hmm] at wl
          have x35 : Evl.Ex H3 H5 := x4.trans x5
          have f15 := x35 _ _ f1
          have f25 : RwAt H H5 (R0 ++ [t]) := fun u hu => ⟨x35 _ _ (f2 u hu).1, (f2 u hu).2⟩
          have xH5 : Evl.Ex H H5 := x3.trans x35
          refine ⟨_, rfl, .inl ⟨rfl, _, SqL.of f15⟩, _, rfl, D1, rfl, ⟨_, SqL.of d1⟩, fun D2 hD2 => ?_⟩
          have hD2H : H D2 = none := by
            cases q1 : H D2 with
            | none => rfl
            | some o => rw [xH5 _ _ q1] at hD2; cases hD2
          have t5 := (f25 t tm).1
          have tl30 := gt.len.2
          refine lc_it (walk_list (xs := F.map V.str)) (fun i H' => Evl.Ex H5 H' ∧ ∃ N : RwL, H' D2 = some (.lst (rwRefs N)) ∧ RwAt H H' N ∧ N.map (·.2) = (F.take i).map fun y => t.2 ++ [y]) ⟨Evl.Ex.new hD2, [], upd_same, fun u hu => absurd hu (by simp), rfl⟩ (fun i H' _ hp => SqL.of (hp.1 _ _ d1)) (fun i x H6 H7 hi hp hy => ?_) (fun H6 hp => ?_)
          · obtain ⟨x6, N, n1, n2, n3⟩ := hp
            obtain ⟨rfl, hx⟩ := hy
            rw [List.length_map] at hi
            obtain ⟨y, hyy⟩ := getD_of hi
            rw [List.getElem?_map, hyy] at hx
            cases hx
            have tk : F.take (i + 1) = F.take i ++ [y] := by rw [List.take_add_one, hyy]; rfl
            have t7 := x6 _ _ t5
            refine ⟨rfl, _, rfl, _, rfl, by show 1 ≤ sizeLine; decide, fun p hp => ⟨t.1, p, _, _, rfl, rfl, by rw [upd_ne (ne_of_none t7 hp)]; exact t7, upd_same, ?_, fun u hu => ?_⟩⟩
            · rw [List.length_map]
              exact Nat.le_trans (show t.2.length + 1 ≤ 31 by omega) (by decide)
            · have n1' := n1
              have hDp : D2 ≠ p := ne_of_none n1 hp
              have n4 : upd H7 p (.lst [.str y]) D2 = some (.lst (rwRefs N)) := by rw [upd_ne hDp]; exact n1
              have hDu : D2 ≠ u := ne_of_none n4 hu
              have huH : H u = none := by
                cases q1 : H u with
                | none => rfl
                | some o => rw [(Evl.Ex.new hp) _ _ (x6 _ _ (xH5 _ _ q1))] at hu; cases hu
              refine ⟨_, by rw [upd_ne hDu]; exact n4, ?_, ex_upd ((x6.trans (Evl.Ex.new hp)).trans (Evl.Ex.new hu)) hD2, N ++ [(u, t.2 ++ [y])], by unfold rwRefs; rw [upd_same, List.map_append]; rfl, fun z hz => ?_, by rw [List.map_append, n3, tk, List.map_append]; rfl⟩
              · have := congrArg List.length n3
                rw [List.length_map, List.length_map, List.length_take] at this
                unfold rwRefs
                rw [List.length_map]
                exact Nat.lt_of_le_of_lt (show N.length ≤ 60 by omega) (by decide)
              · rcases List.mem_append.mp hz with hz | hz
                · obtain ⟨z1, z2⟩ := n2 z hz
                  refine ⟨?_, z2⟩
                  have w1 : upd H7 p (.lst [.str y]) z.1 = some (.lst (z.2.map V.str)) := by rw [upd_ne (ne_of_none z1 hp)]; exact z1
                  rw [upd_ne (fun q9 => by
                    rw [q9, n1] at z1
                    have len := congrArg List.length n3
                    rw [List.length_map, List.length_map] at len
                    injection z1 with z1
                    injection z1 with z1
                    have hm : V.ref z.1 ∈ rwRefs N := List.mem_map.mpr ⟨z, hz, rfl⟩
                    rw [z1] at hm
                    obtain ⟨z9, _, e9⟩ := List.mem_map.mp hm
                    cases e9), upd_ne (ne_of_none w1 hu)]
                  exact w1
                · simp only [List.mem_singleton] at hz
                  subst hz
                  refine ⟨?_, huH⟩
                  rw [upd_ne hDu.symm, upd_same, List.map_append]
                  rfl
          · obtain ⟨x6, N, n1, n2, n3⟩ := hp
            rw [List.length_map, List.take_length] at n3
            have f16 := x6 _ _ f15
            have Rl := D.len h30
            rw [List.length_map, List.length_append, List.length_singleton] at Rl
            have Nl := congrArg List.length n3
            rw [List.length_map, List.length_map] at Nl
            refine ⟨ro, D2, _, _, rfl, rfl, f16, n1, ?_, ?_⟩
            · unfold rwRefs
              rw [List.length_map, List.length_map]
              exact Nat.le_trans (show _ ≤ 3000 by omega) (by decide)
            · have hmem : ∀ u ∈ R0 ++ N, (H6 u.1 = some (.lst (u.2.map V.str)) ∧ H u.1 = none) := fun u hu => by
                rcases List.mem_append.mp hu with hu | hu
                · have := f25 u (List.mem_append_left _ hu)
                  exact ⟨x6 _ _ this.1, this.2⟩
                · exact n2 u hu
              have hDm2 : (R0 ++ N).map (·.2) = R0.map (·.2) ++ F.map fun y => t.2 ++ [y] := by rw [List.map_append, n3]
              have nro : ∀ u ∈ R0 ++ N, u.1 ≠ ro := fun u hu z => by
                have h1 := (hmem u hu).1
                have h2 := (D'.good u.2 (by rw [← hDm2]; exact List.mem_map.mpr ⟨u, hu, rfl⟩)).len.1
                rw [z, f16] at h1
                injection h1 with h1
                injection h1 with h1
                cases hu2 : u.2 with
                | nil => rw [hu2] at h2; simp at h2
                | cons x9 y9 =>
                  rw [hu2] at h1
                  have h3 : V.str x9 ∈ rwRefs R0 := by rw [h1]; simp
                  obtain ⟨z9, _, e9⟩ := List.mem_map.mp h3
                  cases e9
              refine ⟨_, wl, R0 ++ N, _, _, _, by rw [hDm2], rfl, ex_upd (xH5.trans x6) hroH, by unfold rwRefs; rw [upd_same, List.map_append], fun u hu => ⟨by rw [upd_ne (nro u hu)]; exact (hmem u hu).1, (hmem u hu).2⟩, by rw [hDm2]; exact D'⟩
end
end K02

/-! A dict comprehension whose keys are tuples. Law-independent. -/
namespace L2
open PySem PySem.Spec PyProof.Rows
section
variable {X : Cx}
/-- one entry set, its key a tuple that is known -/
theorem tupKeySet {ps : List (Addr × Obj)} {σ : St} {H : Hp} {s : Shared} {R : Value → Shared → Prop} {d b : Addr} {es : List (List Key × V)} {k : List Key} {x : V} {u : Value} {Q : Unit → Shared → Prop} (J : Inv X ps σ H s) (hd : H d = some (.dT es)) (hb : H b = some (.tup (k.map kV)))
    (room : X.A.units < cLine) (few : es.length < sizeLine) (hx : RelV x u) (go : ∀ z, Inv X ps σ (upd H d (.dT (putK es k x))) z → Q () z) : wpAny (model X.prog X.w) X.A (dictSet d (.ref b) u) Q R s := by
  obtain ⟨h1, h2, ys, h3, h4⟩ := dt_of J.hok hd
  have few1 : ys.length ≤ sizeLine := (Paired.length h3) ▸ h1
  have few2 : (putK es k x).length ≤ sizeLine := Nat.le_trans (length_putK es k x) few
  refine wpAny_dictSet_heap (hsz := few1) (show (tupleKind (mixKind X.prog X.w)).room X.A from room) (key_of J.hok hb) h4 fun hp dd same => go _ ?_
  obtain ⟨o, ents, ep, g1, g2, g3, g4, _, g5⟩ := dd
  refine d_write J (by rw [hd]; exact True.intro) same ⟨o, g1⟩ ⟨few2, h2, _, KT.keeps (h3.put k hb hx) (fun c zs hc => ?_), o, ents, ep, g1, g2, g3, g4, g5⟩
  rw [upd_ne (fun e => by rw [e, hd] at hc; cases hc)]
  exact hc
/-- {k: v for target in iter if ..}, each k a tuple: d the new dict -/
def tDcT (wi : TI) (g : TG) (tt : TT) (tk tv : TE) (vs : List Nat) : TE := fun σ H Q => wi σ H fun J H1 => ∀ d, H1 d = none → ∃ W : Nat → Nat → Hp → Prop, (∃ m, W 0 m (upd H1 d (.dT []))) ∧ ∀ i m H, W i m H →
  (J.stop i H ∧ Q (.ref d) H) ∨ (J.go i H ∧ ∃ Nx : Hp → Prop, (∀ H', Nx H' → ∃ m', m' < m ∧ W (i + 1) m' H') ∧ ∀ x H', J.yld i H x H' → g x (wipe σ vs) H' fun σ2 H2 => wipe σ2 vs = wipe σ vs ∧ tt σ2 H2 fun yes H3 =>
    if yes = true then tk σ2 H3 fun y H4 => tv σ2 H4 fun z H5 => ∃ es k b, y = .ref b ∧ H5 b = some (.tup (k.map kV)) ∧ H5 d = some (.dT es) ∧ es.length < sizeLine ∧ Nx (upd H5 d (.dT (putK es k z))) else Nx H3)
theorem dcT_run {pins : List (Addr × Obj)} {s0 : Shared} {σ : St} {H : Hp} {Q : VK} {ke ve tg it : Expr} {ifs : List Expr} {sc : Scope} {own : List (Str × Nat)} {p1 p2 : Pos} {wi : TI} {g : TG} {tt : TT} {tk tv : TE} {use : Option (Value → Sem Unit)} {Qf : Value → Shared → Prop}
    (room : X.A.units < cLine) (calm : X.calm = true) (nd : X.N.Nodup) (J0 : Inv X pins σ H s0) (pi : PI X tg it wi) (bo : BlkOk X.N X.env.scope sc own)
    (pg : ∀ (s : Shared) (H : Hp) (C : Addr) (cl : List (Str × Addr)) (fp : List Addr), PG (X.blk s H sc (compEnvC sc cl C X.env) fp) tg g) (pt : ∀ (s : Shared) (H : Hp) (C : Addr) (cl : List (Str × Addr)) (fp : List Addr), PTs (X.blk s H sc (compEnvC sc cl C X.env) fp) ifs tt)
    (pk : ∀ (s : Shared) (H : Hp) (C : Addr) (cl : List (Str × Addr)) (fp : List Addr), PE (X.blk s H sc (compEnvC sc cl C X.env) fp) ke tk) (pw : ∀ (s : Shared) (H : Hp) (C : Addr) (cl : List (Str × Addr)) (fp : List Addr), PE (X.blk s H sc (compEnvC sc cl C X.env) fp) ve tv)
    (fold : ∀ x, foldedSetIterable it X.env x = pure x) (rd : tDcT wi g tt tk tv (own.map (·.2)) σ H Q)
    (fin : ∀ d C z m H', Inv X pins σ H' z → Q (.ref d) H' → z.heap.Ns C m → FpOk X pins H' C → compPost (model X.prog X.w) X.A X.xe use Qf (.ref d) C (.ok .next) z) :
    wpAny (model X.prog X.w) X.A (comprehension (.DictComp ke ve [⟨tg, it, ifs, 0⟩] sc p1) sc X.env p2 newDict false (eval it X.env) use) Qf X.xe s0 := by
  have frees : ∀ y ∈ sc.names, y.2 = .free → ∃ c, X.env.cells.lookup y.1 = some c := fun y my e => (bo.free y my e).elim (fun q => J0.ok.has _ (.inl q)) (fun q => J0.ok.has _ (.inr q))
  refine wpAny_comprehension_free (use := use) rfl fold (closure_ok frees) bo.kind (fun y my e => (bo.uniq y my).trans (congrArg some e)) (thn (pi.run pins s0 σ H _ J0 rd) fun xv z1 hz => thn hz fun iv z2 hz2 => ?_)
  obtain ⟨ia, fp, tn, J, H2, e0, J2, T, st2, fo2, q⟩ := hz2
  cases e0
  refine wpAny_newObj_type (newEnv_comp ?_)
  generalize hd : z2.heap.objs.size = d
  have new : H2 d = none := J2.hok.fresh (Nat.le_of_eq hd)
  obtain ⟨W, ⟨m0, w0⟩, turn⟩ := q d new
  generalize hz3 : ({ z2 with heap := z2.heap.push { cls := .type "dict", data := .dict #[] } } : Shared) = z3
  have push3 : z3.heap = z2.heap.push { cls := .type "dict", data := .dict #[] } := by rw [← hz3]
  have J3 : Inv X pins σ (upd H2 d (.dT [])) z3 := by
    rw [← hz3]
    exact J2.laid (t' := z2.toks) (fun b o e => Heap.get?_push_of_some _ e) (Nat.le_of_eq hd) (by rw [← hd]; exact dt_empty z2.heap J2.big)
  have less : ∀ b ∈ fp, b < z2.heap.objs.size := fun b mb => let ⟨_, e, _⟩ := T.obj _ _ st2 b mb; Heap.lt_size e
  have fo3 : ∀ b ∈ fp, FpOk X pins (upd H2 d (.dT [])) b ∧ b < z3.heap.objs.size := fun b mb =>
    ⟨⟨(upd_ne (by rw [← hd]; exact Nat.ne_of_lt (less b mb))).trans (fo2 b mb).1, (fo2 b mb).2⟩, by rw [push3, Heap.size_push]; exact Nat.lt_succ_of_lt (less b mb)⟩
  have st3 : tn 0 z3.heap := T.keep _ _ _ st2 fun b _ o e => by rw [push3]; exact Heap.get?_push_of_some _ e
  have J4 := block_start J3 bo nd fo3
  have g3 := pg z3 (upd H2 d (.dT [])) z3.heap.objs.size (cellsFrom (z3.heap.objs.size + 1) sc.names (cloFrom X.env.cells sc.names [])) fp
  have t3 := pt z3 (upd H2 d (.dT [])) z3.heap.objs.size (cellsFrom (z3.heap.objs.size + 1) sc.names (cloFrom X.env.cells sc.names [])) fp
  have k3 := pk z3 (upd H2 d (.dT [])) z3.heap.objs.size (cellsFrom (z3.heap.objs.size + 1) sc.names (cloFrom X.env.cells sc.names [])) fp
  have v3 := pw z3 (upd H2 d (.dT [])) z3.heap.objs.size (cellsFrom (z3.heap.objs.size + 1) sc.names (cloFrom X.env.cells sc.names [])) fp
  show codeAny _ _ (.compStart (.DictComp ke ve [⟨tg, it, ifs, 0⟩] sc p1) 0 (.ref ia) (.ref d) (compEnvC sc (cellsFrom (z3.heap.objs.size + 1) sc.names (cloFrom X.env.cells sc.names [])) z3.heap.objs.size X.env)) (compPost (model X.prog X.w) X.A X.xe use Qf (.ref d) z3.heap.objs.size) { z3 with heap := pushCells (z3.heap.push { cls := .type "dict", data := .dict #[] }) sc.names }
  have bare : ∀ b ∈ fp, (upd H2 d (.dT [])) b = none := fun b mb => (fo3 b mb).1.1
  generalize hce : compEnvC sc (cellsFrom (z3.heap.objs.size + 1) sc.names (cloFrom X.env.cells sc.names [])) z3.heap.objs.size X.env = ce at J4 g3 t3 k3 v3 ⊢
  have here : ce.locals = z3.heap.objs.size := by subst hce; rfl
  generalize upd H2 d (.dT []) = H3 at J3 J4 g3 t3 k3 v3 w0 bare fo3
  generalize hz4 : ({ z3 with heap := pushCells (z3.heap.push { cls := .type "dict", data := .dict #[] }) sc.names } : Shared) = z4 at J4 ⊢
  have st4 : tn 0 z4.heap := T.keep _ _ _ st3 fun b _ o e => by rw [← hz4]; exact pushCells_keeps _ _ _ _ (Heap.get?_push_of_some _ e)
  have fpok : ∀ {σ' : St} {H' : Hp} {z : Shared}, Inv (X.blk z3 H3 sc ce fp) [] σ' H' z → (∀ b ∈ fp, H' b = none) → ∀ b ∈ fp, FpOk (X.blk z3 H3 sc ce fp) [] H' b := fun {σ' H' z} J' hn b mb =>
    ⟨hn b mb, (J'.ok.exf b mb).1, J'.ok.exfs b mb, .inl mb, fun x c e => (J'.ok.exf b mb).2 x c e, fun p hp => absurd (show p ∈ ([] : List (Addr × Obj)) ++ [] from hp) (by simp)⟩
  have whole : codeAny (model X.prog X.w) X.A (.compLoop (.DictComp ke ve [⟨tg, it, ifs, 0⟩] sc p1) 0 (.ref ia) (.ref d) ce) (compPost (model X.prog X.w) X.A X.xe use Qf (.ref d) z3.heap.objs.size) z4 := by
    refine compLoop_anyD (fun n z => ∃ i H', Inv (X.blk z3 H3 sc ce fp) [] (wipe σ (own.map (·.2))) H' z ∧ tn i z.heap ∧ (∀ b ∈ fp, H' b = none) ∧ W i n H') (fun n z5 hz5 => ?_) m0 ⟨0, H3, J4, st4, bare, w0⟩
    obtain ⟨i, H5, J5, st5, n5, w5⟩ := hz5
    rcases turn i n H5 w5 with ⟨stop, qq⟩ | ⟨go, Nx, hNx, one⟩
    · refine thnF (T.done (X.blk z3 H3 sc ce fp) rfl rfl rfl calm i [] z5 _ H5 (fun _ _ => False) J5 (fpok J5 n5) st5 stop) fun r z6 ⟨er, J6⟩ => ?_
      cases er
      have J7 : Inv X pins σ H5 z6 := J3.call' (ch := fp) J6.os J6.base J6.hok J6.bare fun b mb => let f := (fo3 b mb).1.2; ⟨f.2.2.1, f.1, f.2.2.2.1, f.2.2.2.2⟩
      have nC : H5 z3.heap.objs.size = none := here ▸ (show H5 ce.locals = none from J6.free)
      obtain ⟨m, hm, _⟩ := J6.loc
      have hm : z6.heap.Ns ce.locals m := hm
      exact fin d z3.heap.objs.size z6 m H5 J7 qq (here ▸ hm) (J3.fpOk (Nat.le_refl _) nC)
    · refine thnF (T.item (X.blk z3 H3 sc ce fp) rfl rfl rfl calm i [] z5 _ H5 (fun _ _ => False) J5 (fpok J5 n5) st5 go) fun r z6 ⟨u, er, h6⟩ => ?_
      cases er
      refine thnF h6 fun _ z7 ⟨x, H7, J7, r7, y7, st7, n7⟩ => ?_
      refine thnF (g3.run _ z7 _ H7 x u _ (J7.pinned (fpok J7 n7) (T.obj _ _ st7)) r7 (one x H7 y7)) fun _ z8 ⟨σ8, H8, J8, e8, q8⟩ => thnF (t3.run _ z8 σ8 H8 _ J8 q8) fun yes z9 ⟨H9, J9, q9⟩ => ?_
      have back : ∀ {z : Shared} {H' : Hp}, Inv (X.blk z3 H3 sc ce fp) ([] ++ pinsAt fp z7.heap) σ8 H' z → Nx H' → ∃ m, m < n ∧ ∃ i H', Inv (X.blk z3 H3 sc ce fp) [] (wipe σ (own.map (·.2))) H' z ∧ tn i z.heap ∧ (∀ b ∈ fp, H' b = none) ∧ W i m H' := fun {z H'} J' nx => by
        obtain ⟨m', less', w'⟩ := hNx H' nx
        have kept : ∀ b ∈ fp, ∀ o, z7.heap.get? b = some o → z.heap.get? b = some o ∧ H' b = none := fun b mb o e => let p := J'.pin (b, o) (List.mem_append_right _ (List.mem_append_right _ (mem_pinsAt mb e))); ⟨p.1, p.2.1⟩
        refine ⟨m', less', i + 1, H', J'.unpinned (pins := []) |>.weak ((wipe_length _ _).symm.trans ((congrArg List.length e8).symm.trans (wipe_length _ _)) |> fun e => by rw [← e8, wipe_length]) (fun j v e => (wipe_some (by rw [e8]; exact e)).1), T.keep _ _ _ st7 fun b mb o e => (kept b mb o e).1, fun b mb => ?_, w'⟩
        obtain ⟨o, e, _⟩ := T.obj _ _ st7 b mb
        exact (kept b mb o e).2
      cases yes with
      | false => exact back J9 (by simpa using q9)
      | true =>
        have q9 : tk σ8 H9 fun y H4 => tv σ8 H4 fun z H5 => ∃ es k b, y = .ref b ∧ H5 b = some (.tup (k.map kV)) ∧ H5 d = some (.dT es) ∧ es.length < sizeLine ∧ Nx (upd H5 d (.dT (putK es k z))) := by simpa using q9
        refine thnF (k3.run _ z9 σ8 H9 _ J9 q9) fun kv z10 ⟨yk, H10, J10, r10, q10⟩ => thnF (v3.run _ z10 σ8 H10 _ J10 q10) fun vv z11 ⟨yv, H11, J11, r11, es, k, b, ek, hb, he, few, nx⟩ => ?_
        subst ek
        cases (show kv = Value.ref b from r10)
        exact tupKeySet (X := X.blk z3 H3 sc ce fp) J11 he hb room few r11 fun z12 J12 => back J12 nx
  exact codeAny_compStart_dict whole (T.self X.A 0 _ _ _ st4 whole)
/-- as a value -/
theorem pe_dcT {ke ve tg it : Expr} {ifs : List Expr} {sc : Scope} {own : List (Str × Nat)} {p1 : Pos} {wi : TI} {g : TG} {tt : TT} {tk tv : TE} (room : X.A.units < cLine) (calm : X.calm = true) (nd : X.N.Nodup) (pi : PI X tg it wi) (bo : BlkOk X.N X.env.scope sc own)
    (pg : ∀ (s : Shared) (H : Hp) (C : Addr) (cl : List (Str × Addr)) (fp : List Addr), PG (X.blk s H sc (compEnvC sc cl C X.env) fp) tg g) (pt : ∀ (s : Shared) (H : Hp) (C : Addr) (cl : List (Str × Addr)) (fp : List Addr), PTs (X.blk s H sc (compEnvC sc cl C X.env) fp) ifs tt)
    (pk : ∀ (s : Shared) (H : Hp) (C : Addr) (cl : List (Str × Addr)) (fp : List Addr), PE (X.blk s H sc (compEnvC sc cl C X.env) fp) ke tk) (pw : ∀ (s : Shared) (H : Hp) (C : Addr) (cl : List (Str × Addr)) (fp : List Addr), PE (X.blk s H sc (compEnvC sc cl C X.env) fp) ve tv)
    (fold : ∀ x, foldedSetIterable it X.env x = pure x := by intro _; rfl) : PE X (.DictComp ke ve [⟨tg, it, ifs, 0⟩] sc p1) (tDcT wi g tt tk tv (own.map (·.2))) := by
  refine ⟨fun pins s σ H Q J h => ?_⟩
  rw [arm_eval_DictComp]
  exact dcT_run room calm nd J pi bo pg pt pk pw fold h fun d C z m H' J' q hn fr => ⟨m, hn, fun hp sb => ⟨.ref d, H', J'.turned (t' := z.toks) (fun b o hb e => (sb.2 b hb).trans e) fr.1 fr.2.1 fr.2.2.2.1 fr.2.2.2.2.1 fr.2.2.2.2.2, rfl, q⟩⟩
/-- y = {k: v for ..}, y a plain local name, each k a tuple -/
theorem ps_setDcT {i : Nat} {y : Str} {py : Pos} {ke ve tg it : Expr} {ifs : List Expr} {sc : Scope} {own : List (Str × Nat)} {p1 p2 : Pos} {wi : TI} {g : TG} {tt : TT} {tk tv : TE} (room : X.A.units < cLine) (calm : X.calm = true) (nd : X.N.Nodup) (hy : X.N[i]? = some y) (hyl : X.env.scope.names.lookup y = some .local)
    (sw : swapsWith (.DictComp ke ve [⟨tg, it, ifs, 0⟩] sc p1) (some (.Name y py)) p2.line X.env = pure true) (pi : PI X tg it wi) (bo : BlkOk X.N X.env.scope sc own)
    (pg : ∀ (s : Shared) (H : Hp) (C : Addr) (cl : List (Str × Addr)) (fp : List Addr), PG (X.blk s H sc (compEnvC sc cl C X.env) fp) tg g) (pt : ∀ (s : Shared) (H : Hp) (C : Addr) (cl : List (Str × Addr)) (fp : List Addr), PTs (X.blk s H sc (compEnvC sc cl C X.env) fp) ifs tt)
    (pk : ∀ (s : Shared) (H : Hp) (C : Addr) (cl : List (Str × Addr)) (fp : List Addr), PE (X.blk s H sc (compEnvC sc cl C X.env) fp) ke tk) (pw : ∀ (s : Shared) (H : Hp) (C : Addr) (cl : List (Str × Addr)) (fp : List Addr), PE (X.blk s H sc (compEnvC sc cl C X.env) fp) ve tv)
    (fold : ∀ x, foldedSetIterable it X.env x = pure x := by intro _; rfl) : PS X (.Assign [.Name y py] (.DictComp ke ve [⟨tg, it, ifs, 0⟩] sc p1) p2) (tAsg (tDcT wi g tt tk tv (own.map (·.2))) (gName i)) := by
  refine ⟨fun pins s σ H D J h => ?_⟩
  rw [exec_Assign_Name_used _ _ _ _ sw]
  refine wpAny_bind (wpAny_standAt (wpAny_bind ?_))
  have h : tDcT wi g tt tk tv (own.map (·.2)) σ H (fun x H1 => gName i x σ H1 D.nx) := h
  show wpAny _ X.A (do let _ ← comprehension (.DictComp ke ve [⟨tg, it, ifs, 0⟩] sc p1) sc X.env (firstIterPos [⟨tg, it, ifs, 0⟩] p1) newDict false (eval it X.env) (some (assign (.Name y py) X.env))) _ _ s
  refine wpAny_bind (thn (dcT_run (Qf := fun _ s' => SP X pins D .next s') room calm nd J pi bo pg pt pk pw fold h fun L C z m H1 J1 q hn fr => ?_) fun _ s' z => wpAny_pure (wpAny_pure z))
  refine wpAny_assign_Name (store_ok2 (v := V.ref L) J1 nd hy (.inl hyl) rfl (fun s2 J2 ⟨b, sb, hb⟩ => ?_) (.inr hyl))
  obtain ⟨k0, k1, k2, k3, k4, k5⟩ := fr
  have nC : C ≠ b := hb.elim (fun z => z ▸ k1) (fun z e => k4 y b z e.symm)
  exact ⟨m, hn.sameBut sb nC, fun h3 s3 => ⟨_, H1, J2.turned (t' := s2.toks) (fun x o hx e => (s3.2 x hx).trans e) k0 k1 k3 k4 k5, q⟩⟩
end
end L2
namespace Dk
open PySem PySem.Spec PyProof.Rows L2
/-- such a comprehension over what is walked -/
theorem dcT_it {J : It} {n : Nat} {G : Hp → Prop} {Y : Nat → Hp → V → Hp → Prop} (w : Walk J n G Y) {g : TG} {tt : TT} {tk tv : TE} {vs : List Nat} {σ : L2.St} {H1 : Hp} {D : Addr} {Qd : Hp → Prop} (Pv : Nat → Hp → Prop) (h0 : Pv 0 (upd H1 D (.dT []))) (hG : ∀ i H, i ≤ n → Pv i H → G H)
    (hs : ∀ i x H H', i < n → Pv i H → Y i H x H' → g x (wipe σ vs) H' fun σ2 H2 => wipe σ2 vs = wipe σ vs ∧ tt σ2 H2 fun b H3 =>
      if b = true then tk σ2 H3 fun y H4 => tv σ2 H4 fun z H5 => ∃ es k b, y = .ref b ∧ H5 b = some (.tup (k.map kV)) ∧ H5 D = some (.dT es) ∧ es.length < sizeLine ∧ Pv (i + 1) (upd H5 D (.dT (putK es k z))) else Pv (i + 1) H3) (hd : ∀ H, Pv n H → Qd H) :
    ∃ W : Nat → Nat → Hp → Prop, (∃ m, W 0 m (upd H1 D (.dT []))) ∧ ∀ i m H, W i m H →
      (J.stop i H ∧ Qd H) ∨ (J.go i H ∧ ∃ Nx : Hp → Prop, (∀ H', Nx H' → ∃ m', m' < m ∧ W (i + 1) m' H') ∧ ∀ x H', J.yld i H x H' → g x (wipe σ vs) H' fun σ2 H2 => wipe σ2 vs = wipe σ vs ∧ tt σ2 H2 fun b H3 =>
        if b = true then tk σ2 H3 fun y H4 => tv σ2 H4 fun z H5 => ∃ es k b, y = .ref b ∧ H5 b = some (.tup (k.map kV)) ∧ H5 D = some (.dT es) ∧ es.length < sizeLine ∧ Nx (upd H5 D (.dT (putK es k z))) else Nx H3) :=
  out_it w (B := fun Nx x H' => g x (wipe σ vs) H' fun σ2 H2 => wipe σ2 vs = wipe σ vs ∧ tt σ2 H2 fun b H3 =>
        if b = true then tk σ2 H3 fun y H4 => tv σ2 H4 fun z H5 => ∃ es k b, y = .ref b ∧ H5 b = some (.tup (k.map kV)) ∧ H5 D = some (.dT es) ∧ es.length < sizeLine ∧ Nx (upd H5 D (.dT (putK es k z))) else Nx H3) Pv h0 hG hs hd
/-! dicts whose keys are pairs of texts, told by a list of pairs and a function -/
def kp (q : Str × Str) : List Key := [Sum.inr q.1, Sum.inr q.2]
theorem kp_inj {a b : Str × Str} : kp a = kp b ↔ a = b := by
  obtain ⟨x, y⟩ := a
  obtain ⟨z, w⟩ := b
  simp [kp]
def tabP (ps : List (Str × Str)) (g : Str × Str → V) : List (List Key × V) := ps.map fun q => (kp q, g q)
theorem tabP_length (ps : List (Str × Str)) (g : Str × Str → V) : (tabP ps g).length = ps.length := List.length_map _
theorem tabP_congr {ps : List (Str × Str)} {g g' : Str × Str → V} (h : ∀ x ∈ ps, g x = g' x) : tabP ps g = tabP ps g' := List.map_congr_left fun x hx => by rw [h x hx]
theorem valP_in {q : Str × Str} {g : Str × Str → V} : ∀ {ps : List (Str × Str)}, q ∈ ps → valV (tabP ps g) (kp q) = some (g q)
  | [], h => by simp at h
  | p :: r, h => by
    unfold valV tabP
    rw [List.map_cons, List.find?_cons]
    by_cases e : p = q
    · subst e
      simp
    · have ne : decide ((kp p, g p).1 = kp q) = false := decide_eq_false (fun z => e (kp_inj.mp z))
      rw [ne]
      exact valP_in (ps := r) ((List.mem_cons.mp h).resolve_left (fun z => e z.symm))
theorem anyP {q : Str × Str} {g : Str × Str → V} : ∀ (ps : List (Str × Str)), ((tabP ps g).any fun kv => decide (kv.1 = kp q)) = decide (q ∈ ps)
  | [] => rfl
  | p :: r => by
    show (decide (kp p = kp q) || (tabP r g).any _) = _
    rw [anyP r, Bool.eq_iff_iff, Bool.or_eq_true, decide_eq_true_iff, decide_eq_true_iff, decide_eq_true_iff, List.mem_cons, kp_inj]
    exact ⟨fun z => z.imp (fun e => e.symm) id, fun z => z.imp (fun e => e.symm) id⟩
theorem putP_new {ps : List (Str × Str)} {g : Str × Str → V} {q : Str × Str} {v : V} (h : q ∉ ps) (hv : v = g q) : putK (tabP ps g) (kp q) v = tabP (ps ++ [q]) g := by
  unfold putK
  rw [anyP, if_neg (by simpa using h)]
  unfold tabP
  rw [List.map_append, hv]
  rfl
end Dk

/-! max(a, b), min(a, b) of two texts. Law-independent. -/
namespace Mm
open PySem PySem.Spec PyProof.Rows L2
section
variable {P : Program} {w : World} {A : Around} {E : Value → Shared → Prop} {s : Shared} {x y : Str} {t u : Tok}
/-- the text at a place of a pair -/
def txt (x y : Str) : Nat → Str
  | 0 => x
  | _ => y
theorem at_txt {v : Value} {i : Nat} (h : (#[Value.str x t, Value.str y u] : Array Value)[i]? = some v) : ∃ k, v = .str (txt x y i) k := by
  match i, h with
  | 0, h => exact ⟨t, (Option.some.inj h).symm⟩
  | 1, h => exact ⟨u, (Option.some.inj h).symm⟩
  | i + 2, h => simp at h
theorem cmp_gtT : CmpOf P w A .Gt (fun i v => (#[Value.str x t, Value.str y u] : Array Value)[i]? = some v) (fun i j => Srs.ltT (txt x y j) (txt x y i)) := fun i j a b z Q R ha hb h => by
  obtain ⟨k1, rfl⟩ := at_txt ha
  obtain ⟨k2, rfl⟩ := at_txt hb
  exact PySem.P.gt_str h
theorem cmp_ltT : CmpOf P w A .Lt (fun i v => (#[Value.str x t, Value.str y u] : Array Value)[i]? = some v) (fun i j => Srs.ltT (txt x y i) (txt x y j)) := fun i j a b z Q R ha hb h => by
  obtain ⟨k1, rfl⟩ := at_txt ha
  obtain ⟨k2, rfl⟩ := at_txt hb
  exact PyProof.Rows.lt_str h
theorem max_two {Q : Value → Shared → Prop} (hh : A.handled = none) (h : ∀ h' tk, (∀ c o, s.heap.get? c = some o → h'.get? c = some o) → Q (if Srs.ltT x y then .str y u else .str x t) { s with heap := h', toks := tk }) :
    wpAny (model P w) A (call (.builtin "max") [.str x t, .str y u]) Q E s := by
  have tup : (s.heap.push { cls := .type "tuple", data := .seq #[.str x t, .str y u] }).IsTuple s.heap.objs.size #[.str x t, .str y u] := ⟨_, Heap.get?_push_size _ rfl, rfl, 0, rfl⟩
  have big : (s.heap.push { cls := .type "tuple", data := .seq #[.str x t, .str y u] }).objs.size = s.heap.objs.size + 1 := Heap.size_push ..
  refine call_max_two (wpAny_pyIter_tuple tup ⟨_, [_, s.heap.objs.size], [_], _, _, _, _, rfl, Walks.tuple (A := A.in1) hh _ s.heap.objs.size (by rw [big]; exact Nat.ne_of_lt (Nat.lt_succ_self _)) #[.str x t, .str y u], ⟨⟨_, Heap.get?_push_size _ rfl, rfl, rfl⟩, tup.push _⟩, fun c mc => ?_, by simp, cmp_gtT, fun v h' tk best hk => ?_⟩)
  · show c < ((s.heap.push _).push _).objs.size
    rw [Heap.size_push, big]
    simp only [List.mem_cons, List.not_mem_nil, or_false] at mc
    rcases mc with m | m <;> rw [m]
    · rw [big]; exact Nat.lt_succ_self _
    · exact Nat.lt_succ_of_lt (Nat.lt_succ_self _)
  · have old := h h' tk fun c o e => by
      refine hk c o (fun m => ?_) (Heap.get?_push_of_some _ (Heap.get?_push_of_some _ e))
      have lt := Heap.lt_size e
      rw [List.mem_singleton.mp m, big] at lt
      exact absurd lt (Nat.not_lt.mpr (Nat.le_succ _))
    have which : v = if Srs.ltT x y then Value.str y u else Value.str x t := by
      cases c : Srs.ltT x y <;> simp [argBest, txt, c] at best <;> simp [best]
    rw [which]
    exact old
theorem min_two {Q : Value → Shared → Prop} (hh : A.handled = none) (h : ∀ h' tk, (∀ c o, s.heap.get? c = some o → h'.get? c = some o) → Q (if Srs.ltT y x then .str y u else .str x t) { s with heap := h', toks := tk }) :
    wpAny (model P w) A (call (.builtin "min") [.str x t, .str y u]) Q E s := by
  have tup : (s.heap.push { cls := .type "tuple", data := .seq #[.str x t, .str y u] }).IsTuple s.heap.objs.size #[.str x t, .str y u] := ⟨_, Heap.get?_push_size _ rfl, rfl, 0, rfl⟩
  have big : (s.heap.push { cls := .type "tuple", data := .seq #[.str x t, .str y u] }).objs.size = s.heap.objs.size + 1 := Heap.size_push ..
  refine call_min_two (wpAny_pyIter_tuple tup ⟨_, [_, s.heap.objs.size], [_], _, _, _, _, rfl, Walks.tuple (A := A.in1) hh _ s.heap.objs.size (by rw [big]; exact Nat.ne_of_lt (Nat.lt_succ_self _)) #[.str x t, .str y u], ⟨⟨_, Heap.get?_push_size _ rfl, rfl, rfl⟩, tup.push _⟩, fun c mc => ?_, by simp, cmp_ltT, fun v h' tk best hk => ?_⟩)
  · show c < ((s.heap.push _).push _).objs.size
    rw [Heap.size_push, big]
    simp only [List.mem_cons, List.not_mem_nil, or_false] at mc
    rcases mc with m | m <;> rw [m]
    · rw [big]; exact Nat.lt_succ_self _
    · exact Nat.lt_succ_of_lt (Nat.lt_succ_self _)
  · have old := h h' tk fun c o e => by
      refine hk c o (fun m => ?_) (Heap.get?_push_of_some _ (Heap.get?_push_of_some _ e))
      have lt := Heap.lt_size e
      rw [List.mem_singleton.mp m, big] at lt
      exact absurd lt (Nat.not_lt.mpr (Nat.le_succ _))
    have which : v = if Srs.ltT y x then Value.str y u else Value.str x t := by
      cases c : Srs.ltT y x <;> simp [argBest, txt, c] at best <;> simp [best]
    rw [which]
    exact old
end
section
variable {X : Cx}
theorem call_maxS (calm : X.calm = true) : CallR X (.builtin "max") (fun xs H Q => ∃ x y : Str, xs = [.str x, .str y] ∧ Q (.str (if Srs.ltT x y then y else x)) H) := by
  intro pins s σ H xs us Q I r h
  obtain ⟨x, y, rfl, q⟩ := h
  obtain ⟨u, w', rfl, ⟨t, rfl⟩, ⟨t', rfl⟩⟩ := vals2 r
  refine max_two (I.ok.hd calm) fun h' tk k => ⟨_, H, I.kept k, ?_, q⟩
  cases Srs.ltT x y <;> exact ⟨_, rfl⟩
theorem call_minS (calm : X.calm = true) : CallR X (.builtin "min") (fun xs H Q => ∃ x y : Str, xs = [.str x, .str y] ∧ Q (.str (if Srs.ltT y x then y else x)) H) := by
  intro pins s σ H xs us Q I r h
  obtain ⟨x, y, rfl, q⟩ := h
  obtain ⟨u, w', rfl, ⟨t, rfl⟩, ⟨t', rfl⟩⟩ := vals2 r
  refine min_two (I.ok.hd calm) fun h' tk k => ⟨_, H, I.kept k, ?_, q⟩
  cases Srs.ltT y x <;> exact ⟨_, rfl⟩
end
end Mm

/-! Dicts whose keys are tuples: values, list of items, made of pairs, emptied; either of two readings. Law-independent. -/
namespace Dt
open PySem PySem.Spec PyProof.Rows L2 Dk
section
variable {X : Cx}
/-! ### either of two readings -/
theorem pi_or {tg e : Expr} {u v : TI} (a : PI X tg e u) (b : PI X tg e v) : PI X tg e (fun σ H R => u σ H R ∨ v σ H R) :=
  ⟨fun pins s σ H R I h => h.elim (fun z => a.run pins s σ H R I z) (fun z => b.run pins s σ H R I z)⟩
theorem pe_or {e : Expr} {u v : TE} (a : PE X e u) (b : PE X e v) : PE X e (fun σ H Q => u σ H Q ∨ v σ H Q) :=
  ⟨fun pins s σ H Q I h => h.elim (fun z => a.run pins s σ H Q I z) (fun z => b.run pins s σ H Q I z)⟩
theorem cr_or {f : Value} {u v : List V → Hp → VK → Prop} (a : CallR X f u) (b : CallR X f v) : CallR X f (fun xs H Q => u xs H Q ∨ v xs H Q) :=
  fun pins s σ H xs us Q I r h => h.elim (fun z => a pins s σ H xs us Q I r z) (fun z => b pins s σ H xs us Q I r z)
theorem mt_or {f : String} {u v : V → List V → Hp → VK → Prop} (a : MtR X f u) (b : MtR X f v) : MtR X f (fun x xs H Q => u x xs H Q ∨ v x xs H Q) :=
  fun pins s σ H x xs w us Q I rx r h => h.elim (fun z => a pins s σ H x xs w us Q I rx r z) (fun z => b pins s σ H x xs w us Q I rx r z)
/-! ### the entries -/
theorem entsT {P : Program} {w : World} {H : Hp} {h : Heap} {d : Addr} {kvs : List (List Key × V)} (ok : ObjOk P w H h d (.dT kvs)) : (d == sysModules) = false ∧ kvs.length ≤ sizeLine ∧ ∃ (es : Array DictEntry) (ep : Nat), h.DictRaw d es ep ∧ es.size = kvs.length ∧
    ∀ i k v, kvs[i]? = some (k, v) → ∃ (hi : i < es.size) (q : Addr), es[i].key = .ref q ∧ H q = some (.tup (k.map kV)) ∧ RelV v es[i].val := by
  obtain ⟨z, hs, xs, pr, o, es, ep, ho, hx, hdt, he, _⟩ := ok
  have l1 : es.size = xs.length := size_of_entries he
  have l2 : kvs.length = xs.length := Paired.length pr
  refine ⟨hs, z, es, ep, ⟨o, ho, hx, hdt⟩, by omega, fun i k v e => ?_⟩
  obtain ⟨b, hb, e1, e2, e3⟩ := paired_get pr e
  have q := entry_at he i
  rw [hb] at q
  obtain ⟨hi, q⟩ := Array.getElem?_eq_some_iff.mp q
  exact ⟨hi, b.2.1, by rw [q]; rfl, e2, by rw [q]; exact e3⟩
theorem frzT {pins : List (Addr × Obj)} {σ : L2.St} {H : Hp} {s : Shared} {d : Addr} {o : Obj} {kvs : List (List Key × V)} (I : Inv X pins σ H s) (h : H d = some (.frz o (.dT kvs))) : (d == sysModules) = false ∧ kvs.length ≤ sizeLine ∧ ∃ (es : Array DictEntry) (ep : Nat), o.data = .dict es ep ∧ s.heap.DictRaw d es ep ∧ es.size = kvs.length ∧
    ∀ i k v, kvs[i]? = some (k, v) → ∃ (hi : i < es.size) (q : Addr), es[i].key = .ref q ∧ H q = some (.tup (k.map kV)) ∧ RelV v es[i].val := by
  obtain ⟨hd, ok⟩ := (show ObjOk X.prog X.w H s.heap d (.frz o (.dT kvs)) from I.hok d _ h)
  obtain ⟨h1, h2, es, ep, ⟨o', ho, hx, hdt⟩, h4, h5⟩ := entsT ok
  rw [hd] at ho
  cases ho
  exact ⟨h1, h2, es, ep, hdt, ⟨_, hd, hx, hdt⟩, h4, h5⟩
/-! ### for v in d.values() -/
def ItvT (d : Addr) (o : Obj) (kvs : List (List Key × V)) : It :=
  ⟨fun i H => H d = some (.frz o (.dT kvs)) ∧ i < kvs.length, fun i H x H' => H' = H ∧ ∃ k, kvs[i]? = some (k, x), fun i H => H d = some (.frz o (.dT kvs)) ∧ kvs.length ≤ i⟩
theorem turnVT {P : Program} {w : World} {K : PySem.W.Frag} {tg : Expr} {d : Addr} {o : Obj} {kvs : List (List Key × V)} {es : Array DictEntry} {ep : Nat} (it : Addr) (hod : o.data = .dict es ep) : Turn P w K tg (ItvT d o kvs) [it] it (fun i h => h.IsValIter it d i kvs.length ep) where
  mem := List.mem_singleton.mpr rfl
  obj := fun i h st b hb => by
    obtain rfl := List.mem_singleton.mp hb
    obtain ⟨oi, e, _, dd⟩ := st
    exact ⟨oi, e, fun v z => by rw [dd] at z; cases z⟩
  keep := fun i h h' st k => st.at fun oi e => k it (List.mem_singleton.mpr rfl) oi e
  item := by
    rintro X rfl rfl rfl hc i pins s σ H E I hf st ⟨hd, hi⟩
    obtain ⟨f0, f1, f2, f3, f4, f5⟩ := hf it (List.mem_singleton.mpr rfl)
    obtain ⟨hs, _, es', ep', hdt, hm, hsz, ent⟩ := frzT I hd
    obtain ⟨rfl, rfl⟩ := dict_ep hod hdt
    obtain ⟨⟨k, v⟩, hkv⟩ : ∃ p, kvs[i]? = some p := ⟨kvs[i], List.getElem?_eq_getElem hi⟩
    obtain ⟨hi2, q, _, _, rv⟩ := ent i k v hkv
    rw [← hsz] at st
    refine wpAny_pyNext_values_item_raw st hm hi2 fun h' st' sb => ?_
    obtain ⟨oi, e, c, dd⟩ := id st'
    refine ⟨_, rfl, go_of (s := { s with heap := h' }) e c dd (by decide) ⟨v, H, I.turned (t' := s.toks) (fun b ob hb e => (sb.2 b hb).trans e) f0 f1 f3 f4 f5, rv, ⟨rfl, k, hkv⟩, ?_, fun b hb => (hf b hb).1⟩⟩
    show h'.IsValIter it d (i + 1) kvs.length _
    rw [← hsz]
    exact st'
  done := by
    rintro X rfl rfl rfl hc i pins s σ H E I hf st ⟨hd, hi⟩
    obtain ⟨f0, f1, f2, f3, f4, f5⟩ := hf it (List.mem_singleton.mpr rfl)
    obtain ⟨hs, _, es', ep', hdt, hm, hsz, ent⟩ := frzT I hd
    obtain ⟨rfl, rfl⟩ := dict_ep hod hdt
    rw [← hsz] at st
    exact wpAny_pyNext_values_end_raw (I.ok.hd hc) st hm (by omega) fun h' eb => ⟨rfl, I.turned (t' := s.toks) (fun b ob hb e => eb b ob hb e) f0 f1 f3 f4 f5⟩
  self := fun A i s Q E st h => wpAny_pyIter_valiter st h
def iValsT (td : TE) : TI := fun σ H R => td σ H fun x H1 => ∃ d o kvs, x = .ref d ∧ H1 d = some (.frz o (.dT kvs)) ∧ R (ItvT d o kvs) H1
theorem pi_valuesT {tg e : Expr} {td : TE} {apos cpos : Pos} (he : PE X e td) (hb : attributeBase e "values" X.env (eval e X.env) = eval e X.env := by rfl) (line : (apos.endLine == cpos.line) = true := by rfl) : PI X tg (.Call (.Attribute e "values" apos) [] [] cpos) (iValsT td) := by
  refine ⟨fun pins s σ H R I h => ?_⟩
  refine wpAny_Call_method (T := "dict") (id := "dict.values") hb rfl line F.plainAttrs_dict F.slot_dict_values F.type_dict_values (thn (he.run pins s σ H _ I h) fun u s1 ⟨x, H1, I1, rx, d, o, kvs, ex, hd, q⟩ => ?_)
  subst ex
  obtain rfl : u = Value.ref d := rx
  obtain ⟨hs, _, es, ep, hdt, hm, hsz, ent⟩ := frzT I1 hd
  refine ⟨hm.typeIs, fun b hb => (let ⟨ob, e1, e2, _⟩ := hm; ⟨ob, by cases hb; exact e1, e2.2.1⟩), ?_⟩
  have I2 : Inv X pins σ H1 { s1 with heap := s1.heap.push { cls := .type "dict_values", data := .fields #[.ref d] } } := I1.kept (t' := s1.toks) fun b ob q => Heap.get?_push_of_some _ q
  have fin : wpAny (model X.prog X.w) X.A (pyIter (.ref s1.heap.objs.size)) (PIE X pins σ tg R) X.xe { s1 with heap := s1.heap.push { cls := .type "dict_values", data := .fields #[.ref d] } } := by
    refine wpAny_pyIter_values_raw (d := d) ⟨_, Heap.get?_push_size _ rfl, rfl, rfl⟩ (hm.push _) (pi_one (tk := s1.toks) I2 _ (turnVT _ hdt) ⟨_, Heap.get?_push_size _ rfl, rfl, ?_⟩ q)
    rw [hsz]
    rfl
  show wpAny _ _ (callWith cpos (.builtin "dict.values") [.ref d] [] []) _ X.xe s1
  exact method_meetsIn F.slot_dict_values F.entry_dict_values rfl (PySem.evalArgs_none ⟨rfl, hm.typeIs, F.args_dict_values_1 _, _, meets_dict_values_raw d hs, ⟨es, ep, hm⟩, fin⟩)
theorem walk_valuesT {d : Addr} {o : Obj} {kvs : List (List Key × V)} : Walk (ItvT d o kvs) kvs.length (fun H => H d = some (.frz o (.dT kvs))) (fun i H x H' => H' = H ∧ ∃ k, kvs[i]? = some (k, x)) where
  goes := fun i H hi q => ⟨q, hi⟩
  stops := fun H q => ⟨q, Nat.le_refl _⟩
  yields := fun i H v H' _ q y => y
/-! ### list(d.items()) -/
/-- new tuples of two, at their addresses -/
def putP : Hp → List Addr → List (V × V) → Hp
  | H, a :: as, p :: ps => putP (upd H a (.tup [p.1, p.2])) as ps
  | H, _, _ => H
theorem putP_off {b : Addr} : ∀ (as : List Addr) (ps : List (V × V)) (H : Hp), b ∉ as → putP H as ps b = H b
  | [], _, _, _ => rfl
  | _ :: _, [], _, _ => rfl
  | a :: as, p :: ps, H, h => (putP_off as ps _ (fun z => h (List.mem_cons_of_mem _ z))).trans (upd_ne (fun z => h (z ▸ List.mem_cons_self)))
theorem putP_at : ∀ (as : List Addr) (ps : List (V × V)) (H : Hp), as.length = ps.length → as.Nodup → Paired (fun (t : Addr) (p : V × V) => putP H as ps t = some (.tup [p.1, p.2])) as ps
  | [], [], _, _, _ => .nil
  | [], _ :: _, _, h, _ => by cases h
  | _ :: _, [], _, h, _ => by cases h
  | a :: as, p :: ps, H, h, hn =>
    let hn' := List.nodup_cons.mp hn
    .cons ((putP_off as ps (upd H a (.tup [p.1, p.2])) hn'.1).trans upd_same) (putP_at as ps (upd H a (.tup [p.1, p.2])) (Nat.succ.inj h) hn'.2)
theorem refs_vals : ∀ as : List Addr, Vals (as.map V.ref) (as.map Value.ref)
  | [] => .nil
  | _ :: as => .cons rfl (refs_vals as)
theorem paired_ix {α β : Type} {F : α → β → Prop} : ∀ {xs : List α} {ys : List β}, Paired F xs ys → ∀ {x : α}, x ∈ xs → ∃ (j : Nat) (y : β), xs[j]? = some x ∧ ys[j]? = some y ∧ F x y
  | _, _, .cons h t, x, hx => (List.mem_cons.mp hx).elim (fun e => ⟨0, _, by rw [e]; rfl, rfl, e ▸ h⟩) (fun hx => let ⟨j, y, e1, e2, e3⟩ := paired_ix t hx; ⟨j + 1, y, e1, e2, e3⟩)
/-- the list and its new tuples are tracked -/
theorem dil_laid {pins : List (Addr × Obj)} {σ : L2.St} {H : Hp} {s : Shared} {h' : Heap} {tk : Nat} {es : Array DictEntry} {ps : List (V × V)} {acc : Array Value} {c : Nat} {as : List Addr} {L : Addr} (low : s.heap.objs.size ≤ L) (I : Inv X pins σ H s) (few : as.length ≤ sizeLine) (same : ps.length = as.length) (ent : ∀ (j : Nat) (p : V × V), ps[j]? = some p → ∃ hj : j < es.size, RelV p.1 es[j].key ∧ RelV p.2 es[j].val)
    (kept : ∀ b o, s.heap.get? b = some o → h'.get? b = some o) (hS : h'.get? L = some { cls := .type "list", dict := none, data := .seq acc c, slots := #[] }) (G : PySem.W.DilG es L h' as) (hacc : acc.toList = as.map Value.ref) :
    ∃ H' : Hp, Evl.Ex H H' ∧ H L = none ∧ (∀ t ∈ as, H t = none) ∧ L ∉ as ∧ H' L = some (.lst (as.map V.ref)) ∧ Paired (fun (t : Addr) (p : V × V) => H' t = some (.tup [p.1, p.2])) as ps ∧ Inv X pins σ H' { s with heap := h', toks := tk } := by
  have out : L ∉ as := fun z => Nat.lt_irrefl _ (G.above _ z)
  have nd : as.Nodup := List.Pairwise.imp (fun {a b} (h : a < b) => Nat.ne_of_lt h) G.rise
  have fresh : ∀ t ∈ as, H t = none := fun t ht => I.hok.fresh (Nat.le_trans low (Nat.le_of_lt (G.above t ht)))
  have freshS : H L = none := I.hok.fresh low
  have there := putP_at as ps (upd H L (.lst (as.map V.ref))) same.symm nd
  have off : ∀ b, b ∉ as → b ≠ L → putP (upd H L (.lst (as.map V.ref))) as ps b = H b := fun b h1 h2 => (putP_off as ps _ h1).trans (upd_ne h2)
  have old : ∀ b o, s.heap.get? b = some o → b ∉ as ∧ b ≠ L := fun b o e => ⟨fun z => absurd (Heap.lt_size e) (Nat.not_lt.mpr (Nat.le_trans low (Nat.le_of_lt (G.above b z)))), Nat.ne_of_lt (Nat.lt_of_lt_of_le (Heap.lt_size e) low)⟩
  have stay : Evl.Ex H (putP (upd H L (.lst (as.map V.ref))) as ps) := fun b u e => (off b (fun z => by rw [fresh b z] at e; cases e) (fun z => by rw [z, freshS] at e; cases e)).trans e
  have atS : putP (upd H L (.lst (as.map V.ref))) as ps L = some (.lst (as.map V.ref)) := (putP_off as ps _ out).trans upd_same
  refine ⟨_, stay, freshS, fresh, out, atS, there, I.call' (ch := []) rfl ⟨fun b o q _ _ _ => kept b o q, fun b o q _ _ _ => ⟨o.slots, kept b o q⟩, fun b o q n _ => (off b (old b o q).1 (old b o q).2).trans n, fun b o q _ => ⟨o, kept b o q⟩, fun b xs q => stay b _ q, fun b o u q => stay b _ q, fun b ps q => ⟨#[], by rw [stay b _ q]; simp⟩⟩ (fun b u q => ?_) I.bare fun b z => absurd z (by simp)⟩
  by_cases hb : b ∈ as
  · obtain ⟨j, p, e1, e2, e3⟩ := paired_ix there hb
    obtain rfl := Option.some.inj (q.symm.trans e3)
    obtain ⟨hj, r1, r2⟩ := ent j p e2
    obtain ⟨_, g⟩ := G.pairs j b e1
    exact ⟨by show 2 ≤ sizeLine; decide, [es[j].key, es[j].val], .cons r1 (.cons r2 .nil), ⟨_, g, rfl, _, rfl⟩⟩
  · by_cases hb2 : b = L
    · subst hb2
      obtain rfl := Option.some.inj (q.symm.trans atS)
      exact ⟨by rw [List.length_map]; exact few, acc.toList, c, by rw [hacc]; exact refs_vals as, by rw [Array.toArray_toList]; exact hS⟩
    · rw [off b hb hb2] at q
      exact (I.hok b u q).stay (fun d v _ y => kept d v y) (fun d y => stay d _ y) fun d xs y => stay d _ y
/-- an entry as a tuple of its key and its value -/
def EntT (H : Hp) (t : Addr) (kv : List Key × V) : Prop := ∃ b, H t = some (.tup [.ref b, kv.2]) ∧ H b = some (.tup (kv.1.map kV))
def tListItemsT (te : TE) : TE := fun σ H Q => te σ H fun x H1 => ∃ (d : Addr) (kvs : List (List Key × V)), x = .ref d ∧ H1 d = some (.dT kvs) ∧
  ∀ (H' : Hp) (p : Addr) (ts : List Addr), Evl.Ex H1 H' → H1 p = none → (∀ t ∈ ts, H1 t = none) → p ∉ ts → H' p = some (.lst (ts.map V.ref)) → Paired (EntT H') ts kvs → Q (.ref p) H'
theorem pe_listItemsT {e : Expr} {te : TE} {p apos cpos pos : Pos} (hc : X.calm = true) (he : PE X e te) (hg : Gl X "list") (hm : X.mg "list" = none) (hv : bootBuiltins "list" = some (.type "list")) (hb : attributeBase e "items" X.env (eval e X.env) = eval e X.env := by rfl) (line : (apos.endLine == cpos.line) = true := by rfl)
    (hs : starEach [.Call (.Attribute e "items" apos) [] [] cpos] X.env = (false, eval (.Call (.Attribute e "items" apos) [] [] cpos) X.env) :: starEach [] X.env := by rfl) : PE X (.Call (.Name "list" p) [.Call (.Attribute e "items" apos) [] [] cpos] [] pos) (tListItemsT te) := by
  refine ⟨fun pins s σ H Q I hq => wpAny_Call_Name_kw (ld_blt I hg hm hv (PyProof.Rows.callWith_type1 ?_ hs rfl))⟩
  rw [hs]
  show wpAny _ _ (spliced ((false, eval (.Call (.Attribute e "items" apos) [] [] cpos) X.env) :: backTo pos (starEach [] X.env))) _ _ s
  refine Calls.spliced_cons (wpAny_Call_method (T := "dict") (id := "dict.items") hb rfl line F.plainAttrs_dict F.slot_dict_items F.type_dict_items (thn (he.run pins s σ H _ I hq) fun u s1 ⟨x, H1, I1, rx, d, kvs, ex, hd, q⟩ => ?_))
  subst ex
  obtain rfl : u = Value.ref d := rx
  obtain ⟨hs0, hz, es, ep, raw, size, ent⟩ := entsT (I1.hok d _ hd)
  have I2 : Inv X pins σ H1 { s1 with heap := s1.heap.push { cls := .type "dict_items", data := .fields #[.ref d] } } := I1.kept (t' := s1.toks) fun b ob q => Heap.get?_push_of_some _ q
  refine ⟨raw.typeIs, fun b hb' => (let ⟨ob, e1, e2, _⟩ := raw; ⟨ob, by cases hb'; exact e1, e2.2.1⟩), ?_⟩
  show wpAny _ _ (callWith cpos (.builtin "dict.items") [.ref d] [] []) _ X.xe s1
  refine method_meetsIn F.slot_dict_items F.entry_dict_items rfl (PySem.evalArgs_none ⟨rfl, raw.typeIs, F.args_dict_items_1 _, _, meets_dict_items_raw d hs0, ⟨es, ep, raw⟩, Calls.spliced_nil ?_⟩)
  refine PySem.W.dil_call (I1.ok.hd hc) ⟨_, Heap.get?_push_size _ rfl, rfl, rfl⟩ (raw.push _) (by omega) fun h' tk acc c as kept hS few G hacc => ?_
  -- the keys' addresses
  have keys : ∃ ps : List (V × V), ps.length = as.length ∧ (∀ (j : Nat) (p : V × V), ps[j]? = some p → ∃ hj : j < es.size, RelV p.1 es[j].key ∧ RelV p.2 es[j].val) ∧ ∀ (j : Nat) (p : V × V), ps[j]? = some p → ∃ b kv, kvs[j]? = some kv ∧ p = (.ref b, kv.2) ∧ H1 b = some (.tup (kv.1.map kV)) := by
    have one : ∀ j : Nat, ∃ p : V × V, j < kvs.length → (∃ hj : j < es.size, RelV p.1 es[j].key ∧ RelV p.2 es[j].val) ∧ ∃ b kv, kvs[j]? = some kv ∧ p = (.ref b, kv.2) ∧ H1 b = some (.tup (kv.1.map kV)) := fun j => by
      by_cases lt : j < kvs.length
      · obtain ⟨hj, b, e1, e2, e3⟩ := ent j _ _ (List.getElem?_eq_getElem lt)
        exact ⟨(.ref b, kvs[j].2), fun _ => ⟨⟨hj, e1, e3⟩, b, kvs[j], List.getElem?_eq_getElem lt, rfl, e2⟩⟩
      · exact ⟨(.non, .non), fun z => absurd z lt⟩
    obtain ⟨f, hf⟩ := Classical.axiomOfChoice one
    have get : ∀ (j : Nat) (p : V × V), ((List.range kvs.length).map f)[j]? = some p → j < kvs.length ∧ p = f j := fun j p e => by
      rw [List.getElem?_map] at e
      obtain ⟨i, hi, rfl⟩ := Option.map_eq_some_iff.mp e
      obtain ⟨lt, hi⟩ := List.getElem?_eq_some_iff.mp hi
      rw [List.getElem_range] at hi
      rw [List.length_range] at lt
      exact ⟨lt, by rw [hi]⟩
    refine ⟨(List.range kvs.length).map f, by rw [List.length_map, List.length_range, few, size], fun j p e => ?_, fun j p e => ?_⟩
    · obtain ⟨lt, rfl⟩ := get j p e
      exact (hf j lt).1
    · obtain ⟨lt, rfl⟩ := get j p e
      exact (hf j lt).2
  obtain ⟨ps, l1, l2, l3⟩ := keys
  obtain ⟨H', k1, k2, k3, k4, k5, k6, J⟩ := dil_laid (tk := tk) (Nat.le_refl _) I2 (by omega) l1 l2 kept hS G hacc
  refine ⟨.ref _, H', J, rfl, q H' _ as k1 (I1.hok.fresh (by rw [Heap.size_push]; exact Nat.le_succ _)) k3 k4 k5 ?_⟩
  have mix : ∀ {as : List Addr} {ps : List (V × V)}, Paired (fun (t : Addr) (p : V × V) => H' t = some (.tup [p.1, p.2])) as ps → ∀ {kvs : List (List Key × V)}, kvs.length = as.length → (∀ (j : Nat) (p : V × V), ps[j]? = some p → ∃ b kv, kvs[j]? = some kv ∧ p = (.ref b, kv.2) ∧ H1 b = some (.tup (kv.1.map kV))) → Paired (EntT H') as kvs := by
    intro as ps h
    induction h with
    | nil =>
      intro kvs hl _
      obtain rfl := List.length_eq_zero_iff.mp hl
      exact .nil
    | cons a r ih =>
      intro kvs hl hj
      cases kvs with
      | nil => cases hl
      | cons kv kvs =>
        obtain ⟨b, kv', e1, e2, e3⟩ := hj 0 _ rfl
        obtain rfl : kv = kv' := Option.some.inj e1
        subst e2
        exact .cons ⟨b, a, k1 _ _ e3⟩ (ih (Nat.succ.inj hl) fun j p e => hj (j + 1) p e)
  exact mix k6 (by omega) l3
/-! ### dict(pairs) -/
def mergeT (kvs more : List (List Key × V)) : List (List Key × V) := more.foldl (fun acc kv => putK acc kv.1 kv.2) kvs
theorem ktMerge {H : Hp} : ∀ {more : List (List Key × V)} {rs xs : List (List Key × Addr × Value)} {kvs : List (List Key × V)}, KT H more rs → KT H kvs xs → KT H (mergeT kvs more) (storedAllH xs rs) := by
  intro more rs xs kvs r
  unfold KT at r
  induction r generalizing kvs xs with
  | nil => exact fun q => q
  | @cons p q ps qs h t ih =>
    intro r0
    have e : KT H (putK kvs p.1 p.2) (storedH xs q.1 q.2.1 q.2.2) := by
      have := KT.put r0 p.1 h.2.1 h.2.2
      rw [← h.1]
      exact this
    exact ih e
theorem refs_of : ∀ {ts : List Addr} {us : List Value}, Vals (ts.map V.ref) us → us = ts.map Value.ref
  | [], _, .nil => rfl
  | t :: r, _, .cons h k => by rw [refs_of k]; exact congrArg (· :: _) h
theorem ktOf {H : Hp} : ∀ {kvs : List (List Key × V)} {ps : List (List Key × Addr × Value)}, KT H kvs ps → ∀ x ∈ ps, ∃ kv ∈ kvs, kv.1 = x.1 ∧ H x.2.1 = some (.tup (x.1.map kV))
  | _, _, .nil, x, hx => absurd hx (by simp)
  | _, _, .cons h t, x, hx => (List.mem_cons.mp hx).elim (fun e => ⟨_, List.mem_cons_self, by rw [e]; exact h.1, by rw [e, ← h.1]; exact h.2.1⟩) (fun hx => let ⟨kv, h1, h2⟩ := ktOf t x hx; ⟨kv, List.mem_cons_of_mem _ h1, h2⟩)
theorem entsOf {pins : List (Addr × Obj)} {σ : L2.St} {H : Hp} {s : Shared} (I : Inv X pins σ H s) : ∀ {ts : List Addr} {kvs : List (List Key × V)}, Paired (EntT H) ts kvs → ∃ ps : List (List Key × Addr × Value), KT H kvs ps ∧ ∀ (j : Nat) (t : Addr) (p : List Key × Addr × Value), ts[j]? = some t → ps[j]? = some p → s.heap.IsTuple t #[.ref p.2.1, p.2.2]
  | _, _, .nil => ⟨[], .nil, fun j t p h => by simp at h⟩
  | _, _, @Paired.cons _ _ _ t kv _ _ h k => by
    obtain ⟨b, h1, h2⟩ := h
    obtain ⟨ps, k1, k2⟩ := entsOf I k
    obtain ⟨_, its, rv, o, g1, g2, n, g3⟩ := (show ObjOk X.prog X.w H s.heap t (.tup [.ref b, kv.2]) from I.hok t _ h1)
    obtain ⟨u1, u2, rfl, r1, r2⟩ := Vals.two rv
    obtain rfl : u1 = Value.ref b := r1
    refine ⟨(kv.1, b, u2) :: ps, .cons ⟨rfl, h2, r2⟩ k1, fun j t' p e1 e2 => ?_⟩
    cases j with
    | zero =>
      obtain rfl := Option.some.inj e1
      obtain rfl := Option.some.inj e2
      exact ⟨o, g1, g2, n, g3⟩
    | succ j => exact k2 j t' p e1 e2
theorem mergeT_len : ∀ (more kvs : List (List Key × V)), (mergeT kvs more).length ≤ kvs.length + more.length
  | [], kvs => Nat.le_refl _
  | p :: r, kvs => by
    have h1 := mergeT_len r (putK kvs p.1 p.2)
    have h2 := length_putK kvs p.1 p.2
    show (mergeT (putK kvs p.1 p.2) r).length ≤ _
    rw [List.length_cons]
    omega
theorem call_dictT (calm : X.calm = true) (room : X.A.units + 2 < cLine) : CallR X (.type "dict") (fun xs H Q => ∃ (a : Addr) (ts : List Addr) (kvs : List (List Key × V)), xs = [.ref a] ∧ SqL X.K H a (ts.map V.ref) ∧ Paired (EntT H) ts kvs ∧ ∀ p, H p = none → Q (.ref p) (upd H p (.dT (mergeT [] kvs)))) := by
  intro pins s σ H xs us Q I r q
  obtain ⟨a, ts, kvs, rfl, hq, hp, q⟩ := q
  obtain ⟨u, rfl, rx⟩ := vals1 r
  cases rx
  obtain ⟨its, rv, pl, hz⟩ := I.list hq
  obtain rfl := refs_of rv
  rw [List.length_map] at hz
  have tl : ts.length = kvs.length := Paired.length hp
  obtain ⟨ps, kt, tups⟩ := entsOf I hp
  have pl1 : ps.length = kvs.length := (Paired.length kt).symm
  have items : PairItems s.heap (ts.map Value.ref).toArray (fun j => ts.getD j 0) (ps.map fun p => (Value.ref p.2.1, p.2.2)) := by
    refine ⟨by simp; omega, fun j k v e => ?_⟩
    rw [List.getElem?_map] at e
    obtain ⟨p, hp', ep⟩ := Option.map_eq_some_iff.mp e
    obtain ⟨e1, e2⟩ := Prod.mk.inj ep
    obtain ⟨t, ht⟩ : ∃ t, ts[j]? = some t := ⟨_, List.getElem?_eq_getElem (show j < ts.length by have := (List.getElem?_eq_some_iff.mp hp').1; omega)⟩
    have gd : ts.getD j 0 = t := by simp [List.getD, ht]
    refine ⟨by show _ = some (Value.ref (ts.getD j 0)); rw [gd]; simp [ht], ?_⟩
    show PairAt s.heap (ts.getD j 0) k v
    rw [gd, ← e1, ← e2]
    exact .inl (tups j t p ht hp')
  have P := PairArg.list (prog := X.prog) (w := X.w) a (ts.map Value.ref).toArray (fun j => ts.getD j 0) (ps.map fun p => (Value.ref p.2.1, p.2.2))
  refine call_dict_pairsH (knd := tupleKind (mixKind X.prog X.w)) (ps := ps) P (I.ok.hd calm) (show X.A.units + 2 < cLine from room) ⟨?_, items⟩ ⟨by rw [List.length_map], fun i key v e => ?_⟩ (fun h' hk x hx => ?_) (by rw [List.length_map]; omega) fun h' tk dd kept => ?_
  · obtain ⟨o, n, e1, e2, e3, e4⟩ := pl
    exact ⟨o, n, e1, e2, e3, e4⟩
  · have e : (ps.map fun p => (Value.ref p.2.1, p.2.2))[i]? = some (key, v) := e
    rw [List.getElem?_map] at e
    obtain ⟨p, hp', ep⟩ := Option.map_eq_some_iff.mp e
    obtain ⟨e1, e2⟩ := Prod.mk.inj ep
    exact ⟨p.1, p.2.1, by rw [hp', ← e2], e1.symm⟩
  · obtain ⟨kv, _, _, hb⟩ := ktOf kt x hx
    obtain ⟨o, its, n, h1, h2, h3, h4⟩ := key_of I.hok hb
    exact ⟨o, its, n, hk _ _ (Nat.ne_of_lt (Heap.lt_size h1)) (by simp) h1, h2, h3, h4⟩
  · have low : (s.heap.objs.size == sysModules) = false := beq_eq_false_iff_ne.mpr (Nat.ne_of_gt I.big)
    have few : (mergeT [] kvs).length ≤ sizeLine := Nat.le_trans (mergeT_len kvs []) (by rw [List.length_nil, Nat.zero_add, ← tl]; exact hz)
    obtain ⟨o, es, ep, g1, g2, g3, g4, _, g5⟩ := dd
    refine ⟨.ref s.heap.objs.size, upd H s.heap.objs.size (.dT (mergeT [] kvs)), I.laid (t' := tk) (fun b ob e => kept b ob (by simp) e) (Nat.le_refl _) (show ObjOk X.prog X.w _ _ _ (.dT (mergeT [] kvs)) from ⟨few, low, _, KT.keeps (ktMerge kt .nil) fun c ys ec => ?_, o, es, ep, g1, g2, g3, g4, g5⟩), rfl, q _ (I.hok.fresh (Nat.le_refl _))⟩
    rw [upd_ne (fun z => by rw [z, I.hok.fresh (Nat.le_refl _)] at ec; cases ec)]
    exact ec
/-! ### d.clear() -/
def rClearT : V → List V → Hp → VK → Prop := fun x vs H Q => ∃ (a : Addr) (kvs : List (List Key × V)), x = .ref a ∧ vs = [] ∧ H a = some (.dT kvs) ∧ Q .non (upd H a (.dT []))
theorem mt_clearT : MtR X "dict.clear" rClearT := by
  intro pins s σ H x vs v us Q I rx rv h
  obtain ⟨a, kvs, rfl, rfl, e, q⟩ := h
  obtain rfl : v = Value.ref a := rx
  obtain rfl := rv.zero
  obtain ⟨h0, few, es, ep, raw, size, _⟩ := entsT (I.hok a _ e)
  refine call_meetsIn PySem.F.slot_dict_clear raw.typeIs PySem.F.entry_dict_clear (PySem.F.args_dict_clear_1 _) (meets_dict_clear_raw a) ⟨es, ep, raw, by omega, fun h' raw' same => ?_⟩
  obtain ⟨o, g1, g2, g3⟩ := raw'
  exact ⟨.non, _, d_write (ob := .dT []) (t' := s.toks) I (by rw [e]; exact True.intro) same ⟨o, g1⟩ ⟨Nat.zero_le _, h0, [], .nil, o, _, _, g1, g2, g3, rfl, List.nodup_nil⟩, rfl, q⟩
/-! ### xs.count(pair) -/
def pdPair (q : Str × Str) : PyData := .tuple [.str q.1, .str q.2]
theorem eqv_pair (p q : Str × Str) : PyData.eqv (pdPair p) (pdPair q) = decide (p = q) := by
  obtain ⟨a, b⟩ := p
  obtain ⟨c, d⟩ := q
  rw [Bool.eq_iff_iff]
  simp [pdPair, PyData.eqv, PyData.eqvAll]
theorem count_pair (q : Str × Str) : ∀ qs : List (Str × Str), (qs.map pdPair).countP (fun y => PyData.eqv y (pdPair q)) = qs.count q
  | [] => rfl
  | p :: r => by
    rw [List.map_cons, List.countP_cons, count_pair q r, List.count_cons, eqv_pair]
    by_cases e : p = q <;> simp [e]
theorem plain_pairs : ∀ qs : List (Str × Str), PyData.plainAll (qs.map pdPair) = true
  | [] => rfl
  | p :: r => by
    rw [List.map_cons]
    unfold PyData.plainAll
    rw [plain_pairs r]
    rfl
theorem depth_pairs : ∀ qs : List (Str × Str), PyData.depthAll (qs.map pdPair) ≤ 1
  | [] => by simp [PyData.depthAll]
  | p :: r => by
    have := depth_pairs r
    rw [List.map_cons]
    unfold PyData.depthAll
    have : PyData.depth (pdPair p) ≤ 1 := by simp [pdPair, PyData.depth, PyData.depthAll]
    omega
/-- tuples of two texts -/
def TwoAt (H : Hp) (t : Addr) (q : Str × Str) : Prop := H t = some (.tup [.str q.1, .str q.2])
theorem dp_pairs {K : PySem.W.Frag} {H : Hp} : ∀ {ts : List Addr} {qs : List (Str × Str)}, Paired (TwoAt H) ts qs → DpAll K H (ts.map V.ref) (qs.map pdPair)
  | _, _, .nil => .nil
  | _, _, .cons h k => .cons (.tup (SqT.of h) (.cons (.str _) (.cons (.str _) .nil))) (dp_pairs k)
def rCntP (K : PySem.W.Frag) : V → List V → Hp → VK → Prop := fun x xs H Q => ∃ (p b : Addr) (ts : List Addr) (qs : List (Str × Str)) (z : Str × Str), x = .ref p ∧ xs = [.ref b] ∧ SqL K H p (ts.map V.ref) ∧ Paired (TwoAt H) ts qs ∧ TwoAt H b z ∧ Q (.int (qs.count z : Nat)) H
theorem mt_countP (room : X.A.units + 3 < cLine) : MtR X "list.count" (rCntP X.K) := by
  intro pins s σ H x xs v us Q I rx rxs h
  obtain ⟨p, b, ts, qs, z, rfl, rfl, hq, hp, hb, q⟩ := h
  obtain rfl : v = Value.ref p := rx
  obtain ⟨u, rfl, ru⟩ := rxs.one
  obtain ⟨its, rv, pl, few⟩ := I.list hq
  obtain ⟨as, rs⟩ := Dp.readsAll I _ _ _ (dp_pairs hp) rv
  obtain ⟨bs, rb⟩ := Dp.reads I _ _ _ (.tup (SqT.of hb) (.cons (.str _) (.cons (.str _) .nil)) : Dp X.K H (.ref b) (pdPair z)) ru
  refine PySem.SeqAt.count_list_data pl.isList (by simpa using rs) rb (plain_pairs qs) rfl (by have := depth_pairs qs; omega) ?_
  show EP X pins σ Q (.int (((qs.map pdPair).countP fun y => PyData.eqv y (pdPair z) : Nat) : Int) s.toks) _
  rw [count_pair]
  exact ⟨.int (qs.count z : Nat), H, I.tok _, ⟨s.toks, rfl⟩, q⟩
/-! ### min(pair), max(pair) -/
theorem call_minP (calm : X.calm = true) : CallR X (.builtin "min") (fun xs H Q => ∃ (t : Addr) (x y : Str), xs = [.ref t] ∧ SqT X.K H t [.str x, .str y] ∧ Q (.str (if Srs.ltT y x then y else x)) H) := by
  intro pins s σ H xs us Q I r h
  obtain ⟨t, x, y, rfl, hq, q⟩ := h
  obtain ⟨u, rfl, rx⟩ := vals1 r
  cases rx
  obtain ⟨its, rv, tup, _⟩ := I.tuple hq
  obtain ⟨u1, u2, rfl, ⟨k1, rfl⟩, ⟨k2, rfl⟩⟩ := Vals.two rv
  have tup : s.heap.IsTuple t #[.str x k1, .str y k2] := let ⟨o, h1, h2, n, h3⟩ := tup; ⟨o, h1, h2, n, h3⟩
  have low : t < s.heap.objs.size := let ⟨o, h1, _⟩ := tup; Heap.lt_size h1
  refine call_min_walk (wpAny_pyIter_tuple tup ⟨_, [_, t], [_], _, _, _, _, rfl, Walks.tuple (A := X.A.in1) (I.ok.hd calm) _ t (Nat.ne_of_lt low) #[.str x k1, .str y k2], ⟨⟨_, Heap.get?_push_size _ rfl, rfl, rfl⟩, tup.push _⟩, fun c mc => ?_, by simp, Mm.cmp_ltT, fun v h' tk best hk => ?_⟩)
  · show c < (s.heap.push _).objs.size
    rw [Heap.size_push]
    simp only [List.mem_cons, List.not_mem_nil, or_false] at mc
    rcases mc with m | m <;> rw [m]
    · exact Nat.lt_succ_self _
    · exact Nat.lt_succ_of_lt low
  · have J : Inv X pins σ H { s with heap := h', toks := tk } := I.kept (t' := tk) fun c o e => by
      refine hk c o (fun m => ?_) (Heap.get?_push_of_some _ e)
      have lt := Heap.lt_size e
      rw [List.mem_singleton.mp m] at lt
      exact absurd lt (Nat.lt_irrefl _)
    refine ⟨.str (if Srs.ltT y x then y else x), H, J, ?_, q⟩
    cases c : Srs.ltT y x <;> simp [argBest, Mm.txt, c] at best <;> subst best <;> exact ⟨_, rfl⟩
theorem call_maxP (calm : X.calm = true) : CallR X (.builtin "max") (fun xs H Q => ∃ (t : Addr) (x y : Str), xs = [.ref t] ∧ SqT X.K H t [.str x, .str y] ∧ Q (.str (if Srs.ltT x y then y else x)) H) := by
  intro pins s σ H xs us Q I r h
  obtain ⟨t, x, y, rfl, hq, q⟩ := h
  obtain ⟨u, rfl, rx⟩ := vals1 r
  cases rx
  obtain ⟨its, rv, tup, _⟩ := I.tuple hq
  obtain ⟨u1, u2, rfl, ⟨k1, rfl⟩, ⟨k2, rfl⟩⟩ := Vals.two rv
  have tup : s.heap.IsTuple t #[.str x k1, .str y k2] := let ⟨o, h1, h2, n, h3⟩ := tup; ⟨o, h1, h2, n, h3⟩
  have low : t < s.heap.objs.size := let ⟨o, h1, _⟩ := tup; Heap.lt_size h1
  refine call_max_walk (wpAny_pyIter_tuple tup ⟨_, [_, t], [_], _, _, _, _, rfl, Walks.tuple (A := X.A.in1) (I.ok.hd calm) _ t (Nat.ne_of_lt low) #[.str x k1, .str y k2], ⟨⟨_, Heap.get?_push_size _ rfl, rfl, rfl⟩, tup.push _⟩, fun c mc => ?_, by simp, Mm.cmp_gtT, fun v h' tk best hk => ?_⟩)
  · show c < (s.heap.push _).objs.size
    rw [Heap.size_push]
    simp only [List.mem_cons, List.not_mem_nil, or_false] at mc
    rcases mc with m | m <;> rw [m]
    · exact Nat.lt_succ_self _
    · exact Nat.lt_succ_of_lt low
  · have J : Inv X pins σ H { s with heap := h', toks := tk } := I.kept (t' := tk) fun c o e => by
      refine hk c o (fun m => ?_) (Heap.get?_push_of_some _ e)
      have lt := Heap.lt_size e
      rw [List.mem_singleton.mp m] at lt
      exact absurd lt (Nat.lt_irrefl _)
    refine ⟨.str (if Srs.ltT x y then y else x), H, J, ?_, q⟩
    cases c : Srs.ltT x y <;> simp [argBest, Mm.txt, c] at best <;> subst best <;> exact ⟨_, rfl⟩
end
end Dt

namespace K02
open PySem PySem.Spec PyProof.Rows L2 Tr Sq Dk Dt
/-! ### _law_v_beyond, _law_begins -/
abbrev sBeyond : Stmt := top 51
theorem eqvAll_strs : ∀ (l k : List Str), PyData.eqvAll (l.map PyData.str) (k.map PyData.str) = decide (l = k)
  | [], [] => by simp [PyData.eqvAll]
  | [], y :: k => by simp [PyData.eqvAll]
  | x :: l, [] => by simp [PyData.eqvAll]
  | x :: l, y :: k => by
    rw [List.map_cons, List.map_cons, PyData.eqvAll, eqvAll_strs l k]
    rw [Bool.eq_iff_iff]
    simp [PyData.eqv]
theorem eqv_rows (l k : List Str) : PyData.eqv (pdRow l) (pdRow k) = decide (l = k) := by
  unfold pdRow
  rw [PyData.eqv]
  exact eqvAll_strs l k
theorem shaped_strs (l : List Str) (h : ∀ z ∈ l, PyData.strOk z = true) : SeqAt.shaped (pdRow l) = true := by
  unfold SeqAt.shaped pdRow
  simp only [PyData.canLay0, PyData.depth, lay_strs l h, depth_strs l, Bool.true_and]
  exact decide_eq_true (by omega)
theorem cutV_one {xs : List V} : cutV xs (some 1) (some 2) = (xs.drop 1).take 1 := by
  unfold cutV
  rw [show (1 : Int) = ((1 : Nat) : Int) from rfl, show (2 : Int) = ((2 : Nat) : Int) from rfl, HT.sIx_nat, HT.sIx_nat]
  match xs with
  | [] => rfl
  | [x] => rfl
  | x :: y :: r =>
    have h1 : min 1 (x :: y :: r).length = 1 := by rw [List.length_cons]; omega
    have h2 : min 2 (x :: y :: r).length = 2 := by rw [List.length_cons, List.length_cons]; omega
    rw [h1, h2]
/-- the second of a way says what is beyond -/
theorem way_bey {hs : List Str} {ps : Prs} {fr : Str → Str → Option Str} {way : Str → Str → List Str} (T : Tree hs ps) (W : Ways hs ps fr way) {a b x : Str} (ha : a ∈ hs) (hx : x ∈ hs) (hab : Adj ps a b) : decide (((way a x).drop 1).take 1 = [b]) = bey fr a b x := by
  by_cases h : x = a
  · rw [h, W.same ha]
    unfold bey
    rw [(W.rt a ha).none]
    simp
  · obtain ⟨w1, ew⟩ := W.way_1 ha hx h
    rw [ew, ← W.sgn_bey T ha hx hab]
    simp
def spBeyond : Sp := fun vs H Q _ => ∃ (l q : Addr) (a b : Str) (hs0 : List Str) (qs : PrL) (hs : List Str) (fr : Str → Str → Option Str) (way : Str → Str → List Str), vs = [.ref l, .ref q, .str a, .str b] ∧ H l = some (.lst (hs0.map V.str)) ∧ H q = some (.lst (refsL qs)) ∧ PrsAt H qs ∧ Tree hs (qs.map (·.2)) ∧ Ways hs (qs.map (·.2)) fr way ∧ Adj (qs.map (·.2)) a b ∧ hs.length ≤ 30 ∧ qs.length ≤ 30 ∧ (∀ h ∈ hs, h ∈ names12) ∧ (∀ h ∈ hs0, h ∈ hs) ∧ hs0.length ≤ 30 ∧
  ∀ (r : Addr) (ys : List Str) (H' : Hp), Evl.Ex H H' → H r = none → H' r = some (.lst (ys.map V.str)) → ys.Perm (hs0.filter (bey fr a b)) → sortedS ys = true → Q (.ref r) H'
def spBegins : Sp := fun vs H Q _ => ∃ (l q rw pt : Addr) (a b r0 : Str) (rt hs0 : List Str) (qs : PrL) (hs : List Str) (fr : Str → Str → Option Str) (way : Str → Str → List Str), vs = [.ref l, .ref q, .ref rw, .ref pt] ∧ H l = some (.lst (hs0.map V.str)) ∧ H q = some (.lst (refsL qs)) ∧ PrsAt H qs ∧ Tree hs (qs.map (·.2)) ∧ Ways hs (qs.map (·.2)) fr way ∧ Adj (qs.map (·.2)) a b ∧ hs.length ≤ 30 ∧ qs.length ≤ 30 ∧ (∀ h ∈ hs, h ∈ names12) ∧ (∀ h, h ∈ hs0 ↔ h ∈ hs) ∧ hs0.length ≤ 30 ∧
  H rw = some (.lst ((r0 :: rt).map V.str)) ∧ (∀ r ∈ r0 :: rt, r ∈ hs) ∧ rt.length ≤ 100 ∧ H pt = some (.tup [.str a, .str b]) ∧ ∀ H', Evl.Ex H H' → Q (.int (ups (bey fr a b) r0 (rt ++ [r0]) : Nat)) H'
section
variable {P : Program} {w : World} {K : PySem.W.Frag} {mg : Str → Option Value} {base : Heap}
theorem scBeyond : FnScope ["houses", "paths", "house", "other", "far"] ["houses", "paths", "house", "other"] (defScope sBeyond) := ⟨rfl, rfl, rfl, by decide +kernel, rfl, by decide +kernel, by decide +kernel⟩
theorem ok_beyond {f fW : Addr} {fd fdW : FuncData} (F : FnP K "_law_v_beyond" sBeyond f fd) (GW : FnOk P w K mg base CX0 2 fW fdW ["paths", "one", "other"] spWay) (bW : L2.Binds K fdW ["paths", "one", "other"] []) (kW : PySem.W.keepIn K (.ref fW) = true) (gW : mg "_law_v_way" = some (.ref fW)) (gS : mg "sorted" = none) : FnOk P w K mg base CX0 3 f fd ["houses", "paths", "house", "other"] spBeyond := by
  refine F.ok scBeyond (fun vs H Q E h => ?_) (fun cdv A outer s H vs Q E hr h => ?_)
  · obtain ⟨l, q, a, b, hs0, qs, hs, fr, way, rfl, _⟩ := h
    rfl
  · obtain ⟨l, q, a, b, hs0, qs, hs, fr, way, rfl, hl, hq, hP, T, W, hab, h30, q30, hgood, hin, hl30, k⟩ := h
    refine' ⟨_, PSs.nox (pss_one (ps_ret (pe_callB cr_sortedS (by rfl) gS (by decide +kernel) (pa_cons ?lc pa_nil)))), ?rd⟩
    case lc =>
      refine pe_lc (own := [("far", 4)]) (g := gName 4) (tt := tTest (tOp (rEqD K) (tSl (rSlL K) (tCall spWay [] E0 (tCons (tVar 1) (tCons (tVar 2) (tCons (tVar 4) tNil)))) (tPart (tC (.int 1))) (tPart (tC (.int 2)))) (tLst (tCons (tVar 3) tNil)))) (te := tVar 4) rfl scBeyond.nd (pi_list (pv 0))
        (blkOk_by (own := [("far", 4)]) (N := ["houses", "paths", "house", "other", "far"]) (sc := defScope sBeyond) (by decide +kernel)) (fun _ _ _ _ _ => pg_name (i := 4) scBeyond.nd rfl (.inl rfl)) (fun _ _ _ _ _ => pts_one (pt_cmpR (op_eqD hr.units) (pe_slice sl_list (pe_call GW hr rfl gW kW bW .nil pass0 (pa_cons (pv 1) (pa_cons (pv 2) (pa_cons (pv 4) pa_nil)))) (po_some pe_int) (po_some pe_int)) (pe_lst (pa_cons (pv 3) pa_nil)) (nomark _))) ?_
      intro _ _ _ _ _
      exact pv 4
    obtain ⟨ha, hb⟩ := T.mem hab
    have bok : PyData.strOk b = true := good_ok _ (hgood _ hb)
    refine ⟨_, rfl, l, rfl, ⟨_, SqL.of hl⟩, fun D hD => ?_⟩
    refine lc_it (walk_list (xs := hs0.map V.str)) (fun i H' => Evl.Ex H H' ∧ H' D = some (.lst (((hs0.take i).filter (bey fr a b)).map V.str))) ⟨Evl.Ex.new hD, upd_same⟩ (fun i H' _ hp => SqL.of (hp.1 _ _ hl)) (fun i x H1 H2 hi hp hy => ?_) (fun H1 hp => ?_)
    · obtain ⟨x1, e1⟩ := hp
      obtain ⟨rfl, hx⟩ := hy
      rw [List.length_map] at hi
      obtain ⟨h, hh⟩ := getD_of hi
      rw [List.getElem?_map, hh] at hx
      cases hx
      have hm : h ∈ hs := hin h (List.mem_of_getElem? hh)
      have tk : hs0.take (i + 1) = hs0.take i ++ [h] := by rw [List.take_add_one, hh]; rfl
      have wb := way_bey T W ha hm hab
      have wmem : ∀ z ∈ ((way a h).drop 1).take 1, PyData.strOk z = true := fun z hz => by
        by_cases e : h = a
        · rw [e, W.same ha] at hz
          simp at hz
        · obtain ⟨w1, ew⟩ := W.way_1 ha hm e
          rw [ew] at hz
          simp at hz
          rw [hz]
          exact good_ok _ (hgood _ (W.sgn_mem T ha hm))
      refine ⟨rfl, _, rfl, _, rfl, _, rfl, q, a, h, qs, hs, fr, way, rfl, x1 _ _ hq, hP.ex x1, T, W, ha, hm, h30, q30, hgood, fun r H3 x3 hr3 hr3' => ?_⟩
      refine ⟨_, rfl, _, rfl, r, _, rfl, SqL.of hr3', fun c hc => ?_⟩
      rw [cutV_one, ← List.map_drop, ← List.map_take]
      refine ⟨_, rfl, by show 1 ≤ sizeLine; decide, fun e he => ?_⟩
      have x4 := (x3.trans (Evl.Ex.new (o := .lst ((((way a h).drop 1).take 1).map V.str)) hc)).trans (Evl.Ex.new (o := .lst [V.str b]) he)
      have hce : c ≠ e := ne_of_none upd_same he
      refine ⟨pdRow (((way a h).drop 1).take 1), pdRow [b], .lst (SqL.of (by rw [upd_ne hce]; exact upd_same)) (dpa_strs _), .lst (SqL.of upd_same) (dpa_strs [b]), shaped_strs _ wmem, shaped_strs _ (fun z hz => by rw [List.mem_singleton.mp hz]; exact bok), _, rfl, ?_⟩
      rw [eqv_rows, wb]
      have e4 := x4 _ _ e1
      have len : ((hs0.take i).filter (bey fr a b)).length ≤ 30 := Nat.le_trans (List.length_filter_le _ _) (by rw [List.length_take]; omega)
      cases hbb : bey fr a b h with
      | true =>
        refine iteT ⟨_, rfl, _, e4, ?_, ex_upd (x1.trans x4) hD, ?_⟩
        · rw [List.length_map]
          exact Nat.lt_of_le_of_lt len (by decide)
        · rw [upd_same, tk, List.filter_append]
          simp [hbb]
      | false =>
        refine iteF ⟨x1.trans x4, ?_⟩
        rw [e4, tk, List.filter_append]
        simp [hbb]
    · obtain ⟨x1, e1⟩ := hp
      rw [List.length_map, List.take_length] at e1
      refine ⟨D, _, rfl, SqL.of e1, by have := List.length_filter_le (bey fr a b) hs0; omega, fun ys r hys hsr hr2 => ?_⟩
      exact k r ys _ (x1.trans (Evl.Ex.new hr2)) (none_of (fun o z => x1 _ _ z) hr2) upd_same hys hsr
end
end K02

namespace Lm
open PySem PySem.W PySem.Spec PySem.Calls PyProof.Rows L2
/-! ### a lambda is made, and its own code object's table is known, too -/
section
variable {M : Model} {A : Around} {E : Value → Shared → Prop} {s : Shared} {name qual : Str} {params : Arguments} {body : Expr} {scope : Scope} {env : Env} {c P : Addr} {ps : Array Value} {pos : Pos} {line : Nat} {mg : Str → Option Value} {clos : List (Str × Addr)} {Q : Value → Shared → Prop}
/-- what stands behind the making: the code object c2 with its table P2, still empty -/
structure Made (P : Addr) (ps : Array Value) (pos : Pos) (qual : Str) (h h' : Heap) (c2 P2 : Addr) : Prop where
  keep : Heap.ExtBut P h h'
  big : h.objs.size ≤ c2
  lt : c2 < h'.objs.size
  rec_ : h'.CodeRec (.ref c2) qual
  tab : h'.get? P = some (tabObj (ps ++ #[rawInt pos.line, rawInt pos.col, .ref c2]))
  big2 : h.objs.size ≤ P2
  head : CodeHd h' c2 P2
  tab2 : h'.get? P2 = some (tabObj #[])
theorem make_new (hcl : closureFor scope env = pure clos) (hgl : env.globals = mainGlobals) (hg : s.heap.Ns mainGlobals mg) (hcode : env.code = .ref c) (C : CodeHd s.heap c P) (hP : s.heap.get? P = some (tabObj ps)) (ht : TriplesOk ps.toList)
    (hnf : codeAmong pos ps.toList = none) (hgP : mainGlobals ≠ P) (hb : s.heap.BuiltinsAt mg P)
    (k : ∀ c2 P2 ctv h' tk, Made P ps pos qual s.heap h' c2 P2 → Q (.ref h'.objs.size) { s with heap := h'.push (kla_obj name qual params body scope clos ((mg "__name__").getD .none) c2 ctv), toks := tk }) :
    wpAny M A (makeFunction name qual params (.expr body) scope env [] [] [] pos line) Q E s := by
  rw [makeFunction_eq]
  simp only [List.zip_nil_right, List.filterMap_nil, List.isEmpty_nil, if_true, pure_bind]
  obtain ⟨bm, ob, b1, b2, _, b4, b5, b6, b7, b8⟩ := hb
  have code : ∀ (h0 : Heap) (R : Value → Shared → Prop), (∀ b o, s.heap.get? b = some o → h0.get? b = some o) → s.heap.objs.size ≤ h0.objs.size → h0.Ns mainGlobals mg →
      (∀ c2 P2 h' tk, Made P ps pos qual s.heap h' c2 P2 → h'.Ns mainGlobals mg → h'.get? bm = some ob → R (.ref c2) { s with heap := h', toks := tk }) → wpAny M A (functionCode env pos line name qual params scope (.expr body)) R E { s with heap := h0 } := by
    intro h0 R kp sz hg0 kR
    refine wpAny_functionCodeX hcode ((C.keeps kp).code (kp _ _ hP) ht) ((C.keeps kp).tab (kp _ _ hP)) hnf fun c2 h' tk hx hge hlt _ hrec htb ⟨P2, hP2, hic, hta⟩ => ?_
    have hx' : Heap.ExtBut P s.heap h' := fun b o hb' e => hx b o hb' (kp b o e)
    exact kR c2 P2 h' tk ⟨hx', Nat.le_trans sz hge, hlt, hrec, htb.2, Nat.le_trans sz hP2, CodeHd.of hic hta, hta.2⟩ (hg0.extBut hx hgP) (hx' _ _ b4 b5)
  unfold makeTail
  rw [hcl, hgl]
  refine wpAny_bind (wpAny_pure ?_)
  cases clos with
  | nil =>
    simp only [List.isEmpty_nil, if_true]
    refine wpAny_bind (wpAny_pure (wpAny_bind (code s.heap _ (fun _ _ e => e) (Nat.le_refl _) hg fun c2 P2 h' tk m hn hm => ?_)))
    refine wpAny_bind (wpAny_builtinsFor hn b1 b2 hm b6 b7 b8 (wpAny_bind (wpAny_nsGet hn ?_)))
    exact wpAny_bind (wpAny_pure (wpAny_newObj_type (k c2 P2 .none h' tk m) (by size_fits)))
  | cons q r =>
    simp only [List.isEmpty_cons, Bool.false_eq_true, if_false]
    refine wpAny_bind (wpAny_newTextTuple (wpAny_bind (code (s.heap.push _) _ (fun _ _ e => Heap.get?_push_of_some _ e) (by rw [Heap.size_push]; omega) (hg.push _) fun c2 P2 h' tk m hn hm => ?_)))
    refine wpAny_bind (wpAny_builtinsFor hn b1 b2 hm b6 b7 b8 (wpAny_bind (wpAny_nsGet hn ?_)))
    exact wpAny_bind (wpAny_pure (wpAny_newObj_type (k c2 P2 _ h' tk m) (by size_fits)))
end
/-- a code object of the name q, its table at P2 -/
def CodeT (c : Addr) (q : Str) (P2 : Addr) : HO := .ext fun h => h.CodeRec (.ref c) q ∧ CodeHd h c P2
theorem codeHd_at {h h' : Heap} {c P2 : Addr} (x : CodeHd h c P2) (e : ∀ o, h.get? c = some o → h'.get? c = some o) : CodeHd h' c P2 := by
  obtain ⟨o, r1, r2, r3, r4, r5, r6, r7, r8, g, r⟩ := x
  exact ⟨o, r1, r2, r3, r4, r5, r6, r7, r8, e _ g, r⟩
theorem codeT_ok {P : Program} {w : World} {H : Hp} {h : Heap} {c P2 : Addr} {q : Str} (r : h.CodeRec (.ref c) q) (hd : CodeHd h c P2) : ObjOk P w H h c (CodeT c q P2) := by
  refine ⟨⟨r, hd⟩, ?_, fun h1 h2 ⟨a, b⟩ st => ⟨a.at st, codeHd_at b st⟩⟩
  obtain ⟨_, o, _, _, e, g, _⟩ := r
  cases e
  exact ⟨o, g⟩
theorem codeT_ne {c P2 : Addr} {q : Str} (ps : Array Value) : CodeT c q P2 ≠ .tbl ps := fun z => by
  unfold CodeT at z
  cases z
section
variable {X : Cx} {pins : List (Addr × Obj)} {σ : L2.St} {H : Hp} {s : Shared}
theorem inv_made {P c2 P2 : Addr} {q : Str} {ps : Array Value} {pos : Pos} {h0 h' : Heap} {t' : Nat} (I : Inv X pins σ H s) (hP : H P = some (.tbl ps)) (m : Made P ps pos q s.heap h0 c2 P2) (kh : ∀ b o, h0.get? b = some o → h'.get? b = some o) :
    Inv X pins σ (upd (upd (upd H P (.tbl (ps ++ #[rawInt pos.line, rawInt pos.col, .ref c2]))) c2 (CodeT c2 q P2)) P2 (.tbl #[])) { s with heap := h', toks := t' } := by
  have nC : H c2 = none := I.hok.fresh m.big
  have n2 : H P2 = none := I.hok.fresh m.big2
  have c2P : c2 ≠ P2 := by
    obtain ⟨_, _, _, _, _, _, _, _, _, _, _, _, _, _, _, _, _, _, ne⟩ := m.head
    exact ne
  have nPc : P ≠ c2 := ne_of_none hP nC
  have nP2 : P ≠ P2 := ne_of_none hP n2
  have off : ∀ b, b ≠ P → b ≠ c2 → b ≠ P2 → upd (upd (upd H P (.tbl (ps ++ #[rawInt pos.line, rawInt pos.col, .ref c2]))) c2 (CodeT c2 q P2)) P2 (.tbl #[]) b = H b := fun b h1 h2 h3 => by rw [upd_ne h3, upd_ne h2, upd_ne h1]
  have atP : upd (upd (upd H P (.tbl (ps ++ #[rawInt pos.line, rawInt pos.col, .ref c2]))) c2 (CodeT c2 q P2)) P2 (.tbl #[]) P = some (.tbl (ps ++ #[rawInt pos.line, rawInt pos.col, .ref c2])) := by rw [upd_ne nP2, upd_ne nPc, upd_same]
  have notP : ∀ b u, H b = some u → (∀ z, u ≠ .tbl z) → b ≠ P := fun b u e z y => by
    rw [y, hP] at e
    exact z ps (Option.some.inj e).symm
  have freeP : ∀ b, H b = none → b ≠ P := fun b e z => by
    rw [z, hP] at e
    cases e
  have oldC : ∀ b o, s.heap.get? b = some o → b ≠ c2 := fun b o e z => Nat.lt_irrefl _ (Nat.lt_of_lt_of_le (Heap.lt_size e) (z ▸ m.big))
  have old2 : ∀ b o, s.heap.get? b = some o → b ≠ P2 := fun b o e z => Nat.lt_irrefl _ (Nat.lt_of_lt_of_le (Heap.lt_size e) (z ▸ m.big2))
  have kp : ∀ b o, b ≠ P → s.heap.get? b = some o → h'.get? b = some o := fun b o hb e => kh _ _ (m.keep b o hb e)
  refine I.step (g' := s.gens) (d' := s.drawn) (ch := []) (fun b hb => absurd hb (by simp)) (fun b o _ _ _ e n => kp b o (freeP b n) e) (fun b o _ _ _ e n => ⟨o.slots, kp b o (freeP b n) e⟩)
    (fun b o _ e n => by rw [off b (freeP b n) (oldC b o e) (old2 b o e)]; exact n) (fun b o _ e => ?_) (fun b xs e => ?_) (fun b o u e => ?_) (fun b qs e => ?_) (fun mm hn => ?_) (fun b u e => ?_) I.bare
  · by_cases hb : b = P
    · rw [hb]
      exact ⟨_, kh _ _ m.tab⟩
    · exact ⟨o, kp b o hb e⟩
  · rw [off b (notP b _ e (fun z y => by cases y)) (ne_of_none e nC) (ne_of_none e n2)]
    exact e
  · rw [off b (notP b _ e (fun z y => by cases y)) (ne_of_none e nC) (ne_of_none e n2)]
    exact e
  · by_cases hb : b = P
    · rw [hb, hP] at e
      cases e
      rw [hb, atP]
      exact ⟨_, rfl⟩
    · rw [off b hb (ne_of_none e nC) (ne_of_none e n2), e]
      exact ⟨#[], by simp⟩
  · obtain ⟨ob, es, ep, ho, r⟩ := hn
    exact ⟨ob, es, ep, kp _ ob (freeP _ I.free) ho, r⟩
  · by_cases h2 : b = P2
    · subst h2
      rw [upd_same] at e
      cases e
      exact kh _ _ m.tab2
    · rw [upd_ne h2] at e
      by_cases hc : b = c2
      · subst hc
        rw [upd_same] at e
        cases e
        exact codeT_ok (m.rec_.keeps kh) (m.head.keeps kh)
      · rw [upd_ne hc] at e
        by_cases hb : b = P
        · subst hb
          rw [upd_same] at e
          cases e
          exact kh _ _ m.tab
        · rw [upd_ne hb] at e
          refine (I.hok b u e).stay (fun d v hd y => kp d v ?_ y) (fun d y => ?_) fun d xs y => ?_
          · rcases hd with z | z
            · rw [z]
              exact hb
            · exact notP d _ z (fun z y => by cases y)
          · rw [off d (notP d _ y (fun z y => by cases y)) (ne_of_none y nC) (ne_of_none y n2)]
            exact y
          · rw [off d (notP d _ y (fun z y => by cases y)) (ne_of_none y nC) (ne_of_none y n2)]
            exact y
end
/-- a table's address is none of those that the making of a lambda reads besides -/
def Good (mg : Str → Option Value) (P2 : Addr) : Prop := mainGlobals ≠ P2 ∧ ∀ bm, mg "__builtins__" = some (.ref bm) → bm ≠ P2
/-- the table at P: its code objects bear the first name, their own tables the next ones -/
def TabD (mg : Str → Option Value) : List Str → Hp → Addr → Prop
  | [], _, _ => True
  | q :: qs, H, P => ∃ ps : Array Value, H P = some (.tbl ps) ∧ TriplesOk ps.toList ∧ ∀ (pos : Pos) (cv : Value), codeAmong pos ps.toList = some cv → ∃ c P2, cv = .ref c ∧ H c = some (CodeT c q P2) ∧ P2 ≠ P ∧ TabD mg qs H P2 ∧ Good mg P2
/-- all stays but the table at P -/
def Grow (P : Addr) (H H1 : Hp) : Prop := ∀ b o, b ≠ P → H b = some o → H1 b = some o
theorem tabD_nil {mg : Str → Option Value} {qs : List Str} {H : Hp} {P2 : Addr} (h : H P2 = some (.tbl #[])) : TabD mg qs H P2 := by
  cases qs with
  | nil => exact True.intro
  | cons q r => exact ⟨#[], h, True.intro, fun pos cv hc => by simp [codeAmong] at hc⟩
theorem tabD_one {mg : Str → Option Value} {q : Str} {H H1 : Hp} {P Y : Addr} {ps0 : Array Value} (hP : H P = some (.tbl ps0)) (g : Grow P H H1) (hY : Y ≠ P) (t : TabD mg [q] H Y) : TabD mg [q] H1 Y := by
  obtain ⟨ps, h1, h2, h3⟩ := t
  refine ⟨ps, g _ _ hY h1, h2, fun pos cv hc => ?_⟩
  obtain ⟨c, P2, e1, e2, e3, e4, e5⟩ := h3 pos cv hc
  exact ⟨c, P2, e1, g _ _ (fun z => by rw [z, hP] at e2; exact codeT_ne ps0 (Option.some.inj e2).symm) e2, e3, e4, e5⟩
/-- an inner table has grown: the outer one tells as before -/
theorem tabD_two {mg : Str → Option Value} {q1 q2 : Str} {H H1 : Hp} {P Y : Addr} {ps0 : Array Value} (hP : H P = some (.tbl ps0)) (g : Grow P H H1) (hY : Y ≠ P) (new : TabD mg [q2] H1 P) (t : TabD mg [q1, q2] H Y) : TabD mg [q1, q2] H1 Y := by
  obtain ⟨ps, h1, h2, h3⟩ := t
  refine ⟨ps, g _ _ hY h1, h2, fun pos cv hc => ?_⟩
  obtain ⟨c, P2, e1, e2, e3, e4, e5⟩ := h3 pos cv hc
  refine ⟨c, P2, e1, g _ _ (fun z => by rw [z, hP] at e2; exact codeT_ne ps0 (Option.some.inj e2).symm) e2, e3, ?_, e5⟩
  by_cases hz : P2 = P
  · rw [hz]
    exact new
  · exact tabD_one hP g hz e4
section
variable {X : Cx} {pins : List (Addr × Obj)} {σ : L2.St} {H : Hp} {s : Shared}
/-- a lambda is made: new, or by the code object that stands in the table -/
theorem lam_makeT {qs : List Str} {c P : Addr} {params : Arguments} {body : Expr} {scope : Scope} {pos : Pos} {E : Value → Shared → Prop} {Q : Value → Shared → Prop} (I : Inv X pins σ H s) (C : CodeHd s.heap c P) (hgP : mainGlobals ≠ P) (bP : s.heap.BuiltinsAt X.mg P) (hcode : X.env.code = .ref c)
    (hT : TabD X.mg ((X.env.qual ++ "<lambda>") :: qs) H P) (stab : ∀ H1 Y, Grow P H H1 → Y ≠ P → TabD X.mg qs H Y → TabD X.mg qs H1 Y) (hdef : defaultsOf params X.env = ([], [])) (hfree : ∀ y ∈ scope.names, y.2 = .free → ∃ c, X.env.cells.lookup y.1 = some c)
    (k : ∀ (f c2 P2 : Addr) (pm ctv : Value) (H1 : Hp) (s' : Shared), Inv X pins σ H1 s' → Grow P H H1 → TabD X.mg ((X.env.qual ++ "<lambda>") :: qs) H1 P →
      s'.heap.get? f = some (kla_obj "<lambda>" (X.env.qual ++ "<lambda>") params body scope (cloFrom X.env.cells scope.names []) pm c2 ctv) → H1 f = none → f ∉ frs X.stack → H1 c2 = some (CodeT c2 (X.env.qual ++ "<lambda>") P2) → P2 ≠ P → TabD X.mg qs H1 P2 → Good X.mg P2 → Q (.ref f) s') :
    wpAny (model X.prog X.w) X.A (eval (.Lambda params body scope pos) X.env) Q E s := by
  obtain ⟨ps, hP, ht, ha⟩ := hT
  have hP' : s.heap.get? P = some (tabObj ps) := I.hok P _ hP
  have away : ∀ f, s.heap.objs.size ≤ f → f ∉ frs X.stack := fun f hf z => by
    rcases List.mem_cons.mp (I.stkSub _ z) with e | e
    · exact Nat.lt_irrefl _ (Nat.lt_of_lt_of_le (e ▸ I.lt) hf)
    · exact I.nofs hf e
  refine kla_eval hdef ?_
  cases hc : codeAmong pos ps.toList with
  | some cv =>
    obtain ⟨c2, P2, e, e2, e3, e4, e5⟩ := ha pos cv hc
    subst e
    refine kla_makeFunctionHit (mg := X.mg) (c := c) (P := P) (ps := ps) (closure_ok hfree) I.ok.glob (I.mod.glob.keeps I.bk) hcode C hP' ht hc bP fun ctv h' tk hx hsz => ?_
    exact k h'.objs.size c2 P2 _ ctv H _ (I.kept fun b o e => Heap.get?_push_of_some _ (hx b o e)) (fun _ _ _ e => e) ⟨ps, hP, ht, ha⟩ (Heap.get?_push_size _ rfl) (I.hok.fresh hsz) (away _ hsz) e2 e3 e4 e5
  | none =>
    have bP0 := bP
    obtain ⟨bm, ob, b1, _, _, _, b5, _⟩ := bP0
    refine make_new (mg := X.mg) (c := c) (P := P) (ps := ps) (closure_ok hfree) I.ok.glob (I.mod.glob.keeps I.bk) hcode C hP' ht hc hgP bP fun c2 P2 ctv h' tk m => ?_
    have nC : H c2 = none := I.hok.fresh m.big
    have n2 : H P2 = none := I.hok.fresh m.big2
    have nPc : P ≠ c2 := ne_of_none hP nC
    have nP2 : P ≠ P2 := ne_of_none hP n2
    have c2P : c2 ≠ P2 := by
      obtain ⟨_, _, _, _, _, _, _, _, _, _, _, _, _, _, _, _, _, _, ne⟩ := m.head
      exact ne
    have hsz : s.heap.objs.size ≤ h'.objs.size := Nat.le_trans m.big (Nat.le_of_lt m.lt)
    have I1 := inv_made (t' := tk) (h' := h'.push (kla_obj "<lambda>" (X.env.qual ++ "<lambda>") params body scope (cloFrom X.env.cells scope.names []) ((X.mg "__name__").getD .none) c2 ctv)) I hP m (fun b o e => Heap.get?_push_of_some _ e)
    have gr : Grow P H (upd (upd (upd H P (.tbl (ps ++ #[rawInt pos.line, rawInt pos.col, .ref c2]))) c2 (CodeT c2 (X.env.qual ++ "<lambda>") P2)) P2 (.tbl #[])) := fun b o hb e => by
      rw [upd_ne (ne_of_none e n2), upd_ne (ne_of_none e nC), upd_ne hb]
      exact e
    have hcT : upd (upd (upd H P (.tbl (ps ++ #[rawInt pos.line, rawInt pos.col, .ref c2]))) c2 (CodeT c2 (X.env.qual ++ "<lambda>") P2)) P2 (.tbl #[]) c2 = some (CodeT c2 (X.env.qual ++ "<lambda>") P2) := by rw [upd_ne c2P, upd_same]
    have t2 : TabD X.mg qs (upd (upd (upd H P (.tbl (ps ++ #[rawInt pos.line, rawInt pos.col, .ref c2]))) c2 (CodeT c2 (X.env.qual ++ "<lambda>") P2)) P2 (.tbl #[])) P2 := tabD_nil upd_same
    have gd : Good X.mg P2 := by
      refine ⟨fun z => ?_, fun b hb z => ?_⟩
      · obtain ⟨og, _, _, eg, _⟩ := I.mod.glob.keeps I.bk
        exact Nat.lt_irrefl _ (Nat.lt_of_lt_of_le (Heap.lt_size eg) (z ▸ m.big2))
      · rw [b1] at hb
        cases hb
        exact Nat.lt_irrefl _ (Nat.lt_of_lt_of_le (Heap.lt_size b5) (z ▸ m.big2))
    refine k h'.objs.size c2 P2 _ ctv _ _ I1 gr ⟨_, by rw [upd_ne nP2, upd_ne nPc, upd_same], ?_, fun p' cv hcv => ?_⟩ (Heap.get?_push_size _ rfl) ?_ (away _ hsz) hcT nP2.symm t2 gd
    · rw [show (ps ++ #[rawInt pos.line, rawInt pos.col, .ref c2]).toList = ps.toList ++ [rawInt pos.line, rawInt pos.col, .ref c2] by simp]
      exact PySem.TriplesOk_snoc _ _ _ _ ht
    · rw [show (ps ++ #[rawInt pos.line, rawInt pos.col, .ref c2]).toList = ps.toList ++ [rawInt pos.line, rawInt pos.col, .ref c2] by simp] at hcv
      rcases LamX.among_app _ ht hcv with z | z
      · obtain ⟨c0, P0, e1, e2, e3, e4, e5⟩ := ha p' cv z
        exact ⟨c0, P0, e1, gr _ _ (fun y => by rw [y, hP] at e2; exact codeT_ne ps (Option.some.inj e2).symm) e2, e3, stab _ _ gr e3 e4, e5⟩
      · exact ⟨c2, P2, z, hcT, nP2.symm, t2, gd⟩
    · have n1 : h'.objs.size ≠ c2 := Nat.ne_of_gt m.lt
      have n3 : h'.objs.size ≠ P2 := Nat.ne_of_gt (Heap.lt_size m.tab2)
      have n4 : h'.objs.size ≠ P := Nat.ne_of_gt (Nat.lt_of_lt_of_le (Heap.lt_size hP') hsz)
      rw [upd_ne n3, upd_ne n1, upd_ne n4]
      exact I.hok.fresh hsz
end
section
variable {X : Cx} {pins : List (Addr × Obj)} {σ : L2.St} {H : Hp} {s : Shared}
/-- a(), in the def that got the lambda f: its body, as it stands where the lambda was written -/
theorem pe_actT {CXg : CXT} {Eg : XK} {Ng : List Str} {qg : Str} {sg : Scope} {g f c2 P2 : Addr} {cdg pm ctv : Value} {params : Arguments} {body : Expr} {scope : Scope} {lv i : Nat} {a : Str} {pn : List (Addr × Obj)} {xe : Value → Shared → Prop} {W : WX} {E : XK} {tb : TE} {p1 p2 : Pos}
    (I : Inv X pins σ H s) (L : LamX.LamS X.env.scope scope) (hf : s.heap.get? f = some (kla_obj "<lambda>" (X.env.qual ++ "<lambda>") params body scope (cloFrom X.env.cells scope.names []) pm c2 ctv)) (hfn : H f = none) (hfr : f ∉ frs X.stack)
    (hbind : bindArgs (kla_fn "<lambda>" (X.env.qual ++ "<lambda>") params body scope (cloFrom X.env.cells scope.names []) pm (.ref c2) ctv) ⟨[], []⟩ = pure [])
    (tk : Takes ((cxOf CXg X.prog X.w X.K X.mg X.base Ng qg sg g cdg X.A X.stack s H Eg).tr pn xe) W) (hW : ∀ cls d σ' H', E cls d H' → W cls d σ' H') (hr : Room (lv + 1) (X.A.deeper (envOfC qg sg s.heap.objs.size g cdg)))
    (hbody : ∀ (A : Around) (outer : List Env) (s : Shared) (H : Hp), Room lv (A.deeper (LamX.lamEnv X scope s.heap.objs.size f c2)) → PE (LamX.lamCx X A outer s H E scope f c2) body tb)
    (hN : Ng[i]? = some a) (hv : Vis sg a) (hd : (a == ("__debug__" : Str)) = false := by decide) (hcd : (a == ("__classdict__" : Str)) = false := by decide) :
    PE ((cxOf CXg X.prog X.w X.K X.mg X.base Ng qg sg g cdg X.A X.stack s H Eg).tr pn xe) (.Call (.Name a p1) [] [] p2)
      (fun σZ HZ Q => σZ[i]? = some (some (.ref f)) ∧ HZ c2 = some (CodeT c2 (X.env.qual ++ "<lambda>") P2) ∧ tb σ HZ Q) := by
  refine ⟨fun pz sz σz Hz Q Iz ⟨h1, h2, h3⟩ => ?_⟩
  have hvar := (pe_var (pos := p1) (i := i) hN hv hd hcd).run pz sz σz Hz (fun v H1 => v = .ref f ∧ H1 = Hz) Iz ⟨.ref f, h1, rfl, rfl⟩
  refine wpAny_Call_Name_kw (thn hvar fun u s1 ⟨v, H1, I1, r1, ev, eH⟩ => ?_)
  subst ev eH
  obtain rfl : u = Value.ref f := r1
  have of1 : s1.heap.get? f = some (kla_obj "<lambda>" (X.env.qual ++ "<lambda>") params body scope (cloFrom X.env.cells scope.names []) pm c2 ctv) := I1.base.keep f _ hf hfn hfr (fun z => nomatch (show f ∈ ([] : List Addr) from z))
  obtain ⟨⟨cr, _⟩, _, _⟩ := I1.hok c2 _ h2
  have un : Un (frs X.stack) [] H H1 s.heap s1.heap := I1.base
  refine callWith_F0 ⟨_, _, _, _, of1⟩ ?_
  have run : codeAny (model X.prog X.w) (X.A.deeper (envOfC qg sg s.heap.objs.size g cdg)) (.call (.ref f) ⟨[], []⟩) (CR (L2.CX X.prog X.w) (envOfC qg sg s.heap.objs.size g cdg :: X.stack) X.prog X.w H1 s1 Q E) s1 := by
    refine kla_callFunE hr.depth of1 rfl L.co L.gen rfl cr ?_
    rw [hbind]
    refine wpAny_pure (wpAny_newFunctionEnv (fun y hy => (L.own y hy).2) (fun y hy => absurd hy (by simp)) (fun h₁ hns hsb => ⟨I1.nolimit.fresh _ hsb, ?_⟩) L.kind)
    show codeAny _ _ (.expr body (LamX.lamEnv X scope s1.heap.objs.size f c2)) _ _
    have kp1 : ∀ b o, s1.heap.get? b = some o → h₁.get? b = some o := fun b o e => hsb.extBut b o (Nat.ne_of_lt (Heap.lt_size e)) (Heap.get?_push_of_some _ e)
    have J := LamX.lam_start2 (E := E) (f := f) (c' := c2) (tk := s1.toks + ([] : List (Str × Value)).length) I L I1.env0 hr.hd un hns kp1
    exact kla_codeExpr (wpAny_mono ((hbody _ _ s1 H1 (hr.deeper _)).run [] _ _ H1 Q J h3) (fun v s' ⟨w', H', J', rv, q⟩ => ⟨w', H', J'.os, J'.bare, J'.base, J'.hok, rv, q⟩) fun e s' hq => hq)
  have hx : Passes (L2.CX X.prog X.w) ((cxOf CXg X.prog X.w X.K X.mg X.base Ng qg sg g cdg X.A X.stack s H Eg).tr pn xe) E := passes_call tk hW
  refine wpAny_call (codeAny_mono run fun r s' hq => ?_)
  match r, hq with
  | .error e, hq => exact hx pz σz H1 s1 e s' I1 hq
  | .ok (.ret u), hq => exact I1.after hq
  | .ok .next, hq => exact False.elim hq
  | .ok .brk, hq => exact False.elim hq
  | .ok .cont, hq => exact False.elim hq
end
/-- the def that calls what it got by its name a; TT: what it makes of the lambda's reading -/
def GivesT (X : Cx) (Ng : List Str) (x : Str) (sg : Scope) (g : Addr) (cdg : Value) (bg : List Stmt) (a : Str) (q : Str) (TT : (XK → Hp → VK → Prop) → Hp → VK → Prop) : Prop :=
  ∀ (f c2 P2 : Addr) (s : Shared) (H : Hp) (Q : VK) (tl : XK → Hp → VK → Prop),
    (∀ (W : WX) (pn : List (Addr × Obj)) (xe : Value → Shared → Prop) (E : XK) (p1 p2 : Pos), Takes ((cxOf C8.CX0 X.prog X.w X.K X.mg X.base Ng x sg g cdg X.A X.stack s H C8.E0).tr pn xe) W → (∀ cls d σ' H', E cls d H' → W cls d σ' H') →
      PE ((cxOf C8.CX0 X.prog X.w X.K X.mg X.base Ng x sg g cdg X.A X.stack s H C8.E0).tr pn xe) (.Call (.Name a p1) [] [] p2) (fun σZ HZ Q => σZ[0]? = some (some (.ref f)) ∧ HZ c2 = some (CodeT c2 q P2) ∧ tl E HZ Q)) →
    H c2 = some (CodeT c2 q P2) → TT tl H Q →
    ∃ t, PSs (cxOf C8.CX0 X.prog X.w X.K X.mg X.base Ng x sg g cdg X.A X.stack s H C8.E0).nox bg t ∧ t { nx := fun _ H' => Q .non H', rt := Q } (L2.start Ng [.ref f]) H
/-- what the reading of x(lambda: ..) asks: where the maker's code object is known (Pre), the tables, before and behind -/
def tLamT (mg : Str → Option Value) (Pre : Hp → Prop) (P : Addr) (q : Str) (qs : List Str) (TT : (XK → Hp → VK → Prop) → Hp → VK → Prop) (t : XK → TE) : TE := fun σ H Q => Pre H ∧ TabD mg (q :: qs) H P ∧
  ∀ H1, Grow P H H1 → TabD mg (q :: qs) H1 P → TT (fun E H' Q' => t E σ H' Q') H1 Q
section
variable {X : Cx}
theorem pe_lamT {Pre : Hp → Prop} {qs : List Str} {TT : (XK → Hp → VK → Prop) → Hp → VK → Prop} {x a : Str} {g c P : Addr} {lv : Nat} {pg : Arguments} {bg : List Stmt} {sg : Scope} {dV kV doc pm cdv ct oc : Value} {an od : Option Addr} {osl : Array (Option Value)} {Ng : List Str}
    {params : Arguments} {body : Expr} {scope : Scope} {t : XK → TE} {p lpos pos : Pos} (hg : Gl X x) (hm : X.mg x = some (.ref g)) (hk : keepIn X.K (.ref g) = true)
    (lk : X.K.lookup g = some ⟨oc, od, .func (fnOf x x pg bg sg dV kV doc pm an cdv ct), osl⟩) (hcg : codeIn X.K cdv x = true) (hb : L2.Binds X.K (fnOf x x pg bg sg dV kV doc pm an cdv ct) [a] []) (Sg : FnScope Ng [a] sg) (hNg : Ng[0]? = some a) (hva : Vis sg a)
    (hG : GivesT X Ng x sg g cdv bg a (X.env.qual ++ "<lambda>") TT)
    (src : ∀ pins σ H s, Inv X pins σ H s → Pre H → CodeHd s.heap c P ∧ s.heap.BuiltinsAt X.mg P ∧ mainGlobals ≠ P) (hcode : X.env.code = .ref c) (stab : ∀ H H1 Y, (∃ ps, H P = some (.tbl ps)) → Grow P H H1 → Y ≠ P → TabD X.mg qs H Y → TabD X.mg qs H1 Y) (hr : Room (lv + 2) X.A) (L : LamX.LamS X.env.scope scope) (hdef : defaultsOf params X.env = ([], []))
    (hbind : ∀ (q : Str) (cl : List (Str × Addr)) (pm cv ctv : Value), bindArgs (kla_fn "<lambda>" q params body scope cl pm cv ctv) ⟨[], []⟩ = pure [])
    (hbody : ∀ (A : Around) (outer : List Env) (s : Shared) (H : Hp) (E : XK) (f c2 : Addr), Room lv (A.deeper (LamX.lamEnv X scope s.heap.objs.size f c2)) → PE (LamX.lamCx X A outer s H E scope f c2) body (t E))
    (hdb : (x == ("__debug__" : Str)) = false := by decide) (hd : (a == ("__debug__" : Str)) = false := by decide) (hcd : (a == ("__classdict__" : Str)) = false := by decide) :
    PE X (.Call (.Name x p) [.Lambda params body scope lpos] [] pos) (tLamT X.mg Pre P (X.env.qual ++ "<lambda>") qs TT t) := by
  refine ⟨fun pins s σ H Q I ⟨hpre, hT, h⟩ => ?_⟩
  obtain ⟨sC, sB, sP⟩ := src pins σ H s I hpre
  have htb : ∃ ps, H P = some (.tbl ps) := by
    obtain ⟨ps, h1, _⟩ := hT
    exact ⟨ps, h1⟩
  refine wpAny_Call_Name_kw (ld_glob I hg hm ?_ hdb)
  refine callWith_K (h₀ := X.base) I.ok.mod.kin hk ?_ (by rfl) (by rfl)
  show wpAny _ _ (spliced ((false, eval (.Lambda params body scope lpos) X.env) :: backTo pos (starEach [] X.env))) _ _ s
  refine Calls.spliced_cons (lam_makeT I sC sP sB hcode hT (fun H1 Y => stab H H1 Y htb) hdef (L.has I.ok) fun f c2 P2 pm2 ctv H1 s1 I1 gr T1 hf hfn hfr hco _ _ _ => ?_)
  refine Calls.spliced_nil ⟨I1.kIn, ?_⟩
  have run : codeAny (model X.prog X.w) X.A (.call (.ref g) ⟨[.ref f], []⟩) (CR C8.CX0 X.stack X.prog X.w H1 s1 Q C8.E0) s1 := by
    refine LamX.run_ofS (N := Ng) (ps := [a]) (us := [.ref f]) (vs := [.ref f]) lk hcg Sg hr I1.env0 (hb s1 [.ref f] I1.kIn rfl) (.cons rfl .nil) rfl fun hr2 => ?_
    obtain ⟨t2, ht2, hq2⟩ := hG f c2 P2 s1 H1 Q (fun E H' Q' => t E σ H' Q') (fun W pn xe E p1 p2 tk hW => pe_actT (i := 0) I1 L hf hfn hfr (hbind _ _ _ _ _) tk hW hr2 (fun A outer s H hr3 => hbody A outer s H E f c2 hr3) hNg hva hd hcd) hco (h H1 gr T1)
    exact ⟨t2, ht2.nox, hq2⟩
  refine wpAny_call (codeAny_mono run fun r s2 hq => ?_)
  match r, hq with
  | .error e, hq => exact (show False from hq).elim
  | .ok (.ret u), hq => exact I1.after hq
  | .ok .next, hq => exact False.elim hq
  | .ok .brk, hq => exact False.elim hq
  | .ok .cont, hq => exact False.elim hq
end
/-! ### a lambda with parameters, that captures nothing of the def around it -/
theorem run_lam {CX : CXT} {P : Program} {w : World} {K : Frag} {mg : Str → Option Value} {base : Heap} {lv : Nat} {f c2 : Addr} {qual : Str} {params : Arguments} {body : Expr} {scope : Scope} {pm ctv : Value} {N ps : List Str} {tb : TE} {A : Around} {outer : List Env} {s : Shared} {H : Hp} {us : List Value} {vs : List V} {Q : VK} {E : XK}
    (of1 : s.heap.get? f = some (kla_obj "<lambda>" qual params body scope [] pm c2 ctv)) (cr : s.heap.CodeRec (.ref c2) qual) (S : FnScope N ps scope) (hr : Room (lv + 1) A) (e0 : Env0 P w K mg base A outer s H)
    (hbind : bindArgs (kla_fn "<lambda>" qual params body scope [] pm (.ref c2) ctv) ⟨us, []⟩ = pure (ps.zip us)) (r : Vals vs us) (hl : vs.length = ps.length)
    (hbody : Room lv (A.deeper (envOfC qual scope s.heap.objs.size f (.ref c2))) → PE (cxOf CX P w K mg base N qual scope f (.ref c2) A outer s H E) body tb) (h : tb (L2.start N vs) H Q) :
    codeAny (model P w) A (.call (.ref f) ⟨us, []⟩) (CR CX outer P w H s Q E) s := by
  have lim : s.heap.NoLimit := e0.mod.nolimit.keeps fun b o e => (e0.bs b o e).1
  have hkind : ∀ y ∈ ps.zip us, scope.names.lookup y.1 = some .local ∨ (scope.names.lookup y.1 = some .cell ∧ ((cellsFrom (s.heap.objs.size + 1) scope.names []).lookup y.1).isSome = true) := fun y hy =>
    (S.par y.1 (List.of_mem_zip (a := y.1) (b := y.2) hy).1).elim .inl fun z => .inr ⟨z, cellsFrom_some _ _ _ (.inl z)⟩
  refine kla_callFunE hr.depth of1 rfl S.co S.gen rfl cr ?_
  rw [hbind]
  refine wpAny_pure (wpAny_newFunctionEnv_cells S.kind hkind fun env he s1 x => ?_)
  subst he
  have J : Inv (cxOf CX P w K mg base N qual scope f (.ref c2) A outer s H E) [] (L2.start N vs) H s1 := inv_start S hr.hd e0 hl r x
  refine ⟨lim.keeps x.toInCall.keep, kla_codeExpr (wpAny_mono ((hbody (hr.deeper _)).run [] s1 _ H Q J h) (fun v s' ⟨w', H', J', rv, q⟩ => ⟨w', H', J'.os, J'.bare, J'.base, J'.hok, rv, q⟩) fun e s' hq => hq)⟩
section
variable {X : Cx} {pins : List (Addr × Obj)} {σ : L2.St} {H : Hp} {s : Shared}
/-- a(e), in the def that got such a lambda -/
theorem pe_act1 {CXg : CXT} {Eg : XK} {Ng : List Str} {qg : Str} {sg : Scope} {g f c2 P2 : Addr} {cdg pm ctv : Value} {qual : Str} {params : Arguments} {body e : Expr} {scope : Scope} {lv i : Nat} {a b : Str} {N : List Str} {te tb : TE} {p1 p2 : Pos}
    (I : Inv X pins σ H s) (hf : s.heap.get? f = some (kla_obj "<lambda>" qual params body scope [] pm c2 ctv)) (hfn : H f = none) (hfr : f ∉ frs X.stack) (S : FnScope N [b] scope)
    (hbind : ∀ u : Value, bindArgs (kla_fn "<lambda>" qual params body scope [] pm (.ref c2) ctv) ⟨[u], []⟩ = pure [(b, u)]) (hr : Room (lv + 1) (X.A.deeper (envOfC qg sg s.heap.objs.size g cdg)))
    (he : PE (cxOf CXg X.prog X.w X.K X.mg X.base Ng qg sg g cdg X.A X.stack s H Eg) e te)
    (hbody : ∀ (A : Around) (outer : List Env) (s : Shared) (H : Hp), Room lv (A.deeper (envOfC qual scope s.heap.objs.size f (.ref c2))) → PE (cxOf C8.CX0 X.prog X.w X.K X.mg X.base N qual scope f (.ref c2) A outer s H C8.E0) body tb)
    (hN : Ng[i]? = some a) (hv : Vis sg a) (hd : (a == ("__debug__" : Str)) = false := by decide) (hcd : (a == ("__classdict__" : Str)) = false := by decide)
    (hs : starEach [e] (cxOf CXg X.prog X.w X.K X.mg X.base Ng qg sg g cdg X.A X.stack s H Eg).env = (false, eval e (cxOf CXg X.prog X.w X.K X.mg X.base Ng qg sg g cdg X.A X.stack s H Eg).env) :: starEach [] (cxOf CXg X.prog X.w X.K X.mg X.base Ng qg sg g cdg X.A X.stack s H Eg).env := by rfl) :
    PE (cxOf CXg X.prog X.w X.K X.mg X.base Ng qg sg g cdg X.A X.stack s H Eg) (.Call (.Name a p1) [e] [] p2)
      (fun σZ HZ Q => σZ[i]? = some (some (.ref f)) ∧ te σZ HZ fun v H1 => H1 c2 = some (CodeT c2 qual P2) ∧ tb (L2.start N [v]) H1 Q) := by
  refine ⟨fun pz sz σz Hz Q Iz ⟨h1, h2⟩ => ?_⟩
  have hvar := (pe_var (pos := p1) (i := i) hN hv hd hcd).run pz sz σz Hz (fun v H1 => v = .ref f ∧ H1 = Hz) Iz ⟨.ref f, h1, rfl, rfl⟩
  refine wpAny_Call_Name_kw (thn hvar fun u s1 ⟨v, H1, I1, r1, ev, eH⟩ => ?_)
  subst ev eH
  obtain rfl : u = Value.ref f := r1
  have at_ : ∀ {s2 : Shared} {H2 : Hp}, Inv (cxOf CXg X.prog X.w X.K X.mg X.base Ng qg sg g cdg X.A X.stack s H Eg) pz σz H2 s2 → s2.heap.get? f = some (kla_obj "<lambda>" qual params body scope [] pm c2 ctv) := fun {s2 H2} I2 =>
    I2.base.keep f _ hf hfn hfr (fun z => nomatch (show f ∈ ([] : List Addr) from z))
  have hpa := (pa_cons he pa_nil hs).run p2 pz s1 σz H1 (fun vs H2 => match vs with
    | [v] => H2 c2 = some (CodeT c2 qual P2) ∧ tb (L2.start N [v]) H2 Q
    | _ => False) I1
  refine callWith_F ⟨_, _, _, _, at_ I1⟩ (thn (hpa h2) fun us s2 ⟨vs, H2, I2, r, hm⟩ => ⟨⟨_, _, _, _, at_ I2⟩, ?_⟩) hs rfl
  match vs, r, hm with
  | [v], r, ⟨hc, hq⟩ =>
    obtain ⟨⟨cr, _⟩, _, _⟩ := I2.hok c2 _ hc
    have hus : ∃ u, us = [u] := by
      cases r with
      | cons r1 rr =>
        cases rr
        exact ⟨_, rfl⟩
    obtain ⟨u, rfl⟩ := hus
    have run := run_lam (CX := C8.CX0) (E := C8.E0) (Q := Q) (at_ I2) cr S hr I2.env0 (hbind u) r rfl (fun hr2 => hbody _ _ s2 H2 hr2) hq
    refine wpAny_call (codeAny_mono run fun r s' hq => ?_)
    match r, hq with
    | .error e, hq => exact (show False from hq).elim
    | .ok (.ret u), hq => exact I2.after hq
    | .ok .next, hq => exact False.elim hq
    | .ok .brk, hq => exact False.elim hq
    | .ok .cont, hq => exact False.elim hq
end
/-- the def that calls what it got with one thing; TT: what it makes of the reading -/
def GivesT1 (X : Cx) (Ng : List Str) (x : Str) (sg : Scope) (g : Addr) (cdg : Value) (bg : List Stmt) (a : Str) (q : Str) (TT : Addr → Addr → (V → Hp → VK → Prop) → Hp → VK → Prop) : Prop :=
  ∀ (f c2 P2 : Addr) (s : Shared) (H : Hp) (Q : VK) (tl : V → Hp → VK → Prop),
    (∀ (e : Expr) (te : TE) (p1 p2 : Pos), PE (cxOf C8.CX0 X.prog X.w X.K X.mg X.base Ng x sg g cdg X.A X.stack s H C8.E0) e te →
      (starEach [e] (cxOf C8.CX0 X.prog X.w X.K X.mg X.base Ng x sg g cdg X.A X.stack s H C8.E0).env = (false, eval e (cxOf C8.CX0 X.prog X.w X.K X.mg X.base Ng x sg g cdg X.A X.stack s H C8.E0).env) :: starEach [] (cxOf C8.CX0 X.prog X.w X.K X.mg X.base Ng x sg g cdg X.A X.stack s H C8.E0).env) →
      PE (cxOf C8.CX0 X.prog X.w X.K X.mg X.base Ng x sg g cdg X.A X.stack s H C8.E0) (.Call (.Name a p1) [e] [] p2) (fun σZ HZ Q => σZ[0]? = some (some (.ref f)) ∧ te σZ HZ fun v H1 => H1 c2 = some (CodeT c2 q P2) ∧ tl v H1 Q)) →
    H c2 = some (CodeT c2 q P2) → TT c2 P2 tl H Q →
    ∃ t, PSs (cxOf C8.CX0 X.prog X.w X.K X.mg X.base Ng x sg g cdg X.A X.stack s H C8.E0) bg t ∧ t { nx := fun _ H' => Q .non H', rt := Q } (L2.start Ng [.ref f]) H
def tLamT1 (mg : Str → Option Value) (Pre : Hp → Prop) (P : Addr) (q : Str) (qs : List Str) (N : List Str) (TT : Addr → Addr → (V → Hp → VK → Prop) → Hp → VK → Prop) (tb : Addr → Addr → TE) : TE := fun _ H Q => Pre H ∧ TabD mg (q :: qs) H P ∧
  ∀ H1 c2 P2, Grow P H H1 → TabD mg (q :: qs) H1 P → P2 ≠ P → TabD mg qs H1 P2 → Good mg P2 → H1 c2 = some (CodeT c2 q P2) → TT c2 P2 (fun v H' Q' => tb c2 P2 (L2.start N [v]) H' Q') H1 Q
section
variable {X : Cx}
theorem pe_lamT1 {Pre : Hp → Prop} {qs : List Str} {TT : Addr → Addr → (V → Hp → VK → Prop) → Hp → VK → Prop} {x a b : Str} {g c P : Addr} {lv : Nat} {pg : Arguments} {bg : List Stmt} {sg : Scope} {dV kV doc pm cdv ct oc : Value} {an od : Option Addr} {osl : Array (Option Value)} {Ng N : List Str}
    {params : Arguments} {body : Expr} {scope : Scope} {tb : Addr → Addr → TE} {p lpos pos : Pos} (hg : Gl X x) (hm : X.mg x = some (.ref g)) (hk : keepIn X.K (.ref g) = true)
    (lk : X.K.lookup g = some ⟨oc, od, .func (fnOf x x pg bg sg dV kV doc pm an cdv ct), osl⟩) (hcg : codeIn X.K cdv x = true) (hb : L2.Binds X.K (fnOf x x pg bg sg dV kV doc pm an cdv ct) [a] []) (Sg : FnScope Ng [a] sg) (hNg : Ng[0]? = some a) (hva : Vis sg a)
    (hG : GivesT1 X Ng x sg g cdv bg a (X.env.qual ++ "<lambda>") TT)
    (src : ∀ pins σ H s, Inv X pins σ H s → Pre H → CodeHd s.heap c P ∧ s.heap.BuiltinsAt X.mg P ∧ mainGlobals ≠ P) (hcode : X.env.code = .ref c) (stab : ∀ H H1 Y, (∃ ps, H P = some (.tbl ps)) → Grow P H H1 → Y ≠ P → TabD X.mg qs H Y → TabD X.mg qs H1 Y) (hr : Room (lv + 2) X.A) (S : FnScope N [b] scope) (hcl : cloFrom X.env.cells scope.names [] = []) (hfree : ∀ y ∈ scope.names, y.2 ≠ .free) (hdef : defaultsOf params X.env = ([], []))
    (hbind : ∀ (q : Str) (pm cv ctv u : Value), bindArgs (kla_fn "<lambda>" q params body scope [] pm cv ctv) ⟨[u], []⟩ = pure [(b, u)])
    (hbody : ∀ (A : Around) (outer : List Env) (s : Shared) (H : Hp) (f c2 P2 : Addr), Room lv (A.deeper (envOfC (X.env.qual ++ "<lambda>") scope s.heap.objs.size f (.ref c2))) → PE (cxOf C8.CX0 X.prog X.w X.K X.mg X.base N (X.env.qual ++ "<lambda>") scope f (.ref c2) A outer s H C8.E0) body (tb c2 P2))
    (hdb : (x == ("__debug__" : Str)) = false := by decide) (hd : (a == ("__debug__" : Str)) = false := by decide) (hcd : (a == ("__classdict__" : Str)) = false := by decide) :
    PE X (.Call (.Name x p) [.Lambda params body scope lpos] [] pos) (tLamT1 X.mg Pre P (X.env.qual ++ "<lambda>") qs N TT tb) := by
  refine ⟨fun pins s σ H Q I ⟨hpre, hT, h⟩ => ?_⟩
  obtain ⟨sC, sB, sP⟩ := src pins σ H s I hpre
  have htb : ∃ ps, H P = some (.tbl ps) := by
    obtain ⟨ps, h1, _⟩ := hT
    exact ⟨ps, h1⟩
  refine wpAny_Call_Name_kw (ld_glob I hg hm ?_ hdb)
  refine callWith_K (h₀ := X.base) I.ok.mod.kin hk ?_ (by rfl) (by rfl)
  show wpAny _ _ (spliced ((false, eval (.Lambda params body scope lpos) X.env) :: backTo pos (starEach [] X.env))) _ _ s
  refine Calls.spliced_cons (lam_makeT I sC sP sB hcode hT (fun H1 Y => stab H H1 Y htb) hdef (fun y hy z => absurd z (hfree y hy)) fun f c2 P2 pm2 ctv H1 s1 I1 gr T1 hf hfn hfr hco n2 t2 gd => ?_)
  rw [hcl] at hf
  refine Calls.spliced_nil ⟨I1.kIn, ?_⟩
  have run : codeAny (model X.prog X.w) X.A (.call (.ref g) ⟨[.ref f], []⟩) (CR C8.CX0 X.stack X.prog X.w H1 s1 Q C8.E0) s1 := by
    refine LamX.run_ofS (N := Ng) (ps := [a]) (us := [.ref f]) (vs := [.ref f]) lk hcg Sg hr I1.env0 (hb s1 [.ref f] I1.kIn rfl) (.cons rfl .nil) rfl fun hr2 => ?_
    exact hG f c2 P2 s1 H1 Q (fun v H' Q' => tb c2 P2 (L2.start N [v]) H' Q') (fun e te p1 p2 he hs => pe_act1 (i := 0) (P2 := P2) I1 hf hfn hfr S (fun u => hbind _ _ _ _ u) hr2 he (fun A outer s H hr3 => hbody A outer s H f c2 P2 hr3) hNg hva hd hcd hs) hco (h H1 c2 P2 gr T1 n2 t2 gd hco)
  refine wpAny_call (codeAny_mono run fun r s2 hq => ?_)
  match r, hq with
  | .error e, hq => exact (show False from hq).elim
  | .ok (.ret u), hq => exact I1.after hq
  | .ok .next, hq => exact False.elim hq
  | .ok .brk, hq => exact False.elim hq
  | .ok .cont, hq => exact False.elim hq
end
end Lm

namespace K02
open PySem PySem.Spec PyProof.Rows L2 Exs
/-! ### _law_met: what a call told, or how it was refused: three clauses, the middle one of two fields -/
abbrev sMet : Stmt := top 52
def Told1 (C : Addr) (w f : Str) (Q : VK) (cls : Value) (d : Option Addr) (H : Hp) : Prop := cls = .ref C ∧ ∃ (dd : Addr) (fs : List (Str × V)) (v : V), d = some dd ∧ H dd = some (.xd fs) ∧ fs.lookup f = some v ∧ ∀ p, H p = none → Q (.ref p) (upd H p (.tup [.str w, v]))
def Told2 (C : Addr) (w f g : Str) (Q : VK) (cls : Value) (d : Option Addr) (H : Hp) : Prop := cls = .ref C ∧ ∃ (dd : Addr) (fs : List (Str × V)) (v u : V), d = some dd ∧ H dd = some (.xd fs) ∧ fs.lookup f = some v ∧ fs.lookup g = some u ∧
  ∀ q, H q = none → ∀ p, upd H q (.tup [v, u]) p = none → Q (.ref p) (upd (upd H q (.tup [v, u])) p (.tup [.str w, .ref q]))
/-- the ways of an error into the three clauses -/
def MetE (K : PySem.W.Frag) (Q : VK) (CN CP CL : Addr) : XK := fun cls d H => ∃ b, PySem.W.exmOne K cls (.ref CN) = some b ∧ (b = true → Told1 CN "house" "thing" Q cls d H) ∧ (b = false →
  ∃ b, PySem.W.exmOne K cls (.ref CP) = some b ∧ (b = true → Told2 CP "path" "one" "other" Q cls d H) ∧ (b = false →
  ∃ b, PySem.W.exmOne K cls (.ref CL) = some b ∧ (b = true → Told1 CL "letters" "thing" Q cls d H) ∧ (b = false → False)))
def TMet (K : PySem.W.Frag) (CN CP CL : Addr) : (XK → Hp → VK → Prop) → Hp → VK → Prop := fun tl H Q =>
  tl (MetE K Q CN CP CL) H fun v H1 => 2 ≤ sizeLine ∧ ∀ p, H1 p = none → Q (.ref p) (upd H1 p (.tup [.str "told", v]))
theorem scMet : FnScope ["ask", "e"] ["ask"] (defScope sMet) := ⟨rfl, rfl, rfl, by decide +kernel, rfl, by decide +kernel, by decide +kernel⟩
theorem met_gives {X : Cx} {g CN f1 CP f2 CL f3 : Addr} {cdg : Value} {q : Str} (T1 : Err X.prog X.w X.K X.mg X.base "NoHouse" "thing" CN f1) (T2 : Err2 X.prog X.w X.K X.mg X.base "NoPath" "one" "other" CP f2) (T3 : Err X.prog X.w X.K X.mg X.base "BadLetters" "thing" CL f3) :
    Lm.GivesT X ["ask", "e"] "_law_met" (defScope sMet) g cdg (defBody sMet) "ask" q (TMet X.K CN CP CL) := by
  intro f c2 P2 s H Q tl act hc h
  refine ⟨_, pss_one (ps_try_clauses (l := [(.ref CN, 1, fun a cls d => tRet (tTup (tCons (tC (.str "house")) (tCons (tXf a cls d CN "thing" (tVar 1)) tNil)))), (.ref CP, 1, fun a cls d => tRet (tTup (tCons (tC (.str "path")) (tCons (tTup (tCons (tXf a cls d CP "one" (tVar 1)) (tCons (tXf a cls d CP "other" (tVar 1)) tNil))) tNil)))), (.ref CL, 1, fun a cls d => tRet (tTup (tCons (tC (.str "letters")) (tCons (tXf a cls d CL "thing" (tVar 1)) tNil))))])
    (Wout := fun _ _ _ _ => False)
    (tb := fun W D σ H => ∃ Ech : XK, (∀ cls d σ' H', Ech cls d H' → W cls d σ' H') ∧ σ[0]? = some (some (.ref f)) ∧ H c2 = some (Lm.CodeT c2 q P2) ∧ tl Ech H fun v H1 => 2 ≤ sizeLine ∧ ∀ p, H1 p = none → D.rt (.ref p) (upd H1 p (.tup [.str "told", v])))
    rfl rfl scMet.nd takes_none5 ?_ ?_), ?_⟩
  · intro W pn xe tk _
    refine ⟨fun pins s' σ H' D I h' => ?_⟩
    obtain ⟨Ech, hW, h1, h2, h3⟩ := h'
    exact PSs.run (t := tRet (tTup (tCons (tC (.str "told")) (tCons (fun σZ HZ Q => σZ[0]? = some (some (.ref f)) ∧ HZ c2 = some (Lm.CodeT c2 q P2) ∧ tl Ech HZ Q) tNil)))) (pss_one (ps_ret (pe_tup (pa_cons pe_str (pa_cons (act W pn xe Ech _ _ tk hW) pa_nil))))) pins s' σ H' D I ⟨h1, h2, h3⟩
  · refine .cons ⟨rfl, rfl, .inl T1.g⟩ rfl rfl (fun a oe cls d pn hz hf => ?_) (.cons ⟨rfl, rfl, .inl T2.gl⟩ rfl rfl (fun a oe cls d pn hz hf => ?_) (.cons ⟨rfl, rfl, .inl T3.g⟩ rfl rfl (fun a oe cls d pn hz hf => ?_) .nil))
    · exact pss_one (ps_ret (pe_tup (pa_cons pe_str (pa_cons (pe_xf T1.c.xf T1.c.no hz hf (pv 1)) pa_nil))))
    · exact pss_one (ps_ret (pe_tup (pa_cons pe_str (pa_cons (pe_tup (pa_cons (pe_xf T2.c.xf T2.c.no hz hf (pv 1)) (pa_cons (pe_xf T2.c.xf T2.no2 hz hf (pv 1)) pa_nil))) pa_nil))))
    · exact pss_one (ps_ret (pe_tup (pa_cons pe_str (pa_cons (pe_xf T3.c.xf T3.c.no hz hf (pv 1)) pa_nil))))
  · refine ⟨MetE X.K Q CN CP CL, fun cls d σ' H' hE => ?_, rfl, hc, ?_⟩
    · obtain ⟨b1, e1, h1, h2⟩ := hE
      have slot : ∀ {v : Option V}, σ'.length = 2 → (σ'.set 1 v)[1]? = some v := fun {v} hl => by
        rw [List.getElem?_set_self (by omega)]
      refine ⟨b1, e1, fun z a ha hl => ?_, fun z => ?_⟩
      · obtain ⟨rfl, dd, fs, v, rfl, k1, k2, k3⟩ := h1 z
        refine ⟨_, slot hl, rfl, rfl, dd, fs, v, rfl, k1, k2, by show 2 ≤ sizeLine; decide, fun p hp => k3 p hp⟩
      · obtain ⟨b2, e2, h3, h4⟩ := h2 z
        refine ⟨b2, e2, fun z a ha hl => ?_, fun z => ?_⟩
        · obtain ⟨rfl, dd, fs, v, u, rfl, k1, k2, k3, k4⟩ := h3 z
          refine ⟨_, slot hl, rfl, rfl, dd, fs, v, rfl, k1, k2, _, slot hl, rfl, rfl, dd, fs, u, rfl, k1, k3, by show 2 ≤ sizeLine; decide, fun q hq => ⟨by show 2 ≤ sizeLine; decide, fun p hp => k4 q hq p hp⟩⟩
        · obtain ⟨b3, e3, h5, h6⟩ := h4 z
          refine ⟨b3, e3, fun z a ha hl => ?_, fun z => ?_⟩
          · obtain ⟨rfl, dd, fs, v, rfl, k1, k2, k3⟩ := h5 z
            refine ⟨_, slot hl, rfl, rfl, dd, fs, v, rfl, k1, k2, by show 2 ≤ sizeLine; decide, fun p hp => k3 p hp⟩
          · exact (h6 z).elim
    · exact h
end K02

namespace K02
open PySem PySem.Spec PyProof.Rows L2 Sq Exs
/-! ### _law_same: of equal things -/
abbrev sSame : Stmt := top 45
def flatS : V → Bool
  | .non => true
  | .bl _ => true
  | .int _ => true
  | .str _ => true
  | _ => false
/-- a thing at the foot: flat, a list of such, an empty dict -/
def Shv (H : Hp) (v : V) : Prop := flatS v = true ∨ (∃ c zs, v = .ref c ∧ H c = some (.lst zs) ∧ (∀ z ∈ zs, flatS z = true) ∧ zs.length ≤ 1000) ∨ ∃ c, v = .ref c ∧ H c = some (.dK [])
theorem Shv.ex {H H' : Hp} {v : V} (h : Shv H v) (e : Evl.Ex H H') : Shv H' v := by
  rcases h with h | ⟨c, zs, h1, h2, h3, h4⟩ | ⟨c, h1, h2⟩
  · exact .inl h
  · exact .inr (.inl ⟨c, zs, h1, e _ _ h2, h3, h4⟩)
  · exact .inr (.inr ⟨c, h1, e _ _ h2⟩)
/-- equal and of the same kinds, to the depth n -/
def Sm (H : Hp) : Nat → V → V → Prop
  | 0, _, _ => False
  | n + 1, x, y => (flatS x = true ∧ x = y) ∨ (∃ a b xs ys, x = .ref a ∧ y = .ref b ∧ H a = some (.lst xs) ∧ H b = some (.lst ys) ∧ xs.length ≤ 1000 ∧ Paired (Sm H n) xs ys) ∨
    (∃ a b xs ys, x = .ref a ∧ y = .ref b ∧ Rd H a (.tup xs) ∧ H b = some (.tup ys) ∧ xs.length ≤ 1000 ∧ Paired (Sm H n) xs ys) ∨
    (∃ (a b : Addr) (ks : List (Key × V)), x = .ref a ∧ y = .ref b ∧ H a = some (.dK ks) ∧ H b = some (.dK ks) ∧ (∀ p ∈ ks, flatS p.2 = true ∨ (6 ≤ n ∧ Shv H p.2)) ∧ ks.length ≤ 1000 ∧ 3 ≤ n) ∨
    (∃ (a b : Addr) (ks : List (List Key × V)), x = .ref a ∧ y = .ref b ∧ H a = some (.dT ks) ∧ H b = some (.dT ks) ∧ (∀ p ∈ ks, flatS p.2 = true) ∧ (∀ p ∈ ks, p.1.length ≤ 1000) ∧ ks.length ≤ 1000 ∧ 4 ≤ n)
theorem flat_sm {H : Hp} {n : Nat} {x : V} (h : flatS x = true) : Sm H (n + 1) x x := .inl ⟨h, rfl⟩
theorem flat_kV (k : Key) : flatS (kV k) = true := by cases k <;> rfl
theorem Sm.ex {H H' : Hp} (e : Evl.Ex H H') : ∀ n x y, Sm H n x y → Sm H' n x y
  | 0, _, _, h => h
  | n + 1, x, y, h => by
    rcases h with h | ⟨a, b, xs, ys, h1, h2, h3, h4, h5, h6⟩ | ⟨a, b, xs, ys, h1, h2, h3, h4, h5, h6⟩ | ⟨a, b, ks, h1, h2, h3, h4, h5, h6, h7⟩ | ⟨a, b, ks, h1, h2, h3, h4, h5, h6, h7⟩
    · exact .inl h
    · exact .inr (.inl ⟨a, b, xs, ys, h1, h2, e _ _ h3, e _ _ h4, h5, Paired.mapP h6 fun _ _ z => Sm.ex e n _ _ z⟩)
    · exact .inr (.inr (.inl ⟨a, b, xs, ys, h1, h2, rdEx e h3, e _ _ h4, h5, Paired.mapP h6 fun _ _ z => Sm.ex e n _ _ z⟩))
    · exact .inr (.inr (.inr (.inl ⟨a, b, ks, h1, h2, e _ _ h3, e _ _ h4, (fun p hp => (h5 p hp).imp id fun z => ⟨z.1, z.2.ex e⟩), h6, h7⟩)))
    · exact .inr (.inr (.inr (.inr ⟨a, b, ks, h1, h2, e _ _ h3, e _ _ h4, h5, h6, h7⟩)))
theorem flats_sm {H : Hp} {n : Nat} : ∀ {zs : List V}, (∀ z ∈ zs, flatS z = true) → Paired (Sm H (n + 1)) zs zs
  | [], _ => .nil
  | z :: r, h => .cons (flat_sm (h z List.mem_cons_self)) (flats_sm fun y hy => h y (List.mem_cons_of_mem _ hy))
theorem shv_sm {H : Hp} {m : Nat} {v : V} (h : flatS v = true ∨ (3 ≤ m ∧ Shv H v)) : Sm H (m + 1) v v := by
  rcases h with h | ⟨hm, h | ⟨c, zs, rfl, h2, h3, h4⟩ | ⟨c, rfl, h2⟩⟩
  · exact flat_sm h
  · exact flat_sm h
  · obtain ⟨k, rfl⟩ : ∃ k, m = k + 1 := ⟨m - 1, by omega⟩
    exact .inr (.inl ⟨c, c, zs, zs, rfl, rfl, h2, h2, h4, flats_sm h3⟩)
  · exact .inr (.inr (.inr (.inl ⟨c, c, [], rfl, rfl, h2, h2, (fun p hp => by cases hp), by show 0 ≤ 1000; decide, hm⟩)))
theorem items_sm {H2 H3 : Hp} {m : Nat} (e : Evl.Ex H2 H3) : ∀ {ks : List (Key × V)} {ts us : List Addr}, (∀ p ∈ ks, flatS p.2 = true ∨ (3 ≤ m ∧ Shv H3 p.2)) → Paired (fun t (q : Key × V) => H2 t = some (HO.tup [kV q.1, q.2])) ts ks → Paired (fun t (q : Key × V) => H3 t = some (HO.tup [kV q.1, q.2])) us ks → Paired (Sm H3 (m + 2)) (ts.map V.ref) (us.map V.ref)
  | [], _, _, _, .nil, .nil => .nil
  | k :: ks, _, _, hf, .cons a b, .cons c d => .cons (.inr (.inr (.inl ⟨_, _, _, _, rfl, rfl, .inl (e _ _ a), c, by show 2 ≤ 1000; decide, .cons (flat_sm (flat_kV _)) (.cons (shv_sm (hf k List.mem_cons_self)) .nil)⟩))) (items_sm e (fun p hp => hf p (List.mem_cons_of_mem _ hp)) b d)
theorem keys_sm {H : Hp} {n : Nat} : ∀ k : List Key, Paired (Sm H (n + 1)) (k.map kV) (k.map kV)
  | [] => .nil
  | x :: r => .cons (flat_sm (flat_kV x)) (keys_sm r)
theorem itemsT_sm {H2 H3 : Hp} {m : Nat} (e : Evl.Ex H2 H3) : ∀ {ks : List (List Key × V)} {ts us : List Addr}, (∀ p ∈ ks, flatS p.2 = true) → (∀ p ∈ ks, p.1.length ≤ 1000) → Paired (Dt.EntT H2) ts ks → Paired (Dt.EntT H3) us ks → Paired (Sm H3 (m + 3)) (ts.map V.ref) (us.map V.ref)
  | [], _, _, _, _, .nil, .nil => .nil
  | k :: ks, _, _, hf, hl, .cons a b, .cons c d => by
    obtain ⟨x, a1, a2⟩ := a
    obtain ⟨y, c1, c2⟩ := c
    refine .cons (.inr (.inr (.inl ⟨_, _, _, _, rfl, rfl, .inl (e _ _ a1), c1, by show 2 ≤ 1000; decide, .cons ?_ (.cons (flat_sm (hf k List.mem_cons_self)) .nil)⟩))) (itemsT_sm e (fun p hp => hf p (List.mem_cons_of_mem _ hp)) (fun p hp => hl p (List.mem_cons_of_mem _ hp)) b d)
    exact .inr (.inr (.inl ⟨x, y, _, _, rfl, rfl, .inl (e _ _ a2), c2, by rw [List.length_map]; exact hl k List.mem_cons_self, keys_sm k.1⟩))
def spSame (n : Nat) : Sp := fun vs H Q _ => ∃ x y : V, vs = [x, y] ∧ Sm H n x y ∧ ∀ H', Evl.Ex H H' → Q (.bl true) H'
section
variable {P : Program} {w : World} {K : PySem.W.Frag} {mg : Str → Option Value} {base : Heap}
theorem scSame : FnScope ["found", "due", "x", "y"] ["found", "due"] (defScope sSame) := ⟨rfl, rfl, rfl, by decide +kernel, rfl, by decide +kernel, by decide +kernel⟩
theorem ok_same {f : Addr} {fd : FuncData} (F : FnP K "_law_same" sSame f fd) (g : mg "_law_same" = some (.ref f)) (gI : mg "int" = none) (gB : mg "bool" = none) (gL : mg "list" = none) (gT : mg "tuple" = none) (gD : mg "dict" = none) (gS : mg "isinstance" = none) (gLen : mg "len" = none) (gA : mg "all" = none) (gZ : mg "zip" = none) :
    ∀ n, FnOk P w K mg base CX0 n f fd ["found", "due"] (spSame n)
  | 0 => ⟨fun vs H Q E h => by obtain ⟨x, y, _, h, _⟩ := h; exact h.elim, fun A outer s H args us vs Q E _ _ _ _ h => by obtain ⟨x, y, _, h, _⟩ := h; exact h.elim⟩
  | n + 1 => by
    have ih : FnOk P w K mg base CX0 n f fd ["found", "due"] (spSame n) := ok_same F g gI gB gL gT gD gS gLen gA gZ n
    have bS : L2.Binds K fd ["found", "due"] [] := F.bindsN fun _ _ _ _ _ _ us hl => match us, hl with | [_, _], _ => rfl
    refine F.ok scSame (fun vs H Q E h => ?_) (fun cdv A outer s H vs Q E hr h => ?_)
    · obtain ⟨x, y, rfl, _⟩ := h
      rfl
    · obtain ⟨x, y, rfl, hs, k⟩ := h
      refine' ⟨_, PSs.nox (pss_cons (ps_if (pt_val (pe_callB call_isiT (by rfl) gS (by decide +kernel) (pa_cons (pv 1) (pa_cons (pe_tup (pa_cons (pe_bltn (v := .ty "list") rfl gL (by decide +kernel) rfl) (pa_cons (pe_bltn (v := .ty "tuple") rfl gT (by decide +kernel) rfl) pa_nil))) pa_nil))))
          (pss_cons (ps_if (PW.pt (pw_or (pt_cmpR op_ne (pe_callB call_isi (by rfl) gS (by decide +kernel) (pa_cons (pv 0) (pa_cons (pe_bltn (v := .ty "list") rfl gL (by decide +kernel) rfl) pa_nil))) (pe_callB call_isi (by rfl) gS (by decide +kernel) (pa_cons (pv 1) (pa_cons (pe_bltn (v := .ty "list") rfl gL (by decide +kernel) rfl) pa_nil))) (nomark _))
              (pw_or1 (pt_cmpR op_ne (pe_callB call_isi (by rfl) gS (by decide +kernel) (pa_cons (pv 0) (pa_cons (pe_bltn (v := .ty "tuple") rfl gT (by decide +kernel) rfl) pa_nil))) (pe_callB call_isi (by rfl) gS (by decide +kernel) (pa_cons (pv 1) (pa_cons (pe_bltn (v := .ty "tuple") rfl gT (by decide +kernel) rfl) pa_nil))) (nomark _))))) (pss_one (ps_ret pe_bl)) pss_nil)
          (pss_one (ps_ret (pe_and (pe_cmpR op_eq (pe_callB call_len_seq (by rfl) gLen PySem.boot_len (pa_cons (pv 0) pa_nil)) (pe_callB call_len_seq (by rfl) gLen PySem.boot_len (pa_cons (pv 1) pa_nil)) (nomark _)) (pe_one (pe_callB (cr_all rfl) (by rfl) gA (by decide +kernel) (pa_cons ?lc pa_nil))))))) pss_nil)
        (pss_cons (ps_if (pt_val (pe_callB call_isi (by rfl) gS (by decide +kernel) (pa_cons (pv 1) (pa_cons (pe_bltn (v := .ty "dict") rfl gD (by decide +kernel) rfl) pa_nil))))
          (pss_one (ps_ret (pe_and (pe_callB call_isi (by rfl) gS (by decide +kernel) (pa_cons (pv 0) (pa_cons (pe_bltn (v := .ty "dict") rfl gD (by decide +kernel) rfl) pa_nil))) (pe_one (pe_call ih hr rfl g F.kp bS .nil pass0 (pa_cons (Dt.pe_or (LiI.pe_listItems rfl (pv 0) (by rfl) gL (by decide +kernel)) (Dt.pe_listItemsT rfl (pv 0) (by rfl) gL (by decide +kernel))) (pa_cons (Dt.pe_or (LiI.pe_listItems rfl (pv 1) (by rfl) gL (by decide +kernel)) (Dt.pe_listItemsT rfl (pv 1) (by rfl) gL (by decide +kernel))) pa_nil))))))) pss_nil)
        (pss_cons (ps_if (pt_val (pe_callB call_isi (by rfl) gS (by decide +kernel) (pa_cons (pv 1) (pa_cons (pe_bltn (v := .ty "int") rfl gI (by decide +kernel) rfl) pa_nil))))
          (pss_one (ps_ret (pe_and (pe_callB call_isi (by rfl) gS (by decide +kernel) (pa_cons (pv 0) (pa_cons (pe_bltn (v := .ty "int") rfl gI (by decide +kernel) rfl) pa_nil)))
            (pe_and (pe_cmpR op_eq (pe_callB call_isi (by rfl) gS (by decide +kernel) (pa_cons (pv 0) (pa_cons (pe_bltn (v := .ty "bool") rfl gB (by decide +kernel) rfl) pa_nil))) (pe_callB call_isi (by rfl) gS (by decide +kernel) (pa_cons (pv 1) (pa_cons (pe_bltn (v := .ty "bool") rfl gB (by decide +kernel) rfl) pa_nil))) (nomark _))
            (pe_one (pe_cmpR op_eq (pv 0) (pv 1) (nomark _))))))) pss_nil)
        (pss_one (ps_ret (pe_and (pe_not (pe_callB call_isiT (by rfl) gS (by decide +kernel) (pa_cons (pv 0) (pa_cons (pe_tup (pa_cons (pe_bltn (v := .ty "int") rfl gI (by decide +kernel) rfl) (pa_cons (pe_bltn (v := .ty "list") rfl gL (by decide +kernel) rfl) (pa_cons (pe_bltn (v := .ty "tuple") rfl gT (by decide +kernel) rfl) (pa_cons (pe_bltn (v := .ty "dict") rfl gD (by decide +kernel) rfl) pa_nil))))) pa_nil))))
          (pe_one (pe_cmpR op_eq (pv 0) (pv 1) (nomark _))))))))), ?rd⟩
      case lc =>
        refine pe_lc (own := [("x", 2), ("y", 3)]) (g := gTup K 2 (gCons (gName 2) (gCons (gName 3) gNil))) (tt := tYes) (te := tCall (spSame n) [] E0 (tCons (tVar 2) (tCons (tVar 3) tNil))) rfl scSame.nd (pi_zip2 (by rfl) gZ (pa_cons (pv 0) (pa_cons (pv 1) pa_nil)))
          (blkOk_by (own := [("x", 2), ("y", 3)]) (N := ["found", "due", "x", "y"]) (sc := defScope sSame) (by decide +kernel)) (fun _ _ _ _ _ => pg_tup rfl (pgs_cons (pg_name (i := 2) scSame.nd rfl (.inl rfl)) (pgs_cons (pg_name (i := 3) scSame.nd rfl (.inl rfl)) pgs_nil))) (fun _ _ _ _ _ => pts_nil) ?_
        intro _ _ _ _ _
        exact pe_call ih hr rfl g F.kp bS .nil pass0 (pa_cons (pv 2) (pa_cons (pv 3) pa_nil))
      rcases hs with ⟨hf, rfl⟩ | ⟨a, b, xs, ys, rfl, rfl, ha, hb, hl, hp⟩ | ⟨a, b, xs, ys, rfl, rfl, ha, hb, hl, hp⟩ | ⟨a, b, ks, rfl, rfl, ha, hb, hfl, hkl, hn⟩ | ⟨a, b, ks, rfl, rfl, ha, hb, hfl, hk1, hkl, hn⟩
      · cases x with
        | non =>
          refine ⟨_, rfl, by show 2 ≤ sizeLine; decide, fun t ht => ?_⟩
          have e1 := Evl.Ex.new (o := .tup [V.ty "list", V.ty "tuple"]) ht
          have px : Pl (upd H t (.tup [V.ty "list", V.ty "tuple"])) .non "NoneType" := .non
          refine ⟨_, _, _, _, _, _, rfl, upd_same, cls_tys ["list", "tuple"], px.ty, px.any ["list", "tuple"] (by decide), _, rfl, iteF ?_⟩
          refine ⟨_, rfl, _, _, _, _, _, rfl, .ty _, px.ty, px.one "dict", _, rfl, iteF ?_⟩
          refine ⟨_, rfl, _, _, _, _, _, rfl, .ty _, px.ty, px.one "int", _, rfl, iteF ?_⟩
          refine ⟨_, rfl, by show 4 ≤ sizeLine; decide, fun t2 ht2 => ?_⟩
          have e2 := Evl.Ex.new (o := .tup [V.ty "int", V.ty "list", V.ty "tuple", V.ty "dict"]) ht2
          refine ⟨_, _, _, _, _, _, rfl, upd_same, cls_tys ["int", "list", "tuple", "dict"], (px.ext e2).ty, (px.ext e2).any ["int", "list", "tuple", "dict"] (by decide), _, rfl, _, rfl, iteT ?_⟩
          refine ⟨_, rfl, _, rfl, rfl, ?_⟩
          rw [decide_eq_true (rfl : (.non : V) = .non)]
          exact k _ (e1.trans e2)
        | bl z =>
          refine ⟨_, rfl, by show 2 ≤ sizeLine; decide, fun t ht => ?_⟩
          have e1 := Evl.Ex.new (o := .tup [V.ty "list", V.ty "tuple"]) ht
          have px : Pl (upd H t (.tup [V.ty "list", V.ty "tuple"])) (.bl z) "bool" := .bl z
          refine ⟨_, _, _, _, _, _, rfl, upd_same, cls_tys ["list", "tuple"], px.ty, px.any ["list", "tuple"] (by decide), _, rfl, iteF ?_⟩
          refine ⟨_, rfl, _, _, _, _, _, rfl, .ty _, px.ty, px.one "dict", _, rfl, iteF ?_⟩
          refine ⟨_, rfl, _, _, _, _, _, rfl, .ty _, px.ty, px.one "int", _, rfl, iteT ?_⟩
          refine ⟨_, rfl, _, _, _, _, _, rfl, .ty _, px.ty, px.one "int", _, rfl, iteT ?_⟩
          refine ⟨_, rfl, _, _, _, _, _, rfl, .ty _, px.ty, px.one "bool", _, rfl, _, _, _, _, _, rfl, .ty _, px.ty, px.one "bool", rfl, _, rfl, iteT ?_⟩
          refine ⟨_, rfl, _, rfl, rfl, ?_⟩
          rw [decide_eq_true (rfl : ((.bl z) : V) = (.bl z))]
          exact k _ e1
        | int z =>
          refine ⟨_, rfl, by show 2 ≤ sizeLine; decide, fun t ht => ?_⟩
          have e1 := Evl.Ex.new (o := .tup [V.ty "list", V.ty "tuple"]) ht
          have px : Pl (upd H t (.tup [V.ty "list", V.ty "tuple"])) (.int z) "int" := .int z
          refine ⟨_, _, _, _, _, _, rfl, upd_same, cls_tys ["list", "tuple"], px.ty, px.any ["list", "tuple"] (by decide), _, rfl, iteF ?_⟩
          refine ⟨_, rfl, _, _, _, _, _, rfl, .ty _, px.ty, px.one "dict", _, rfl, iteF ?_⟩
          refine ⟨_, rfl, _, _, _, _, _, rfl, .ty _, px.ty, px.one "int", _, rfl, iteT ?_⟩
          refine ⟨_, rfl, _, _, _, _, _, rfl, .ty _, px.ty, px.one "int", _, rfl, iteT ?_⟩
          refine ⟨_, rfl, _, _, _, _, _, rfl, .ty _, px.ty, px.one "bool", _, rfl, _, _, _, _, _, rfl, .ty _, px.ty, px.one "bool", rfl, _, rfl, iteT ?_⟩
          refine ⟨_, rfl, _, rfl, rfl, ?_⟩
          rw [decide_eq_true (rfl : ((.int z) : V) = (.int z))]
          exact k _ e1
        | str z =>
          refine ⟨_, rfl, by show 2 ≤ sizeLine; decide, fun t ht => ?_⟩
          have e1 := Evl.Ex.new (o := .tup [V.ty "list", V.ty "tuple"]) ht
          have px : Pl (upd H t (.tup [V.ty "list", V.ty "tuple"])) (.str z) "str" := .str z
          refine ⟨_, _, _, _, _, _, rfl, upd_same, cls_tys ["list", "tuple"], px.ty, px.any ["list", "tuple"] (by decide), _, rfl, iteF ?_⟩
          refine ⟨_, rfl, _, _, _, _, _, rfl, .ty _, px.ty, px.one "dict", _, rfl, iteF ?_⟩
          refine ⟨_, rfl, _, _, _, _, _, rfl, .ty _, px.ty, px.one "int", _, rfl, iteF ?_⟩
          refine ⟨_, rfl, by show 4 ≤ sizeLine; decide, fun t2 ht2 => ?_⟩
          have e2 := Evl.Ex.new (o := .tup [V.ty "int", V.ty "list", V.ty "tuple", V.ty "dict"]) ht2
          refine ⟨_, _, _, _, _, _, rfl, upd_same, cls_tys ["int", "list", "tuple", "dict"], (px.ext e2).ty, (px.ext e2).any ["int", "list", "tuple", "dict"] (by decide), _, rfl, _, rfl, iteT ?_⟩
          refine ⟨_, rfl, _, rfl, rfl, ?_⟩
          rw [decide_eq_true (rfl : ((.str z) : V) = (.str z))]
          exact k _ (e1.trans e2)
        | _ => cases hf
      · refine ⟨_, rfl, by show 2 ≤ sizeLine; decide, fun t ht => ?_⟩
        have e1 := Evl.Ex.new (o := .tup [V.ty "list", V.ty "tuple"]) ht
        have pa : Pl (upd H t (.tup [V.ty "list", V.ty "tuple"])) (.ref a) "list" := .lst (e1 _ _ ha)
        have pb : Pl (upd H t (.tup [V.ty "list", V.ty "tuple"])) (.ref b) "list" := .lst (e1 _ _ hb)
        refine ⟨_, _, _, _, _, _, rfl, upd_same, cls_tys ["list", "tuple"], pb.ty, pb.any ["list", "tuple"] (by decide), _, rfl, iteT ?_⟩
        refine ⟨_, rfl, _, _, _, _, _, rfl, .ty _, pa.ty, pa.one "list", _, rfl, _, _, _, _, _, rfl, .ty _, pb.ty, pb.one "list", rfl, _, rfl, iteF ?_⟩
        refine ⟨_, rfl, _, _, _, _, _, rfl, .ty _, pa.ty, pa.one "tuple", _, rfl, _, _, _, _, _, rfl, .ty _, pb.ty, pb.one "tuple", rfl, _, rfl, iteF ?_⟩
        refine ⟨_, rfl, a, _, rfl, .inl (SqL.of (e1 _ _ ha)), _, rfl, b, _, rfl, .inl (SqL.of (e1 _ _ hb)), rfl, _, rfl, ?_⟩
        have hlen : xs.length = ys.length := hp.length
        refine ite2 (fun _ => ?_) (fun z => absurd (decide_eq_true (by rw [hlen])) z)
        refine ⟨_, rfl, _, rfl, false, false, a, b, xs, ys, rfl, SqL.of (e1 _ _ ha), SqL.of (e1 _ _ hb), fun D hD => ?_⟩
        refine lc_it (walk_zip2 (t1 := false) (t2 := false) (xs := xs) (ys := ys) (n := xs.length) (by rw [hlen, Nat.min_self])) (fun i H' => Evl.Ex (upd H t (.tup [V.ty "list", V.ty "tuple"])) H' ∧ H' D = some (.lst ((List.replicate i true).map V.bl))) ⟨Evl.Ex.new hD, upd_same⟩ ?_ ?_ ?_
        · rintro i H' _ ⟨e2, _⟩
          exact ⟨SqL.of (e2 _ _ (e1 _ _ ha)), SqL.of (e2 _ _ (e1 _ _ hb))⟩
        · rintro i z H' H'' hi ⟨e2, g2⟩ ⟨T, u, v, rfl, hT, rfl, hu, hv⟩
          replace hu : xs[i]? = some u := hu
          replace hv : ys[i]? = some v := hv
          obtain ⟨v', hv', hsm⟩ := paired_get hp hu
          rw [hv] at hv'
          cases hv'
          have e3 := e2.trans (Evl.Ex.new (o := .tup [u, v]) hT)
          refine ⟨T, _, rfl, SqT.of upd_same, rfl, _, _, rfl, _, _, rfl, rfl, rfl, ?_⟩
          refine ⟨_, rfl, _, rfl, u, v, rfl, Sm.ex (e1.trans e3) n u v hsm, fun H3 e4 => ?_⟩
          have g3 := e4 _ _ ((Evl.Ex.new (o := .tup [u, v]) hT) _ _ g2)
          refine ⟨_, g3, ?_, (e3.trans e4).mut hD, ?_⟩
          · rw [sizeLine_eq, List.length_map, List.length_replicate]
            omega
          · rw [upd_same, List.replicate_succ', List.map_append]
            rfl
        · rintro H' ⟨e2, g2⟩
          refine ⟨D, _, rfl, SqL.of g2, ?_⟩
          rw [List.all_replicate]
          have : (if xs.length = 0 then true else id true) = true := by split <;> rfl
          first | (rw [this]; exact k H' (e1.trans e2)) | (simp; exact k H' (e1.trans e2))
      · refine ⟨_, rfl, by show 2 ≤ sizeLine; decide, fun t ht => ?_⟩
        have e1 := Evl.Ex.new (o := .tup [V.ty "list", V.ty "tuple"]) ht
        have pa : Pl (upd H t (.tup [V.ty "list", V.ty "tuple"])) (.ref a) "tuple" := .rdt (rdEx e1 ha)
        have pb : Pl (upd H t (.tup [V.ty "list", V.ty "tuple"])) (.ref b) "tuple" := .tup (e1 _ _ hb)
        refine ⟨_, _, _, _, _, _, rfl, upd_same, cls_tys ["list", "tuple"], pb.ty, pb.any ["list", "tuple"] (by decide), _, rfl, iteT ?_⟩
        refine ⟨_, rfl, _, _, _, _, _, rfl, .ty _, pa.ty, pa.one "list", _, rfl, _, _, _, _, _, rfl, .ty _, pb.ty, pb.one "list", rfl, _, rfl, iteF ?_⟩
        refine ⟨_, rfl, _, _, _, _, _, rfl, .ty _, pa.ty, pa.one "tuple", _, rfl, _, _, _, _, _, rfl, .ty _, pb.ty, pb.one "tuple", rfl, _, rfl, iteF ?_⟩
        refine ⟨_, rfl, a, _, rfl, .inr (.inl (rdEx e1 ha)), _, rfl, b, _, rfl, .inr (SqT.of (e1 _ _ hb)), rfl, _, rfl, ?_⟩
        have hlen : xs.length = ys.length := hp.length
        refine ite2 (fun _ => ?_) (fun z => absurd (decide_eq_true (by rw [hlen])) z)
        refine ⟨_, rfl, _, rfl, true, true, a, b, xs, ys, rfl, .inl (rdEx e1 ha), SqT.of (e1 _ _ hb), fun D hD => ?_⟩
        refine lc_it (walk_zip2 (t1 := true) (t2 := true) (xs := xs) (ys := ys) (n := xs.length) (by rw [hlen, Nat.min_self])) (fun i H' => Evl.Ex (upd H t (.tup [V.ty "list", V.ty "tuple"])) H' ∧ H' D = some (.lst ((List.replicate i true).map V.bl))) ⟨Evl.Ex.new hD, upd_same⟩ ?_ ?_ ?_
        · rintro i H' _ ⟨e2, _⟩
          exact ⟨.inl (rdEx (e1.trans e2) ha), SqT.of (e2 _ _ (e1 _ _ hb))⟩
        · rintro i z H' H'' hi ⟨e2, g2⟩ ⟨T, u, v, rfl, hT, rfl, hu, hv⟩
          replace hu : xs[i]? = some u := hu
          replace hv : ys[i]? = some v := hv
          obtain ⟨v', hv', hsm⟩ := paired_get hp hu
          rw [hv] at hv'
          cases hv'
          have e3 := e2.trans (Evl.Ex.new (o := .tup [u, v]) hT)
          refine ⟨T, _, rfl, SqT.of upd_same, rfl, _, _, rfl, _, _, rfl, rfl, rfl, ?_⟩
          refine ⟨_, rfl, _, rfl, u, v, rfl, Sm.ex (e1.trans e3) n u v hsm, fun H3 e4 => ?_⟩
          have g3 := e4 _ _ ((Evl.Ex.new (o := .tup [u, v]) hT) _ _ g2)
          refine ⟨_, g3, ?_, (e3.trans e4).mut hD, ?_⟩
          · rw [sizeLine_eq, List.length_map, List.length_replicate]
            omega
          · rw [upd_same, List.replicate_succ', List.map_append]
            rfl
        · rintro H' ⟨e2, g2⟩
          refine ⟨D, _, rfl, SqL.of g2, ?_⟩
          rw [List.all_replicate]
          have : (if xs.length = 0 then true else id true) = true := by split <;> rfl
          first | (rw [this]; exact k H' (e1.trans e2)) | (simp; exact k H' (e1.trans e2))
      · refine ⟨_, rfl, by show 2 ≤ sizeLine; decide, fun t ht => ?_⟩
        have e1 := Evl.Ex.new (o := .tup [V.ty "list", V.ty "tuple"]) ht
        have pa : Pl (upd H t (.tup [V.ty "list", V.ty "tuple"])) (.ref a) "dict" := .dic (e1 _ _ ha)
        have pb : Pl (upd H t (.tup [V.ty "list", V.ty "tuple"])) (.ref b) "dict" := .dic (e1 _ _ hb)
        refine ⟨_, _, _, _, _, _, rfl, upd_same, cls_tys ["list", "tuple"], pb.ty, pb.any ["list", "tuple"] (by decide), _, rfl, iteF ?_⟩
        refine ⟨_, rfl, _, _, _, _, _, rfl, .ty _, pb.ty, pb.one "dict", _, rfl, iteT ?_⟩
        refine ⟨_, rfl, _, _, _, _, _, rfl, .ty _, pa.ty, pa.one "dict", _, rfl, iteT ?_⟩
        refine Or.inl ⟨_, rfl, a, ks, rfl, e1 _ _ ha, fun H2 p ts e2 hp1 hp2 hp3 g2 hpr => ?_⟩
        refine Or.inl ⟨_, rfl, b, ks, rfl, e2 _ _ (e1 _ _ hb), fun H3 q us e3 hq1 hq2 hq3 g3 hqr => ?_⟩
        obtain ⟨m, rfl⟩ : ∃ m, n = m + 3 := ⟨n - 3, by omega⟩
        exact ⟨_, _, rfl, .inr (.inl ⟨p, q, ts.map V.ref, us.map V.ref, rfl, rfl, e3 _ _ g2, g3, by rw [List.length_map, Paired.length hpr]; exact hkl, items_sm e3 (fun p hp => (hfl p hp).imp id fun z => ⟨by omega, z.2.ex (e1.trans ((show Evl.Ex _ H2 from e2).trans (show Evl.Ex H2 H3 from e3)))⟩) hpr hqr⟩), fun H4 e4 => k H4 (e1.trans ((show Evl.Ex _ H2 from e2).trans ((show Evl.Ex H2 H3 from e3).trans e4)))⟩
      · refine ⟨_, rfl, by show 2 ≤ sizeLine; decide, fun t ht => ?_⟩
        have e1 := Evl.Ex.new (o := .tup [V.ty "list", V.ty "tuple"]) ht
        have pa : Pl (upd H t (.tup [V.ty "list", V.ty "tuple"])) (.ref a) "dict" := .dct (e1 _ _ ha)
        have pb : Pl (upd H t (.tup [V.ty "list", V.ty "tuple"])) (.ref b) "dict" := .dct (e1 _ _ hb)
        refine ⟨_, _, _, _, _, _, rfl, upd_same, cls_tys ["list", "tuple"], pb.ty, pb.any ["list", "tuple"] (by decide), _, rfl, iteF ?_⟩
        refine ⟨_, rfl, _, _, _, _, _, rfl, .ty _, pb.ty, pb.one "dict", _, rfl, iteT ?_⟩
        refine ⟨_, rfl, _, _, _, _, _, rfl, .ty _, pa.ty, pa.one "dict", _, rfl, iteT ?_⟩
        refine Or.inr ⟨_, rfl, a, ks, rfl, e1 _ _ ha, fun H2 p ts e2 hp1 hp2 hp3 g2 hpr => ?_⟩
        refine Or.inr ⟨_, rfl, b, ks, rfl, e2 _ _ (e1 _ _ hb), fun H3 q us e3 hq1 hq2 hq3 g3 hqr => ?_⟩
        obtain ⟨m, rfl⟩ : ∃ m, n = m + 4 := ⟨n - 4, by omega⟩
        exact ⟨_, _, rfl, .inr (.inl ⟨p, q, ts.map V.ref, us.map V.ref, rfl, rfl, e3 _ _ g2, g3, by rw [List.length_map, Paired.length hpr]; exact hkl, itemsT_sm e3 hfl hk1 hpr hqr⟩), fun H4 e4 => k H4 (e1.trans ((show Evl.Ex _ H2 from e2).trans ((show Evl.Ex H2 H3 from e3).trans e4)))⟩
end
end K02

/-! xs.count(text); sorted lists of texts are one; dict of pairs. Law-independent. -/
namespace Dk
open PySem PySem.Spec PyProof.Rows L2
def eqs (z : Str) (v : Value) : Bool := match v with
  | .str y _ => y == z
  | _ => false
theorem eqs_at {z : Str} {t : Tok} {A : Around} {s : Shared} : ∀ {ys : List Str} {us : List Value}, Vals (ys.map V.str) us → ∀ y ∈ us, SeqAt.EqAt A s y (.str z t) (eqs z y)
  | [], _, .nil, y, hy => by cases hy
  | a :: r, _, .cons h1 h2, y, hy => by
    rcases List.mem_cons.mp hy with e | e
    · obtain ⟨u, hu⟩ := h1
      rw [e, hu]
      exact SeqAt.EqAt.str_str a u z t
    · exact eqs_at h2 y e
theorem eqs_count {z : Str} : ∀ {ys : List Str} {us : List Value}, Vals (ys.map V.str) us → us.countP (eqs z) = ys.count z
  | [], _, .nil => rfl
  | a :: r, _, .cons h1 h2 => by
    obtain ⟨u, rfl⟩ := h1
    have ih := eqs_count (z := z) h2
    rw [List.countP_cons, List.count_cons, ih] <;> rfl
theorem paired_app {α β : Type} {R : α → β → Prop} : ∀ {xs : List α} {ys : List β} {zs : List α} {ws : List β}, Paired R xs ys → Paired R zs ws → Paired R (xs ++ zs) (ys ++ ws)
  | [], [], _, _, .nil, h => h
  | _ :: _, _ :: _, _, _, .cons a b, h => .cons a (paired_app b h)
def rCntS (K : PySem.W.Frag) : V → List V → Hp → VK → Prop := fun x xs H Q => ∃ (p : Addr) (ys : List Str) (z : Str), x = .ref p ∧ xs = [.str z] ∧ SqL K H p (ys.map V.str) ∧ Q (.int (ys.count z : Nat)) H
theorem mt_lcountS {X : Cx} : MtR X "list.count" (rCntS X.K) := by
  intro pins s σ H x xs v us Q I rx rxs h
  obtain ⟨p, ys, z, rfl, rfl, hs, q⟩ := h
  cases rx
  obtain ⟨u, rfl, ru⟩ := rxs.one
  obtain ⟨t, rfl⟩ := ru
  obtain ⟨its, rv, ⟨⟨cls, dd, data, sl⟩, n, ho, hc, hdn, hd⟩, hlen⟩ := I.list hs
  simp only at hc hd
  subst hc hd
  refine call_meets PySem.F.slot_list_count ⟨_, ho, rfl⟩ PySem.F.entry_list_count (PySem.F.args_list_count_2 _ _)
    (SeqAt.list_countAt p its.toArray n dd sl (.str z t) (eqs z)) ⟨ho, fun y hy => eqs_at rv y (by simpa using hy), ?_⟩
  have ec : its.toArray.toList.countP (eqs z) = ys.count z := eqs_count rv
  refine ⟨.int (ys.count z : Nat), H, I.tok _, ⟨s.toks, ?_⟩, q⟩
  show Value.int ((its.toArray.toList.countP (eqs z) : Nat) : Int) s.toks = _
  rw [ec]
theorem sorted_pw : ∀ {l : List Str}, sortedS l = true → l.Pairwise fun a b => Srs.ltT b a = false
  | [], _ => .nil
  | [a], _ => .cons (fun _ h => by simp at h) .nil
  | a :: b :: r, h => by
    unfold sortedS at h
    obtain ⟨h1, h2⟩ := Bool.and_eq_true_iff.mp h
    have ih := sorted_pw (l := b :: r) h2
    have hab : Srs.ltT b a = false := by
      rw [ltCps_eq] at h1
      simpa [Srs.ltT] using h1
    refine .cons (fun c hc => ?_) ih
    rcases List.mem_cons.mp hc with rfl | hc
    · exact hab
    · have hbc := (List.pairwise_cons.mp ih).1 c hc
      cases h3 : Srs.ltT c a with
      | false => rfl
      | true =>
        exfalso
        cases h4 : Srs.ltT a b with
        | true =>
          rw [Srs.ltT_tr h3 h4] at hbc
          cases hbc
        | false =>
          have := Srs.ltT_tot h4 hab
          subst this
          rw [h3] at hbc
          cases hbc
theorem sorted_one : ∀ {l m : List Str}, l.Pairwise (fun a b => Srs.ltT b a = false) → m.Pairwise (fun a b => Srs.ltT b a = false) → l.Perm m → l = m
  | [], m, _, _, p => (List.Perm.nil_eq p)
  | a :: r, [], _, _, p => by have := p.length_eq; simp at this
  | a :: r, b :: t, h1, h2, p => by
    have e : a = b := by
      have ha := p.mem_iff.mp (List.mem_cons_self (a := a) (l := r))
      have hb := p.mem_iff.mpr (List.mem_cons_self (a := b) (l := t))
      rcases List.mem_cons.mp ha with e | ha
      · exact e
      · rcases List.mem_cons.mp hb with e | hb
        · exact e.symm
        · exact Srs.ltT_tot ((List.pairwise_cons.mp h2).1 a ha) ((List.pairwise_cons.mp h1).1 b hb)
    subst e
    rw [sorted_one (List.pairwise_cons.mp h1).2 (List.pairwise_cons.mp h2).2 (p.cons_inv)]
theorem sortedS_one {l m : List Str} (h1 : sortedS l = true) (h2 : sortedS m = true) (p : l.Perm m) : l = m := sorted_one (sorted_pw h1) (sorted_pw h2) p
theorem merge_tab {g : Str → V} : ∀ (l acc : List Str), (acc ++ l).Nodup → mergeK (tab acc g) (tab l g) = tab (acc ++ l) g
  | [], acc, _ => by rw [List.append_nil]; rfl
  | a :: r, acc, h => by
    have ha : a ∉ acc := fun z => by
      have := (List.nodup_append.mp h).2.2 a z a List.mem_cons_self
      exact this rfl
    show mergeK (putK (tab acc g) (Sum.inr a) (g a)) (tab r g) = _
    rw [put_new ha]
    have e : tab (acc ++ [a]) (fun y => if y = a then g a else g y) = tab (acc ++ [a]) g := tab_congr fun x _ => by
      split
      · rename_i e; rw [e]
      · rfl
    rw [e, merge_tab r (acc ++ [a]) (by rw [List.append_assoc]; exact h), List.append_assoc]
    rfl
end Dk

namespace K02
open PySem PySem.Spec PyProof.Rows L2 Tr Sq Dk Dt Exs
/-! ### what is kept while one table of lambdas grows; _law_ways_right -/
abbrev sWays : Stmt := top 53
/-- all but the table -/
def w1 (T : Addr) (H : Hp) : Hp := fun b => if b = T then none else H b
section
variable {T : Addr} {H H' : Hp}
theorem w1_to : Evl.Ex (w1 T H) H := fun b o h => by
  unfold w1 at h
  split at h
  · cases h
  · exact h
theorem w1_at {b : Addr} {o : HO} (h : H b = some o) (h1 : b ≠ T) : w1 T H b = some o := by
  unfold w1
  rw [if_neg h1]
  exact h
theorem w1_ex (e : Evl.Ex H H') : Evl.Ex (w1 T H) (w1 T H') := fun b o h => by
  unfold w1 at h ⊢
  split at h
  · cases h
  · rename_i z
    rw [if_neg z]
    exact e _ _ h
theorem w1_grow (e : Lm.Grow T H H') : Evl.Ex (w1 T H) (w1 T H') := fun b o h => by
  unfold w1 at h ⊢
  split at h
  · cases h
  · rename_i z
    rw [if_neg z]
    exact e _ _ z h
end
/-- all but lists stays -/
def Kl (H H' : Hp) : Prop := ∀ b o, H b = some o → (∀ xs, o ≠ .lst xs) → H' b = some o
theorem Kl.ex {H H' : Hp} (e : Evl.Ex H H') : Kl H H' := fun b o h _ => e b o h
theorem Kl.upd {F : Addr} {xs ys : List V} {H : Hp} (h : H F = some (.lst xs)) : Kl H (L2.upd H F (.lst ys)) := fun b o e nl => by
  rw [upd_ne (fun z => by rw [z, h] at e; exact nl _ (Option.some.inj e).symm)]
  exact e
theorem codeT_nl {c P2 : Addr} {q : Str} (xs : List V) : Lm.CodeT c q P2 ≠ .lst xs := fun z => by
  unfold Lm.CodeT at z
  cases z
theorem tabD_kl {mg : Str → Option Value} : ∀ (qs : List Str) {H H' : Hp} {P : Addr}, Lm.TabD mg qs H P → Kl H H' → Lm.TabD mg qs H' P
  | [], _, _, _, _, _ => True.intro
  | q :: qs, H, H', P, ⟨ps, h1, h2, h3⟩, k => ⟨ps, k _ _ h1 (fun xs z => by cases z), h2, fun pos cv hc => by
    obtain ⟨c, P2, e1, e2, e3, e4, e5⟩ := h3 pos cv hc
    exact ⟨c, P2, e1, k _ _ e2 (fun xs => codeT_nl xs), e3, tabD_kl qs e4 k, e5⟩⟩
/-- the table, all else -/
structure Wt (mg : Str → Option Value) (q : Str) (T : Addr) (H0 H : Hp) : Prop where
  tab : Lm.TabD mg [q] H T
  k : Evl.Ex (w1 T H0) (w1 T H)
section
variable {mg : Str → Option Value} {q : Str} {T : Addr} {H0 H H' : Hp}
theorem Wt.pt (M : Wt mg q T H0 H) : ∃ ps, H T = some (.tbl ps) := by
  obtain ⟨ps, h, _⟩ := M.tab
  exact ⟨ps, h⟩
theorem Wt.get (M : Wt mg q T H0 H) {b : Addr} {o : HO} (h : w1 T H0 b = some o) : H b = some o := w1_to _ _ (M.k _ _ h)
theorem Wt.ne (M : Wt mg q T H0 H) {b : Addr} (h : H b = none) : b ≠ T := by
  obtain ⟨ps, hp⟩ := M.pt
  exact fun z => by rw [z, hp] at h; cases h
theorem Wt.ex (M : Wt mg q T H0 H) (e : Evl.Ex H H') : Wt mg q T H0 H' := ⟨tabD_kl _ M.tab (Kl.ex e), M.k.trans (w1_ex e)⟩
theorem Wt.grow (M : Wt mg q T H0 H) (g : Lm.Grow T H H') (t : Lm.TabD mg [q] H' T) : Wt mg q T H0 H' := ⟨t, M.k.trans (w1_grow g)⟩
theorem Wt.mut {F : Addr} {xs ys : List V} (M : Wt mg q T H0 H) (hF : H F = some (.lst xs)) (h3 : H0 F = none) : Wt mg q T H0 (upd H F (.lst ys)) := by
  refine ⟨tabD_kl _ M.tab (Kl.upd hF), fun b o h => ?_⟩
  have hb : b ≠ F := fun z => by
    have := w1_to _ _ h
    rw [z, h3] at this
    cases this
  have := M.k _ _ h
  unfold w1 at this ⊢
  split at this
  · cases this
  · rename_i z
    rw [if_neg z, upd_ne hb]
    exact this
theorem Wt.start (t : Lm.TabD mg [q] H T) : Wt mg q T H H := ⟨t, fun _ _ h => h⟩
theorem Wt.now (M : Wt mg q T H0 H) : Wt mg q T H H := .start M.tab
theorem Wt.trans {H1 : Hp} (M : Wt mg q T H0 H1) (N : Wt mg q T H1 H) : Wt mg q T H0 H := ⟨N.tab, M.k.trans N.k⟩
end
/-! errors into the clauses -/
def RefQ (w : Str) (v : V) (H1 : Hp) (Q : VK) : Prop := ∀ (H2 : Hp) (p : Addr), Evl.Ex H1 H2 → H1 p = none → H2 p = some (.tup [.str w, v]) → Q (.ref p) H2
section
variable {P : Program} {w : World} {K : PySem.W.Frag} {mg : Str → Option Value} {base : Heap} {CN CP CL f1 f2 f3 : Addr}
theorem told1 {C : Addr} {w f : Str} {v : V} {H1 H' : Hp} {Q : VK} {d : Addr} (h : RefQ w v H1 Q) (e : Evl.Ex H1 H') (hd : H' d = none) : Told1 C w f Q (.ref C) (some d) (upd H' d (.xd [(f, v)])) := by
  refine ⟨rfl, d, _, v, rfl, upd_same, by simp [List.lookup], fun p hp => ?_⟩
  have e2 := e.trans ((Evl.Ex.new (o := .xd [(f, v)]) hd).trans (Evl.Ex.new (o := .tup [.str w, v]) hp))
  refine h _ p e2 (none_of (fun o z => (e.trans (Evl.Ex.new (o := .xd [(f, v)]) hd)) p o z) hp) upd_same
/-- a path that is none: told with a new pair -/
def RefQ2 (v u : V) (H1 : Hp) (Q : VK) : Prop := ∀ (H2 : Hp) (p q : Addr), Evl.Ex H1 H2 → H1 p = none → H1 q = none → H2 q = some (.tup [v, u]) → H2 p = some (.tup [.str "path", .ref q]) → Q (.ref p) H2
theorem metHouse {v : V} {H1 H' : Hp} {Q : VK} {d : Addr} (T1 : Err P w K mg base "NoHouse" "thing" CN f1) (h : RefQ "house" v H1 Q) (e : Evl.Ex H1 H') (hd : H' d = none) : MetE K Q CN CP CL (.ref CN) (some d) (upd H' d (.xd [("thing", v)])) :=
  ⟨true, T1.c.me, fun _ => told1 h e hd, (fun z => by cases z)⟩
theorem metPath {v u : V} {H1 H' : Hp} {Q : VK} {d : Addr} (T2 : Err2 P w K mg base "NoPath" "one" "other" CP f2) (no : PySem.W.exmOne K (.ref CP) (.ref CN) = some false) (h : RefQ2 v u H1 Q) (e : Evl.Ex H1 H') (hd : H' d = none) : MetE K Q CN CP CL (.ref CP) (some d) (upd H' d (.xd [("other", u), ("one", v)])) := by
  refine ⟨false, no, (fun z => by cases z), fun _ => ⟨true, T2.c.me, fun _ => ⟨rfl, d, _, v, u, rfl, upd_same, by rfl, by rfl, fun q hq p hp => ?_⟩, (fun z => by cases z)⟩⟩
  have e1 := e.trans (Evl.Ex.new (o := .xd [("other", u), ("one", v)]) hd)
  have e2 := e1.trans (Evl.Ex.new (o := .tup [v, u]) hq)
  exact h _ p q (e2.trans (Evl.Ex.new (o := .tup [.str "path", .ref q]) hp)) (none_of (fun o z => e2 p o z) hp) (none_of (fun o z => e1 q o z) hq) (Evl.Ex.new hp _ _ upd_same) upd_same
theorem metLetters {v : V} {H1 H' : Hp} {Q : VK} {d : Addr} (T3 : Err P w K mg base "BadLetters" "thing" CL f3) (no1 : PySem.W.exmOne K (.ref CL) (.ref CN) = some false) (no2 : PySem.W.exmOne K (.ref CL) (.ref CP) = some false) (h : RefQ "letters" v H1 Q) (e : Evl.Ex H1 H') (hd : H' d = none) : MetE K Q CN CP CL (.ref CL) (some d) (upd H' d (.xd [("thing", v)])) :=
  ⟨false, no1, (fun z => by cases z), fun _ => ⟨false, no2, (fun z => by cases z), fun _ => ⟨true, T3.c.me, fun _ => told1 h e hd, (fun z => by cases z)⟩⟩⟩
end
end K02

namespace K02
open PySem PySem.Spec PyProof.Rows L2 Tr Sq Dk Exs
/-! ### _law_bent of letters -/
abbrev sBentK : Stmt := top 54
/-- all but the stream and the table -/
def wo (p c T : Addr) (H : Hp) : Hp := fun b => if b = p ∨ b = c ∨ b = T then none else H b
section
variable {p c T : Addr} {H H' : Hp}
theorem wo_to : Evl.Ex (wo p c T H) H := fun b o h => by
  unfold wo at h
  split at h
  · cases h
  · exact h
theorem wo_at {b : Addr} {o : HO} (h : H b = some o) (h1 : b ≠ p) (h2 : b ≠ c) (h3 : b ≠ T) : wo p c T H b = some o := by
  unfold wo
  rw [if_neg (fun z => by rcases z with z | z | z <;> contradiction)]
  exact h
theorem wo_ex (e : Evl.Ex H H') : Evl.Ex (wo p c T H) (wo p c T H') := fun b o h => by
  unfold wo at h ⊢
  split at h
  · cases h
  · rename_i z
    rw [if_neg z]
    exact e _ _ h
theorem wo_kp (e : Kp p c H H') : Evl.Ex (wo p c T H) (wo p c T H') := fun b o h => by
  unfold wo at h ⊢
  split at h
  · cases h
  · rename_i z
    rw [if_neg z]
    exact e _ _ h (fun q => z (.inl q)) (fun q => z (.inr (.inl q)))
end
theorem Pl.ne_new {H : Hp} {x : V} {n : String} {d : Addr} (h : Pl H x n) (hd : H d = none) : x ≠ .ref d := fun z => by
  subst z
  cases h with
  | lst h => rw [hd] at h; cases h
  | tup h => rw [hd] at h; cases h
  | frt h => rw [hd] at h; cases h
  | dic h => rw [hd] at h; cases h
  | dct h => rw [hd] at h; cases h
theorem wo_upd {p c T : Addr} {H : Hp} {o : HO} : wo p c T (upd H T o) = wo p c T H := by
  funext b
  unfold wo
  by_cases h : b = p ∨ b = c ∨ b = T
  · rw [if_pos h, if_pos h]
  · rw [if_neg h, if_neg h, upd_ne (fun z => h (.inr (.inr z)))]
theorem upd_comm {H : Hp} {a b : Addr} {o u : HO} (h : a ≠ b) : upd (upd H a o) b u = upd (upd H b u) a o := by
  funext x
  by_cases h1 : x = a
  · rw [h1, upd_ne h, upd_same, upd_same]
  · by_cases h2 : x = b
    · rw [h2, upd_same, upd_ne h.symm, upd_same]
    · rw [upd_ne h2, upd_ne h1, upd_ne h1, upd_ne h2]
/-- flat, a list of items, a dict of such -/
inductive Shp (H : Hp) : V → Prop
  | flat {x : V} (h : flatS x = true) : Shp H x
  | items {a : Addr} {ts : List Addr} {ks : List (Key × V)} (h : H a = some (.lst (ts.map V.ref))) (hp : Paired (fun (t : Addr) (q : Key × V) => H t = some (.tup [kV q.1, q.2])) ts ks) (hf : ∀ q ∈ ks, flatS q.2 = true) (hl : ks.length ≤ 1000) : Shp H (.ref a)
  | dict {a : Addr} {ks : List (Key × V)} (h : H a = some (.dK ks)) (hv : ∀ q ∈ ks, Shv H q.2) (hl : ks.length ≤ 1000) : Shp H (.ref a)
theorem Shp.ex {H H' : Hp} {x : V} (h : Shp H x) (e : Evl.Ex H H') : Shp H' x := by
  cases h with
  | flat h => exact .flat h
  | items h hp hf hl => exact .items (e _ _ h) (Paired.mapP hp fun t q z => e _ _ z) hf hl
  | dict h hv hl => exact .dict (e _ _ h) (fun q hq => (hv q hq).ex e) hl
/-- told as no letters -/
def BadK (hs : List Str) (H : Hp) (x : V) : Prop := ∃ o, DX H x o ∧ isLet hs o = false ∧ Shp H x
theorem BadK.ex {hs : List Str} {H H' : Hp} {x : V} (h : BadK hs H x) (e : Evl.Ex H H') : BadK hs H' x := by
  obtain ⟨o, h1, h2, h3⟩ := h
  exact ⟨o, h1.ex e, h2, h3.ex e⟩
/-- letters: the houses in any order -/
structure LedK (hs : List Str) (kvs : List (Key × V)) : Prop where
  ks : ∃ hs' : List Str, hs'.Perm hs ∧ kvs.map (·.1) = hs'.map Sum.inr
  ns : ∀ p ∈ kvs, ∃ n : Nat, p.2 = .int (n : Nat)
section
variable {hs : List Str} {kvs : List (Key × V)}
theorem LedK.len (L : LedK hs kvs) : kvs.length = hs.length := by
  obtain ⟨hs', h1, h2⟩ := L.ks
  have := congrArg List.length h2
  rw [List.length_map, List.length_map] at this
  rw [this, h1.length_eq]
theorem inr_nodup {l : List Str} (h : l.Nodup) : (l.map (Sum.inr : Str → Key)).Nodup := List.pairwise_map.mpr (List.Pairwise.imp (fun {a b} hn e => hn (Sum.inr.inj e)) h)
theorem LedK.nodup (L : LedK hs kvs) (hn : hs.Nodup) : (kvs.map (·.1)).Nodup := by
  obtain ⟨hs', h1, h2⟩ := L.ks
  rw [h2]
  exact inr_nodup (h1.nodup_iff.mpr hn)
theorem valk_some {k : Key} : ∀ {kvs : List (Key × V)}, (valV kvs k).isSome = true ↔ k ∈ kvs.map (·.1)
  | [] => by simp [valV_nil]
  | p :: r => by
    by_cases e : p.1 = k
    · rw [valV_pos e]
      simp [e]
    · rw [valV_neg e, valk_some (kvs := r), List.map_cons, List.mem_cons]
      exact ⟨fun z => .inr z, fun z => z.resolve_left (fun w => e w.symm)⟩
theorem valk_at {k : Key} {v : V} : ∀ {kvs : List (Key × V)} {i : Nat}, (kvs.map (·.1)).Nodup → kvs[i]? = some (k, v) → valV kvs k = some v
  | p :: r, 0, _, e => by
    obtain rfl := Option.some.inj e
    exact valV_pos rfl
  | p :: r, i + 1, hn, e => by
    rw [List.map_cons, List.nodup_cons] at hn
    have e : r[i]? = some (k, v) := e
    have ne : ¬ p.1 = k := fun z => hn.1 (by rw [z]; exact List.mem_map.mpr ⟨_, List.mem_of_getElem? e, rfl⟩)
    rw [valV_neg ne]
    exact valk_at hn.2 e
theorem bentK_len (h : kvs.length ≠ hs.length) : isLet hs (some kvs) = false := by
  show (((decide (kvs.length = hs.length) && hs.all fun h => (valV kvs (Sum.inr h)).isSome) && kvs.all fun p => numV p.2) && kvs.any fun p => posV p.2) = false
  rw [decide_eq_false h]
  rfl
theorem bentK_key {z : Str} (hz : z ∈ hs) (h : (Sum.inr z : Key) ∉ kvs.map (·.1)) : isLet hs (some kvs) = false := by
  show (((decide (kvs.length = hs.length) && hs.all fun h => (valV kvs (Sum.inr h)).isSome) && kvs.all fun p => numV p.2) && kvs.any fun p => posV p.2) = false
  have : (hs.all fun h => (valV kvs (Sum.inr h)).isSome) = false := by
    rw [List.all_eq_false]
    exact ⟨z, hz, fun w => h (valk_some.mp w)⟩
  rw [this, Bool.and_false, Bool.false_and, Bool.false_and]
theorem bentK_val {p : Key × V} (hp : p ∈ kvs) (h : numV p.2 = false) : isLet hs (some kvs) = false := by
  show (((decide (kvs.length = hs.length) && hs.all fun h => (valV kvs (Sum.inr h)).isSome) && kvs.all fun p => numV p.2) && kvs.any fun p => posV p.2) = false
  have : (kvs.all fun p => numV p.2) = false := by
    rw [List.all_eq_false]
    exact ⟨p, hp, by rw [h]; decide⟩
  rw [this, Bool.and_false, Bool.false_and]
theorem bentK_zero (h : ∀ p ∈ kvs, posV p.2 = false) : isLet hs (some kvs) = false := by
  show (((decide (kvs.length = hs.length) && hs.all fun h => (valV kvs (Sum.inr h)).isSome) && kvs.all fun p => numV p.2) && kvs.any fun p => posV p.2) = false
  have : (kvs.any fun p => posV p.2) = false := by
    rw [List.any_eq_false]
    exact fun p hp => by rw [h p hp]; decide
  rw [this, Bool.and_false]
end
theorem mergeK_new : ∀ (more acc : List (Key × V)), ((acc ++ more).map (·.1)).Nodup → mergeK acc more = acc ++ more
  | [], acc, _ => by rw [List.append_nil]; rfl
  | a :: r, acc, h => by
    have ha : valV acc a.1 = none := by
      cases hv : valV acc a.1 with
      | none => rfl
      | some v =>
        exfalso
        have z := valk_some.mp (show (valV acc a.1).isSome = true by rw [hv]; rfl)
        rw [List.map_append, List.map_cons] at h
        exact (List.nodup_append.mp h).2.2 _ z _ List.mem_cons_self rfl
    show mergeK (putK acc a.1 a.2) r = _
    rw [putK_new a.2 ha, mergeK_new r (acc ++ [(a.1, a.2)]) (by rw [List.append_assoc]; exact h), List.append_assoc]
    rfl
/-- entries laid so far -/
def EIK (H0 : Hp) (D : Addr) (out : List (Key × V)) (H' : Hp) : Prop := Evl.Ex H0 H' ∧ ∃ us : List Addr, H' D = some (.lst (us.map V.ref)) ∧ us.length = out.length ∧ Paired (fun (t : Addr) (q : Key × V) => H' t = some (.tup [kV q.1, q.2])) us out
theorem EIK.push {H0 H5 : Hp} {D u : Addr} {out : List (Key × V)} {k : Key} {v : V} (h : EIK H0 D out H5) (hD : H0 D = none) (hu : H5 u = none) (hl : out.length ≤ 1000) :
    ∃ xs, upd H5 u (.tup [kV k, v]) D = some (.lst xs) ∧ xs.length < sizeLine ∧ EIK H0 D (out ++ [(k, v)]) (upd (upd H5 u (.tup [kV k, v])) D (.lst (xs ++ [.ref u]))) := by
  obtain ⟨x1, us, e1, ul, e2⟩ := h
  have hDu : D ≠ u := ne_of_none e1 hu
  refine ⟨_, by rw [upd_ne hDu]; exact e1, ?_, ex_upd (x1.trans (Evl.Ex.new hu)) hD, us ++ [u], by rw [upd_same, List.map_append]; rfl, by rw [List.length_append, List.length_append, ul]; rfl, ?_⟩
  · rw [List.length_map, ul]
    exact Nat.lt_of_le_of_lt hl (by decide)
  · refine paired_app (Paired.mapP e2 fun t kv z => ?_) (.cons ?_ .nil)
    · rw [upd_ne (fun q9 => by rw [q9, e1] at z; cases z), upd_ne (ne_of_none z hu)]
      exact z
    · rw [upd_ne hDu.symm]
      exact upd_same
/-- while the bent ones are gathered -/
structure BSK (H : Hp) (p c g so : Addr) (m : Nat) (hs : List Str) (kvs : List (Key × V)) (odd : V) (xs : List V) (Hc : Hp) : Prop where
  str : StrAt Hc p c m
  kp : Kp p c H Hc
  new : H so = none
  np : so ≠ p
  nc : so ≠ c
  at_ : Hc so = some (.lst xs)
  bad : ∀ x ∈ xs, BadK hs (wo p c so Hc) x
  g : wo p c so Hc g = some (.dK kvs)
  odd : (∃ nm, Pl (wo p c so Hc) odd nm) ∧ Shv (wo p c so Hc) odd
theorem BSK.app {H Hc H6 : Hp} {p c g so d : Addr} {m : Nat} {hs : List Str} {kvs out : List (Key × V)} {odd : V} {xs : List V} (B : BSK H p c g so m hs kvs odd xs Hc) (x : Evl.Ex Hc H6) (hd : H6 d = none) (hi : ∀ q ∈ out, (∃ n, Pl (wo p c so H6) q.2 n) ∧ Shv (wo p c so H6) q.2) (hl : out.length ≤ 1000) (hf : isLet hs (some out) = false) :
    BSK H p c g so m hs kvs odd (xs ++ [.ref d]) (upd (upd H6 d (.dK out)) so (.lst (xs ++ [.ref d]))) := by
  have s6 := B.str.keep x
  have so6 := x _ _ B.at_
  have nd : d ≠ so := (ne_of_none so6 hd).symm
  obtain ⟨n1, n2⟩ := s6.ne hd
  have e2 : Evl.Ex (wo p c so H6) (wo p c so (upd (upd H6 d (.dK out)) so (.lst (xs ++ [.ref d])))) := by
    rw [wo_upd]
    exact wo_ex (Evl.Ex.new hd)
  have e1 : Evl.Ex (wo p c so Hc) (wo p c so (upd (upd H6 d (.dK out)) so (.lst (xs ++ [.ref d])))) := (wo_ex x).trans e2
  have wd : wo p c so (upd (upd H6 d (.dK out)) so (.lst (xs ++ [.ref d]))) d = some (.dK out) := by
    rw [wo_upd]
    exact wo_at upd_same n1 n2 nd
  have kx : Kp p c H H6 := fun b o e h1 h2 => x _ _ (B.kp b o e h1 h2)
  refine ⟨(s6.new hd).upd B.np B.nc, (kx.new hd).mut B.new, B.new, B.np, B.nc, upd_same, fun z hz => ?_, e1 _ _ B.g, B.odd.1.imp fun nm h => h.ext e1, B.odd.2.ex e1⟩
  rcases List.mem_append.mp hz with hz | hz
  · exact (B.bad z hz).ex e1
  · rw [List.mem_singleton.mp hz]
    refine ⟨some out, .dic wd (fun q hq => (hi q hq).1.imp fun n h => h.ext e2) (fun q hq => ?_) hl, hf, .dict wd (fun q hq => (hi q hq).2.ex e2) hl⟩
    obtain ⟨n, h⟩ := (hi q hq).1
    exact Pl.ne_new (h.ext wo_to) hd
theorem BSK.next {H Hc Hd He : Hp} {p c g so : Addr} {m m' : Nat} {hs : List Str} {kvs : List (Key × V)} {odd : V} {xs : List V} (B : BSK H p c g so m hs kvs odd xs Hc) (x : Evl.Ex Hc Hd) (kp : Kp p c Hd He) (s : StrAt He p c m') : BSK H p c g so m' hs kvs odd xs He := by
  have e1 : Evl.Ex (wo p c so Hc) (wo p c so He) := (wo_ex x).trans (wo_kp kp)
  exact ⟨s, fun b o e h1 h2 => kp b o (x _ _ (B.kp b o e h1 h2)) h1 h2, B.new, B.np, B.nc, kp _ _ (x _ _ B.at_) B.np B.nc, fun z hz => (B.bad z hz).ex e1, e1 _ _ B.g, B.odd.1.imp fun nm h => h.ext e1, B.odd.2.ex e1⟩
theorem lock_outK {Hc H5 : Hp} {g d : Addr} {od : Obj} {kvs out : List (Key × V)} (hg : Hc g = some (.dK kvs)) (x5 : Evl.Ex (upd Hc g (.frz od (.dK kvs))) H5) (hd : H5 d = none) :
    ∃ H6, Evl.Ex Hc H6 ∧ H6 d = none ∧ upd H5 d (.dK out) g = some (.frz od (.dK kvs)) ∧ upd (upd H5 d (.dK out)) g (.dK kvs) = upd H6 d (.dK out) := by
  have g5 := x5 _ _ upd_same
  have nd : d ≠ g := (ne_of_none g5 hd).symm
  exact ⟨_, unlock hg x5, by rw [upd_ne nd]; exact hd, by rw [upd_ne nd.symm]; exact g5, upd_comm nd⟩
end K02

namespace K02
open PySem PySem.Spec PyProof.Rows L2 Tr Sq Dk Exs
/-! ### _law_bent of letters, the whole -/
def spBentK (K : PySem.W.Frag) : Sp := fun vs H Q _ => ∃ (p c g : Addr) (n : Nat) (hs : List Str) (kvs : List (Key × V)), vs = [.ref p, .ref g] ∧ StrAt H p c n ∧ n + 3 ≤ 1000000000 ∧ H g = some (.dK kvs) ∧ LedK hs kvs ∧ hs.Nodup ∧ hs ≠ [] ∧ hs.length ≤ 30 ∧ (∀ h ∈ hs, h ∈ names12) ∧
  ∀ (x : V) (H' : Hp), BadK hs H' x → Kp p c H H' → StrAt H' p c (n + 3) → Q x H'
def bk1 (z0 : Str) (odd : V) (q : Key × V) : Key × V := (q.1, if q.1 = Sum.inr z0 then odd else q.2)
def bk3 (z0 : Str) (q : Key × V) : Key × V := (if q.1 = Sum.inr z0 then Sum.inr "never" else q.1, q.2)
def bk4 (q : Key × V) : Key × V := (q.1, .int 0)
theorem StrAt.neK {H : Hp} {p c g : Addr} {n : Nat} {kvs : List (Key × V)} (h : StrAt H p c n) (hg : H g = some (.dK kvs)) : g ≠ p ∧ g ≠ c := by
  obtain ⟨L, cells, a, k, m, h1, h2, r⟩ := h
  exact ⟨fun z => (by rw [z, h1] at hg; cases hg), fun z => (by rw [z, h2] at hg; cases hg)⟩
abbrev nmBK : List Str := ["stream", "given", "house", "odd", "some", "one"]
section
variable {P : Program} {w : World} {K : PySem.W.Frag} {mg : Str → Option Value} {base : Heap}
theorem scBK : FnScope nmBK ["stream", "given"] (defScope sBentK) := ⟨rfl, rfl, rfl, by decide +kernel, rfl, by decide +kernel, by decide +kernel⟩
theorem ok_bentK {f fP : Addr} {fd fdP : FuncData} (F : FnP K "_law_bent" sBentK f fd) (GP : FnOk P w K mg base CX0 2 fP fdP ["stream", "some"] (spPick K)) (bP : L2.Binds K fdP ["stream", "some"] []) (kP : PySem.W.keepIn K (.ref fP) = true) (gP : mg "_law_pick" = some (.ref fP)) (gL : mg "list" = none) (gD : mg "dict" = none) : FnOk P w K mg base CX0 3 f fd ["stream", "given"] (spBentK K) := by
  refine F.ok scBK (fun vs H Q E h => ?_) (fun cdv A outer s H vs Q E hr h => ?_)
  · obtain ⟨p, c, g, n, hs, kvs, rfl, _⟩ := h
    rfl
  · obtain ⟨p, c, g, n, hs, kvs, rfl, hS, hn, hg, L, hnd, hne, h30, hgd, k⟩ := h
    refine' ⟨_, PSs.nox (pss_cons (ps_asg (pe_tup (pa_cons (pe_call GP hr rfl gP kP bP .nil pass0 (pa_cons (pv 0) (pa_cons (pe_callTy (call_list_dK rfl) (by rfl) gL (by decide +kernel) (pa_cons (pv 1) pa_nil)) pa_nil))) (pa_cons (pe_call GP hr rfl gP kP bP .nil pass0 (pa_cons (pv 0) (pa_cons (pe_lst (pa_cons pe_non (pa_cons (pe_un un_neg pe_int) (pa_cons pe_bl (pa_cons pe_str (pa_cons (pe_lst (pa_cons pe_int pa_nil)) (pa_cons pe_str (pa_cons pe_dnewK pa_nil)))))))) pa_nil))) pa_nil))) (pg_tup (by rfl) (pgs_cons (pg_name (i := 2) scBK.nd rfl (.inr rfl)) (pgs_cons (pg_name (i := 3) scBK.nd rfl (.inr rfl)) pgs_nil))))
      (pss_cons (ps_set (i := 4) scBK.nd rfl (.inl rfl) (pe_lst (pa_cons pe_non (pa_cons pe_int (pa_cons pe_str (pa_cons (LiI.pe_listItems (by rfl) (pv 1) (by rfl) gL (by decide +kernel)) (pa_cons pe_dnewK (pa_cons (pe_callTy (call_dictP rfl) (by rfl) gD (by decide +kernel) (pa_cons (pe_op op_cat (LiI.pe_listItems (by rfl) (pv 1) (by rfl) gL (by decide +kernel)) (pe_lst (pa_cons (pe_tup (pa_cons pe_str (pa_cons pe_int pa_nil))) pa_nil))) pa_nil)) pa_nil))))))))
      (pss_cons (ps_expr (pe_bm PySem.F.plainAttrs_list PySem.F.slot_list_append PySem.F.type_list_append mt_append (pv 4) (pa_cons (pe_lock (pe_callTy (call_dictP rfl) (by rfl) gD (by decide +kernel) (pa_cons ?lc1 pa_nil))) pa_nil)))
      (pss_cons (ps_expr (pe_bm PySem.F.plainAttrs_list PySem.F.slot_list_append PySem.F.type_list_append mt_append (pv 4) (pa_cons (pe_lock (pe_callTy (call_dictP rfl) (by rfl) gD (by decide +kernel) (pa_cons ?lc2 pa_nil))) pa_nil)))
      (pss_cons (ps_expr (pe_bm PySem.F.plainAttrs_list PySem.F.slot_list_append PySem.F.type_list_append mt_append (pv 4) (pa_cons (pe_lock (pe_callTy (call_dictP rfl) (by rfl) gD (by decide +kernel) (pa_cons ?lc3 pa_nil))) pa_nil)))
      (pss_cons (ps_expr (pe_bm PySem.F.plainAttrs_list PySem.F.slot_list_append PySem.F.type_list_append mt_append (pv 4) (pa_cons (pe_lock (pe_callTy (call_dictP rfl) (by rfl) gD (by decide +kernel) (pa_cons ?lc4 pa_nil))) pa_nil)))
      (pss_one (ps_ret (pe_call GP hr rfl gP kP bP .nil pass0 (pa_cons (pv 0) (pa_cons (pv 4) pa_nil))))))))))), ?rd⟩
    case lc1 =>
      refine pe_lc (own := [("one", 5)]) (g := gName 5) (tt := tYes) (te := tTup (tCons (tVar 5) (tCons (tIf (tTest (tOp rEq (tVar 5) (tVar 2))) (tVar 3) (tDGet (tVar 1) (tVar 5))) tNil))) rfl scBK.nd (pi_keys (pv 1))
        (blkOk_by (own := [("one", 5)]) (N := nmBK) (sc := defScope sBentK) (by decide +kernel)) (fun _ _ _ _ _ => pg_name (i := 5) scBK.nd rfl (.inl rfl)) (fun _ _ _ _ _ => pts_nil) ?_
      intro _ _ _ _ _
      exact pe_tup (pa_cons (pv 5) (pa_cons (pe_ifExp (pt_cmpR op_eq (pv 5) (pv 2) (nomark _)) (pv 3) (pe_dget (hu_of hr) (pv 1) (pv 5) (fun _ _ => rfl))) pa_nil))
    case lc2 =>
      refine pe_lc (own := [("one", 5)]) (g := gName 5) (tt := tTest (tOp rNe (tVar 5) (tVar 2))) (te := tTup (tCons (tVar 5) (tCons (tDGet (tVar 1) (tVar 5)) tNil))) rfl scBK.nd (pi_keys (pv 1))
        (blkOk_by (own := [("one", 5)]) (N := nmBK) (sc := defScope sBentK) (by decide +kernel)) (fun _ _ _ _ _ => pg_name (i := 5) scBK.nd rfl (.inl rfl)) (fun _ _ _ _ _ => pts_one (pt_cmpR op_ne (pv 5) (pv 2) (nomark _))) ?_
      intro _ _ _ _ _
      exact pe_tup (pa_cons (pv 5) (pa_cons (pe_dget (hu_of hr) (pv 1) (pv 5) (fun _ _ => rfl)) pa_nil))
    case lc3 =>
      refine pe_lc (own := [("one", 5)]) (g := gName 5) (tt := tYes) (te := tTup (tCons (tIf (tTest (tOp rEq (tVar 5) (tVar 2))) (tC (.str "never")) (tVar 5)) (tCons (tDGet (tVar 1) (tVar 5)) tNil))) rfl scBK.nd (pi_keys (pv 1))
        (blkOk_by (own := [("one", 5)]) (N := nmBK) (sc := defScope sBentK) (by decide +kernel)) (fun _ _ _ _ _ => pg_name (i := 5) scBK.nd rfl (.inl rfl)) (fun _ _ _ _ _ => pts_nil) ?_
      intro _ _ _ _ _
      exact pe_tup (pa_cons (pe_ifExp (pt_cmpR op_eq (pv 5) (pv 2) (nomark _)) pe_str (pv 5)) (pa_cons (pe_dget (hu_of hr) (pv 1) (pv 5) (fun _ _ => rfl)) pa_nil))
    case lc4 =>
      refine pe_lc (own := [("one", 5)]) (g := gName 5) (tt := tYes) (te := tTup (tCons (tVar 5) (tCons (tC (.int 0)) tNil))) rfl scBK.nd (pi_keys (pv 1))
        (blkOk_by (own := [("one", 5)]) (N := nmBK) (sc := defScope sBentK) (by decide +kernel)) (fun _ _ _ _ _ => pg_name (i := 5) scBK.nd rfl (.inl rfl)) (fun _ _ _ _ _ => pts_nil) ?_
      intro _ _ _ _ _
      exact pe_tup (pa_cons (pv 5) (pa_cons pe_int pa_nil))
    case rd =>
      have knd := L.nodup hnd
      have klen := L.len
      obtain ⟨hs', hpp, hks⟩ := L.ks
      have keyAt : ∀ {i : Nat} {k' : Key} {v' : V}, kvs[i]? = some (k', v') → ∃ z ∈ hs', k' = Sum.inr z := fun {i k' v'} e => by
        have hm : k' ∈ kvs.map (·.1) := List.mem_map.mpr ⟨_, List.mem_of_getElem? e, rfl⟩
        rw [hks] at hm
        obtain ⟨z, hz, e⟩ := List.mem_map.mp hm
        exact ⟨z, hz, e.symm⟩
      obtain ⟨gp, gc⟩ := hS.neK hg
      have hl1 : 1 ≤ hs.length := List.length_pos_iff.mpr hne
      refine ⟨_, rfl, _, rfl, g, kvs, rfl, hg, fun lp hlp => ?_⟩
      have lpn := hS.ne hlp
      refine ⟨p, c, lp, n, _, rfl, hS.new hlp, by omega, lpn.1, lpn.2, .inl upd_same, by rw [List.length_map, klen]; omega, by rw [List.length_map, klen]; omega, fun hx j0 H0 hj0 kp0 s0 => ?_⟩
      rw [List.getElem?_map] at hj0
      obtain ⟨⟨k0, v0⟩, hi0, ek0⟩ := Option.map_eq_some_iff.mp hj0
      obtain ⟨z0, hz0, rfl⟩ := keyAt hi0
      obtain rfl : V.str z0 = hx := ek0
      have hm0 := List.mem_of_getElem? hi0
      have z0m : z0 ∈ hs := hpp.mem_iff.mp hz0
      have kpH0 : Kp p c H H0 := fun b o e h1 h2 => kp0 b o ((Evl.Ex.new hlp) b o e) h1 h2
      refine ⟨_, rfl, _, rfl, by show 1 ≤ sizeLine; decide, fun a1 ha1 => fun d1 hd1 => ⟨by show 7 ≤ sizeLine; decide, fun l0 hl0 => ?_⟩⟩
      have y1 := Evl.Ex.new (o := .lst [.int 1]) ha1
      have y2 := Evl.Ex.new (o := .dK []) hd1
      have y3 := Evl.Ex.new (o := .lst [V.non, .int (-1), .bl true, .str "1", .ref a1, .str "", .ref d1]) hl0
      have sB := s0.keep ((y1.trans y2).trans y3)
      have a1' := (y2.trans y3) _ _ (upd_same (H := H0) (a := a1) (o := .lst [.int 1]))
      have d1' := y3 _ _ (upd_same (a := d1) (o := .dK []))
      have l0' := upd_same (H := upd (upd H0 a1 (.lst [.int 1])) d1 (.dK [])) (a := l0) (o := .lst [V.non, .int (-1), .bl true, .str "1", .ref a1, .str "", .ref d1])
      obtain ⟨a1p, a1c⟩ := s0.ne ha1
      obtain ⟨d1p, d1c⟩ := (s0.keep y1).ne hd1
      obtain ⟨l0p, l0c⟩ := (s0.keep (y1.trans y2)).ne hl0
      have yB := (y1.trans y2).trans y3
      clear y1 y2 y3
      generalize upd (upd (upd H0 a1 (.lst [.int 1])) d1 (.dK [])) l0 (.lst [V.non, .int (-1), .bl true, .str "1", .ref a1, .str "", .ref d1]) = HB at sB a1' d1' l0' yB ⊢
      refine ⟨p, c, l0, n + 1, _, rfl, sB, by omega, l0p, l0c, .inl l0', by show 1 ≤ 7; omega, by show 7 < 1000000; omega, fun odd j H1 hj kp1 s1 => ?_⟩
      have kpH : Kp p c H H1 := fun b o e h1 h2 => kp1 b o (yB b o (kpH0 b o e h1 h2)) h1 h2
      have hodd : numV odd = false ∧ (∃ nm, Pl H1 odd nm) ∧ Shv H1 odd ∧ odd ≠ .ref p ∧ odd ≠ .ref c := by
        have hm := List.mem_of_getElem? hj
        simp only [List.mem_cons, List.not_mem_nil, or_false] at hm
        rcases hm with rfl | rfl | rfl | rfl | rfl | rfl | rfl
        · exact ⟨rfl, ⟨_, .non⟩, .inl rfl, by simp, by simp⟩
        · exact ⟨rfl, ⟨_, .int _⟩, .inl rfl, by simp, by simp⟩
        · exact ⟨rfl, ⟨_, .bl _⟩, .inl rfl, by simp, by simp⟩
        · exact ⟨rfl, ⟨_, .str _⟩, .inl rfl, by simp, by simp⟩
        · exact ⟨rfl, ⟨_, .lst (kp1 _ _ a1' a1p a1c)⟩, .inr (.inl ⟨a1, _, rfl, kp1 _ _ a1' a1p a1c, (fun z hz => by rw [List.mem_singleton.mp hz]; rfl), by show 1 ≤ 1000; decide⟩), fun z => a1p (V.ref.inj z), fun z => a1c (V.ref.inj z)⟩
        · exact ⟨rfl, ⟨_, .str _⟩, .inl rfl, by simp, by simp⟩
        · exact ⟨rfl, ⟨_, .dic (kp1 _ _ d1' d1p d1c)⟩, .inr (.inr ⟨d1, rfl, kp1 _ _ d1' d1p d1c⟩), fun z => d1p (V.ref.inj z), fun z => d1c (V.ref.inj z)⟩
      obtain ⟨hoddV, ⟨nmO, hoddP⟩, hoddS, oddp, oddc⟩ := hodd
      have g1 := kpH _ _ hg gp gc
      clear a1' d1' l0' sB kp1 yB kp0 kpH0 s0 hlp lpn
      refine ⟨by show 2 ≤ sizeLine; decide, fun tp htp => ?_⟩
      have xt := Evl.Ex.new (o := .tup [V.str z0, odd]) htp
      refine ⟨tp, _, rfl, SqT.of upd_same, rfl, _, _, rfl, _, _, rfl, rfl, ?_⟩
      have s1 := s1.keep xt
      have kpH : Kp p c H (upd H1 tp (.tup [V.str z0, odd])) := kpH.new htp
      have g1 := xt _ _ g1
      have hoddP := hoddP.ext xt
      have hoddS := hoddS.ex xt
      clear xt
      generalize upd H1 tp (.tup [V.str z0, odd]) = H1 at s1 kpH g1 hoddP hoddS ⊢
      refine ⟨_, rfl, g, kvs, rfl, g1, fun H2 La ts x2 hLa hts hLts hLa2 hP2 => fun e0 he0 => ?_⟩
      have xe := Evl.Ex.new (o := .dK []) he0
      have e0n := (s1.keep x2).ne he0
      have e0' : upd H2 e0 (.dK []) e0 = some (.dK []) := upd_same
      have hLa2 := xe _ _ hLa2
      have hP2 := Paired.mapP hP2 fun t q z => xe _ _ z
      have x2 := Evl.Ex.trans x2 xe
      generalize upd H2 e0 (.dK []) = H2 at x2 hLa2 hP2 e0' ⊢
      refine ⟨_, rfl, g, kvs, rfl, x2 _ _ g1, fun H3 Lb us x3 hLb hus hLus hLb2 hP3 => ?_⟩
      refine ⟨by show 2 ≤ sizeLine; decide, fun t2 ht2 => ⟨by show 1 ≤ sizeLine; decide, fun l3 hl3 => ?_⟩⟩
      have z2 := Evl.Ex.new (o := .tup [V.str "never", V.int 1]) ht2
      have z3 := Evl.Ex.new (o := .lst [V.ref t2]) hl3
      have t2' := z3 _ _ (upd_same (H := H3) (a := t2) (o := .tup [V.str "never", V.int 1]))
      have l3' := upd_same (H := upd H3 t2 (.tup [V.str "never", V.int 1])) (a := l3) (o := .lst [V.ref t2])
      have z := z2.trans z3
      clear z2 z3 ht2 hl3
      generalize upd (upd H3 t2 (.tup [V.str "never", V.int 1])) l3 (.lst [V.ref t2]) = H4 at z t2' l3' ⊢
      have usl : us.length = kvs.length := Paired.length hP3
      refine ⟨Lb, l3, _, _, rfl, rfl, z _ _ hLb2, l3', ?_, fun r hr => ?_⟩
      · rw [List.length_map, usl, klen]
        exact Nat.le_trans (show _ ≤ 31 by show hs.length + 1 ≤ 31; omega) (by decide)
      have zr := Evl.Ex.new (o := .lst (us.map V.ref ++ [V.ref t2])) hr
      have nnk : (Sum.inr "never" : Key) ∉ kvs.map (·.1) := fun hm => by
        rw [hks] at hm
        obtain ⟨q, hq, e⟩ := List.mem_map.mp hm
        have := hgd q (hpp.mem_iff.mp hq)
        rw [Sum.inr.inj e] at this
        exact absurd this (by decide +kernel)
      have nd1 : ((kvs ++ [((Sum.inr "never" : Key), V.int 1)]).map (·.1)).Nodup := by
        rw [List.map_append, List.nodup_append]
        refine ⟨knd, by simp, fun a ha b hb => ?_⟩
        obtain rfl := List.mem_singleton.mp hb
        exact fun e => nnk (by have e : a = (Sum.inr "never" : Key) := e; rw [← e]; exact ha)
      refine ⟨r, us ++ [t2], kvs ++ [((Sum.inr "never" : Key), V.int 1)], rfl, SqL.of (by rw [upd_same, List.map_append]; rfl), paired_app (Paired.mapP hP3 fun t kv h => SqT.of ((z.trans zr) _ _ h)) (.cons (SqT.of (zr _ _ t2')) .nil), fun d hd => ?_⟩
      rw [mergeK_new (kvs ++ [((Sum.inr "never" : Key), V.int 1)]) [] (by rw [List.nil_append]; exact nd1), List.nil_append]
      refine ⟨by show 6 ≤ sizeLine; decide, fun so hso => ?_⟩
      have zd := Evl.Ex.new (o := .dK (kvs ++ [((Sum.inr "never" : Key), V.int 1)])) hd
      have x1d := (Evl.Ex.trans x2 x3).trans (z.trans zr)
      have dne := (s1.keep x1d).ne hd
      have hsn := (s1.keep (x1d.trans zd)).ne hso
      have d6 : upd (upd H4 r (.lst (us.map V.ref ++ [V.ref t2]))) d (.dK (kvs ++ [((Sum.inr "never" : Key), V.int 1)])) d = some (.dK (kvs ++ [((Sum.inr "never" : Key), V.int 1)])) := upd_same
      have x16 := x1d.trans zd
      have x26 : Evl.Ex H2 (upd (upd H4 r (.lst (us.map V.ref ++ [V.ref t2]))) d (.dK (kvs ++ [((Sum.inr "never" : Key), V.int 1)]))) := (Evl.Ex.trans x3 (z.trans zr)).trans zd
      have La6 := x26 _ _ hLa2
      have e06 := x26 _ _ e0'
      have P6 := Paired.mapP hP2 fun t q w => x26 _ _ w
      clear x26
      generalize upd (upd H4 r (.lst (us.map V.ref ++ [V.ref t2]))) d (.dK (kvs ++ [((Sum.inr "never" : Key), V.int 1)])) = H6 at hso hsn d6 x16 La6 e06 P6 ⊢
      have zs := Evl.Ex.new (o := .lst [V.non, .int 5, .str "letters", .ref La, .ref e0, .ref d]) hso
      have x17 := x16.trans zs
      have Lane := s1.ne hLa
      have dso : d ≠ so := ne_of_none d6 hso
      have s6 := s1.keep x16
      have intS : ∀ {Hc : Hp} {q : Key × V}, q ∈ kvs → (∃ nm, Pl Hc q.2 nm) ∧ Shv Hc q.2 := fun {Hc q} hq => by
        obtain ⟨m, e⟩ := L.ns q hq
        rw [e]
        exact ⟨⟨_, .int _⟩, .inl rfl⟩
      have B0 : BSK H p c g so (n + 1 + 1) hs kvs odd [V.non, .int 5, .str "letters", .ref La, .ref e0, .ref d] (upd H6 so (.lst [V.non, .int 5, .str "letters", .ref La, .ref e0, .ref d])) := by
        have woT : ∀ {b : Addr} {vs : List V}, H6 b = some (.tup vs) → wo p c so H6 b = some (.tup vs) := fun {b vs} h => by
          obtain ⟨LL, cells, a, kk, m, h1, h2, _⟩ := s6
          exact wo_at h (fun w => by rw [w, h1] at h; cases h) (fun w => by rw [w, h2] at h; cases h) (ne_of_none h hso)
        refine ⟨s1.keep x17, fun b o e h1 h2 => x17 _ _ (kpH b o e h1 h2), ?_, hsn.1, hsn.2, upd_same, fun x hx => ?_, ?_, ?_, ?_⟩
        · cases q9 : H so with
          | none => rfl
          | some o =>
            have := x16 _ _ (kpH so o q9 hsn.1 hsn.2)
            rw [hso] at this
            cases this
        · rw [wo_upd]
          simp only [List.mem_cons, List.not_mem_nil, or_false] at hx
          rcases hx with rfl | rfl | rfl | rfl | rfl | rfl
          · exact ⟨none, .not .non rfl, rfl, .flat rfl⟩
          · exact ⟨none, .not (.int 5) rfl, rfl, .flat rfl⟩
          · exact ⟨none, .not (.str _) rfl, rfl, .flat rfl⟩
          · have w9 := wo_at La6 Lane.1 Lane.2 (ne_of_none La6 hso)
            exact ⟨none, .not (.lst w9) rfl, rfl, .items w9 (Paired.mapP P6 fun t q w => woT w) (fun q hq => by obtain ⟨m, e⟩ := L.ns q hq; rw [e]; rfl) (by omega)⟩
          · have w9 := wo_at e06 e0n.1 e0n.2 (ne_of_none e06 hso)
            exact ⟨some [], .dic w9 (fun q hq => by cases hq) (fun q hq => by cases hq) (Nat.zero_le _), bentK_len (by show 0 ≠ hs.length; omega), .dict w9 (fun q hq => by cases hq) (Nat.zero_le _)⟩
          · have w9 := wo_at d6 dne.1 dne.2 dso
            have nl : (kvs ++ [((Sum.inr "never" : Key), V.int 1)]).length = hs.length + 1 := by rw [List.length_append, klen]; rfl
            refine ⟨some _, .dic w9 (fun q hq => ?_) (fun q hq => ?_) (by omega), bentK_len (by omega), .dict w9 (fun q hq => ?_) (by omega)⟩
            · rcases List.mem_append.mp hq with hq | hq
              · exact (intS hq).1
              · rw [List.mem_singleton.mp hq]
                exact ⟨_, .int 1⟩
            · rcases List.mem_append.mp hq with hq | hq
              · obtain ⟨m, e⟩ := L.ns q hq
                rw [e]
                exact fun z => by cases z
              · rw [List.mem_singleton.mp hq]
                exact fun z => by cases z
            · rcases List.mem_append.mp hq with hq | hq
              · exact (intS hq).2
              · rw [List.mem_singleton.mp hq]
                exact .inl rfl
        · rw [wo_upd]
          exact wo_at (x16 _ _ g1) gp gc (ne_of_none (x16 _ _ g1) hso)
        · rw [wo_upd]
          have := hoddP.ext x16
          have o1 : odd ≠ .ref so := Pl.ne_new this hso
          have key : ∀ {a : Addr} {o : HO}, odd = .ref a → H6 a = some o → wo p c so H6 a = some o := fun {a o} hx h => wo_at h (fun z => oddp (by rw [hx, z])) (fun z => oddc (by rw [hx, z])) (fun z => o1 (by rw [hx, z]))
          refine ⟨nmO, ?_⟩
          cases this with
          | non => exact .non
          | bl b => exact .bl b
          | int i => exact .int i
          | str z => exact .str z
          | lst h => exact .lst (key rfl h)
          | tup h => exact .tup (key rfl h)
          | frt h => exact .frt (key rfl h)
          | dic h => exact .dic (key rfl h)
          | dct h => exact .dct (key rfl h)
        · rw [wo_upd]
          have o1 : odd ≠ .ref so := Pl.ne_new (hoddP.ext x16) hso
          have key : ∀ {a : Addr} {o : HO}, odd = .ref a → H6 a = some o → wo p c so H6 a = some o := fun {a o} hx h => wo_at h (fun z => oddp (by rw [hx, z])) (fun z => oddc (by rw [hx, z])) (fun z => o1 (by rw [hx, z]))
          rcases hoddS.ex x16 with h | ⟨cc, zs9, h1, h2, h3, h4⟩ | ⟨cc, h1, h2⟩
          · exact .inl h
          · exact .inr (.inl ⟨cc, zs9, h1, key h1 h2, h3, h4⟩)
          · exact .inr (.inr ⟨cc, h1, key h1 h2⟩)
      clear hso hsn d6 x16 La6 zs x17 dso dne zd hd zr hr z t2' l3' x1d e06 P6 s6
      generalize upd H6 so (.lst [V.non, .int 5, .str "letters", .ref La, .ref e0, .ref d]) = H7 at B0 ⊢
      have fin : ∀ {xs : List V} {m : Nat} {H' : Hp} {E' : XK}, BSK H p c g so m hs kvs odd xs H' → 1 ≤ xs.length → xs.length ≤ 100 → m + 1 ≤ n + 3 → spPick K [.ref p, .ref so] H' Q E' := fun {xs m H' E'} B h1 h2 h3 =>
        ⟨p, c, so, m, xs, rfl, B.str, by omega, B.np, B.nc, .inl B.at_, h1, by omega, fun x j H9 hx kp9 s9 => k x H9 ((B.bad x (List.mem_of_getElem? hx)).ex ((wo_kp kp9).trans wo_to)) (B.kp.trans kp9) (s9.mono h3)⟩
      have dget : ∀ {Hc H7 : Hp} {od : Obj}, Evl.Ex (upd Hc g (.frz od (.dK kvs))) H7 → ∀ {i : Nat} {k' : Key} {v' : V}, kvs[i]? = some (k', v') → DGet H7 g (kV k') (some v') := fun {Hc H7 od} x {i k' v'} e => by
        rw [← valk_at knd e]
        exact .inl ⟨_, _, .inr ⟨_, x _ _ upd_same⟩, rfl, rfl⟩
      have kvl : kvs.length ≤ 30 := by rw [klen]; exact h30
      refine ⟨_, rfl, .inl ⟨rfl, _, SqL.of B0.at_⟩, g, _, wo_to _ _ B0.g, trivial, fun od => ⟨_, rfl, g, od, rfl, .inl ⟨kvs, upd_same, fun D hD => ?_⟩⟩⟩
      refine lc_it (walk_keys (kvs := kvs)) (fun i H' => EIK (upd H7 g (.frz od (.dK kvs))) D ((kvs.take i).map (bk1 z0 odd)) H') ⟨Evl.Ex.new hD, [], upd_same, rfl, .nil⟩ (fun i H' _ hp => hp.1 _ _ upd_same) (fun i y H5 H6 hi hp hy => ?_) (fun H5 hp => ?_)
      · obtain ⟨rfl, k', v', hk, rfl⟩ := hy
        obtain ⟨z, hz, rfl⟩ := keyAt hk
        have tk : (kvs.take (i + 1)).map (bk1 z0 odd) = (kvs.take i).map (bk1 z0 odd) ++ [bk1 z0 odd ((Sum.inr z : Key), v')] := by rw [List.take_add_one, hk, List.map_append]; rfl
        rw [tk]
        have ol : ((kvs.take i).map (bk1 z0 odd)).length ≤ 1000 := by rw [List.length_map, List.length_take]; omega
        refine ⟨rfl, _, rfl, _, rfl, _, rfl, rfl, _, rfl, ?_⟩
        by_cases hzz : z = z0
        · refine ite2 (fun _ => ?_) (fun w9 => absurd (by simp [kV, hzz]) w9)
          rw [show bk1 z0 odd ((Sum.inr z : Key), v') = ((Sum.inr z : Key), odd) by unfold bk1; rw [if_pos (by rw [hzz])]]
          exact ⟨_, rfl, by show 2 ≤ sizeLine; decide, fun u hu => hp.push hD hu ol⟩
        · refine ite2 (fun w9 => absurd w9 (by simp [kV, hzz])) (fun _ => ?_)
          rw [show bk1 z0 odd ((Sum.inr z : Key), v') = ((Sum.inr z : Key), v') by unfold bk1; rw [if_neg (fun w => hzz (Sum.inr.inj w))]]
          exact ⟨_, rfl, _, rfl, g, _, rfl, dget hp.1 hk, by show 2 ≤ sizeLine; decide, fun u hu => hp.push hD hu ol⟩
      obtain ⟨x5, us5, e1, ul, e2⟩ := hp
      rw [List.take_length] at e2 ul
      have nd5 : ((kvs.map (bk1 z0 odd)).map (·.1)).Nodup := by rw [List.map_map]; exact knd
      refine ⟨D, us5, _, rfl, SqL.of e1, Paired.mapP e2 fun t q w => SqT.of w, fun d5 hd5 => ?_⟩
      rw [mergeK_new (kvs.map (bk1 z0 odd)) [] (by rw [List.nil_append]; exact nd5), List.nil_append]
      obtain ⟨H6, x6, hd6, hfz, hE⟩ := lock_outK (out := kvs.map (bk1 z0 odd)) (wo_to _ _ B0.g) x5 hd5
      refine ⟨hfz, ?_⟩
      rw [hE]
      have nd6 : so ≠ d5 := ne_of_none (x6 _ _ B0.at_) hd6
      refine ⟨so, _, .ref d5, rfl, rfl, by rw [upd_ne nd6]; exact x6 _ _ B0.at_, by show 6 < sizeLine; decide, ?_⟩
      have B1 := B0.app (out := kvs.map (bk1 z0 odd)) x6 hd6 (fun q hq => by
        obtain ⟨r9, hr9, rfl⟩ := List.mem_map.mp hq
        by_cases hc : r9.1 = Sum.inr z0
        · obtain ⟨⟨nm, ho⟩, hs9⟩ := B0.odd
          exact ⟨⟨nm, by show Pl _ (if _ then _ else _) _; rw [if_pos hc]; exact ho.ext (wo_ex x6)⟩, by show Shv _ (if _ then _ else _); rw [if_pos hc]; exact hs9.ex (wo_ex x6)⟩
        · obtain ⟨⟨nm, ho⟩, hs9⟩ := intS (Hc := wo p c so H6) hr9
          exact ⟨⟨nm, by show Pl _ (if _ then _ else _) _; rw [if_neg hc]; exact ho⟩, by show Shv _ (if _ then _ else _); rw [if_neg hc]; exact hs9⟩) (by rw [List.length_map]; omega) (bentK_val (p := (Sum.inr z0, odd)) (List.mem_map.mpr ⟨_, hm0, by unfold bk1; rw [if_pos rfl]⟩) hoddV)
      have dnn : ∃ dn, dn = d5 := ⟨_, rfl⟩
      obtain ⟨dn1, hdn⟩ := dnn
      rw [← hdn] at B1 ⊢
      generalize upd (upd H6 dn1 (.dK (kvs.map (bk1 z0 odd)))) so (.lst (([V.non, .int 5, .str "letters", .ref La, .ref e0, .ref d] ++ [.ref dn1]))) = HH1 at B1 ⊢
      clear hD e1 e2 ul x5 hd5 hd6 nd6 hE hfz nd5 x6 hdn
      refine ⟨_, rfl, .inl ⟨rfl, _, SqL.of B1.at_⟩, g, _, wo_to _ _ B1.g, trivial, fun od => ⟨_, rfl, g, od, rfl, .inl ⟨kvs, upd_same, fun D hD => ?_⟩⟩⟩
      refine lc_it (walk_keys (kvs := kvs)) (fun i H' => EIK (upd HH1 g (.frz od (.dK kvs))) D ((kvs.take i).filter fun q => decide (q.1 ≠ Sum.inr z0)) H') ⟨Evl.Ex.new hD, [], upd_same, rfl, .nil⟩ (fun i H' _ hp => hp.1 _ _ upd_same) (fun i y H5 H6 hi hp hy => ?_) (fun H5 hp => ?_)
      · obtain ⟨rfl, k', v', hk, rfl⟩ := hy
        obtain ⟨z, hz, rfl⟩ := keyAt hk
        have tk : (kvs.take (i + 1)).filter (fun q => decide (q.1 ≠ Sum.inr z0)) = (kvs.take i).filter (fun q => decide (q.1 ≠ Sum.inr z0)) ++ [((Sum.inr z : Key), v')].filter (fun q => decide (q.1 ≠ Sum.inr z0)) := by rw [List.take_add_one, hk, List.filter_append]; rfl
        rw [tk]
        have ol : ((kvs.take i).filter fun q => decide (q.1 ≠ Sum.inr z0)).length ≤ 1000 := Nat.le_trans (List.length_filter_le _ _) (by rw [List.length_take]; omega)
        refine ⟨rfl, _, rfl, _, rfl, rfl, _, rfl, ?_⟩
        by_cases hzz : z = z0
        · refine ite2 (fun w9 => absurd w9 (by simp [kV, hzz])) (fun _ => ?_)
          rw [show [((Sum.inr z : Key), v')].filter (fun q => decide (q.1 ≠ Sum.inr z0)) = [] by simp [hzz], List.append_nil]
          exact hp
        · refine ite2 (fun _ => ?_) (fun w9 => absurd (by simp [kV, hzz]) w9)
          rw [show [((Sum.inr z : Key), v')].filter (fun q => decide (q.1 ≠ Sum.inr z0)) = [((Sum.inr z : Key), v')] by simp [hzz]]
          exact ⟨_, rfl, _, rfl, _, rfl, g, _, rfl, dget hp.1 hk, by show 2 ≤ sizeLine; decide, fun u hu => hp.push hD hu ol⟩
      obtain ⟨x5, us5, e1, ul, e2⟩ := hp
      rw [List.take_length] at e2 ul
      have nd5 : ((kvs.filter fun q => decide (q.1 ≠ Sum.inr z0)).map (·.1)).Nodup := knd.sublist (List.filter_sublist.map _)
      refine ⟨D, us5, _, rfl, SqL.of e1, Paired.mapP e2 fun t q w => SqT.of w, fun d5 hd5 => ?_⟩
      rw [mergeK_new (kvs.filter fun q => decide (q.1 ≠ Sum.inr z0)) [] (by rw [List.nil_append]; exact nd5), List.nil_append]
      obtain ⟨H6, x6, hd6, hfz, hE⟩ := lock_outK (out := kvs.filter fun q => decide (q.1 ≠ Sum.inr z0)) (wo_to _ _ B1.g) x5 hd5
      refine ⟨hfz, ?_⟩
      rw [hE]
      have nd6 : so ≠ d5 := ne_of_none (x6 _ _ B1.at_) hd6
      refine ⟨so, _, .ref d5, rfl, rfl, by rw [upd_ne nd6]; exact x6 _ _ B1.at_, by show 7 < sizeLine; decide, ?_⟩
      have B2 := B1.app (out := kvs.filter fun q => decide (q.1 ≠ Sum.inr z0)) x6 hd6 (fun q hq => intS (List.mem_filter.mp hq).1) (Nat.le_trans (List.length_filter_le _ _) (by omega)) (bentK_len (by have := List.length_filter_lt_length_iff_exists (p := fun q : Key × V => decide (q.1 ≠ Sum.inr z0)) (l := kvs) |>.mpr ⟨_, hm0, by simp⟩; omega))
      have dnn : ∃ dn, dn = d5 := ⟨_, rfl⟩
      obtain ⟨dn2, hdn⟩ := dnn
      rw [← hdn] at B2 ⊢
      generalize upd (upd H6 dn2 (.dK (kvs.filter fun q => decide (q.1 ≠ Sum.inr z0)))) so (.lst ((([V.non, .int 5, .str "letters", .ref La, .ref e0, .ref d] ++ [.ref dn1]) ++ [.ref dn2]))) = HH2 at B2 ⊢
      clear hD e1 e2 ul x5 hd5 hd6 nd6 hE hfz nd5 x6 hdn
      refine ⟨_, rfl, .inl ⟨rfl, _, SqL.of B2.at_⟩, g, _, wo_to _ _ B2.g, trivial, fun od => ⟨_, rfl, g, od, rfl, .inl ⟨kvs, upd_same, fun D hD => ?_⟩⟩⟩
      refine lc_it (walk_keys (kvs := kvs)) (fun i H' => EIK (upd HH2 g (.frz od (.dK kvs))) D ((kvs.take i).map (bk3 z0)) H') ⟨Evl.Ex.new hD, [], upd_same, rfl, .nil⟩ (fun i H' _ hp => hp.1 _ _ upd_same) (fun i y H5 H6 hi hp hy => ?_) (fun H5 hp => ?_)
      · obtain ⟨rfl, k', v', hk, rfl⟩ := hy
        obtain ⟨z, hz, rfl⟩ := keyAt hk
        have tk : (kvs.take (i + 1)).map (bk3 z0) = (kvs.take i).map (bk3 z0) ++ [bk3 z0 ((Sum.inr z : Key), v')] := by rw [List.take_add_one, hk, List.map_append]; rfl
        rw [tk]
        have ol : ((kvs.take i).map (bk3 z0)).length ≤ 1000 := by rw [List.length_map, List.length_take]; omega
        refine ⟨rfl, _, rfl, _, rfl, rfl, _, rfl, ?_⟩
        by_cases hzz : z = z0
        · refine ite2 (fun _ => ?_) (fun w9 => absurd (by simp [kV, hzz]) w9)
          rw [show bk3 z0 ((Sum.inr z : Key), v') = ((Sum.inr "never" : Key), v') by unfold bk3; rw [if_pos (by rw [hzz])]]
          exact ⟨_, rfl, _, rfl, g, _, rfl, dget hp.1 hk, by show 2 ≤ sizeLine; decide, fun u hu => EIK.push (k := (Sum.inr "never" : Key)) (v := v') hp hD hu ol⟩
        · refine ite2 (fun w9 => absurd w9 (by simp [kV, hzz])) (fun _ => ?_)
          rw [show bk3 z0 ((Sum.inr z : Key), v') = ((Sum.inr z : Key), v') by unfold bk3; rw [if_neg (fun w => hzz (Sum.inr.inj w))]]
          exact ⟨_, rfl, _, rfl, _, rfl, g, _, rfl, dget hp.1 hk, by show 2 ≤ sizeLine; decide, fun u hu => hp.push hD hu ol⟩
      obtain ⟨x5, us5, e1, ul, e2⟩ := hp
      rw [List.take_length] at e2 ul
      have nd5 : ((kvs.map (bk3 z0)).map (·.1)).Nodup := by
        rw [List.map_map]
        have h1 : (kvs.map (·.1)).Pairwise (· ≠ ·) := knd
        rw [List.pairwise_map] at h1
        refine List.pairwise_map.mpr (List.Pairwise.imp_of_mem (fun {a b} ha hb hn => ?_) h1)
        show (if a.1 = Sum.inr z0 then (Sum.inr "never" : Key) else a.1) ≠ (if b.1 = Sum.inr z0 then (Sum.inr "never" : Key) else b.1)
        by_cases c1 : a.1 = Sum.inr z0
        · by_cases c2 : b.1 = Sum.inr z0
          · exact absurd (c1.trans c2.symm) hn
          · rw [if_pos c1, if_neg c2]
            exact fun z => nnk (by rw [z]; exact List.mem_map.mpr ⟨_, hb, rfl⟩)
        · by_cases c2 : b.1 = Sum.inr z0
          · rw [if_neg c1, if_pos c2]
            exact fun z => nnk (by rw [← z]; exact List.mem_map.mpr ⟨_, ha, rfl⟩)
          · rw [if_neg c1, if_neg c2]
            exact hn
      refine ⟨D, us5, _, rfl, SqL.of e1, Paired.mapP e2 fun t q w => SqT.of w, fun d5 hd5 => ?_⟩
      rw [mergeK_new (kvs.map (bk3 z0)) [] (by rw [List.nil_append]; exact nd5), List.nil_append]
      obtain ⟨H6, x6, hd6, hfz, hE⟩ := lock_outK (out := kvs.map (bk3 z0)) (wo_to _ _ B2.g) x5 hd5
      refine ⟨hfz, ?_⟩
      rw [hE]
      have nd6 : so ≠ d5 := ne_of_none (x6 _ _ B2.at_) hd6
      refine ⟨so, _, .ref d5, rfl, rfl, by rw [upd_ne nd6]; exact x6 _ _ B2.at_, by show 8 < sizeLine; decide, ?_⟩
      have B3 := B2.app (out := kvs.map (bk3 z0)) x6 hd6 (fun q hq => by
        obtain ⟨r9, hr9, rfl⟩ := List.mem_map.mp hq
        exact (show (∃ nm, Pl (wo p c so H6) r9.2 nm) ∧ Shv (wo p c so H6) r9.2 from intS hr9)) (by rw [List.length_map]; omega) (bentK_key z0m (fun hm => by
        rw [List.map_map] at hm
        obtain ⟨r9, hr9, e⟩ := List.mem_map.mp hm
        have e : (if r9.1 = Sum.inr z0 then (Sum.inr "never" : Key) else r9.1) = Sum.inr z0 := e
        by_cases c1 : r9.1 = Sum.inr z0
        · rw [if_pos c1] at e
          exact nnk (by rw [e, ← c1]; exact List.mem_map.mpr ⟨_, hr9, rfl⟩)
        · rw [if_neg c1] at e
          exact c1 e))
      have dnn : ∃ dn, dn = d5 := ⟨_, rfl⟩
      obtain ⟨dn3, hdn⟩ := dnn
      rw [← hdn] at B3 ⊢
      generalize upd (upd H6 dn3 (.dK (kvs.map (bk3 z0)))) so (.lst (((([V.non, .int 5, .str "letters", .ref La, .ref e0, .ref d] ++ [.ref dn1]) ++ [.ref dn2]) ++ [.ref dn3]))) = HH3 at B3 ⊢
      clear hD e1 e2 ul x5 hd5 hd6 nd6 hE hfz nd5 x6 hdn
      refine ⟨_, rfl, .inl ⟨rfl, _, SqL.of B3.at_⟩, g, _, wo_to _ _ B3.g, trivial, fun od => ⟨_, rfl, g, od, rfl, .inl ⟨kvs, upd_same, fun D hD => ?_⟩⟩⟩
      refine lc_it (walk_keys (kvs := kvs)) (fun i H' => EIK (upd HH3 g (.frz od (.dK kvs))) D ((kvs.take i).map bk4) H') ⟨Evl.Ex.new hD, [], upd_same, rfl, .nil⟩ (fun i H' _ hp => hp.1 _ _ upd_same) (fun i y H5 H6 hi hp hy => ?_) (fun H5 hp => ?_)
      · obtain ⟨rfl, k', v', hk, rfl⟩ := hy
        obtain ⟨z, hz, rfl⟩ := keyAt hk
        have tk : (kvs.take (i + 1)).map (bk4) = (kvs.take i).map (bk4) ++ [bk4 ((Sum.inr z : Key), v')] := by rw [List.take_add_one, hk, List.map_append]; rfl
        rw [tk]
        have ol : ((kvs.take i).map (bk4)).length ≤ 1000 := by rw [List.length_map, List.length_take]; omega
        exact ⟨rfl, _, rfl, by show 2 ≤ sizeLine; decide, fun u hu => hp.push hD hu ol⟩
      obtain ⟨x5, us5, e1, ul, e2⟩ := hp
      rw [List.take_length] at e2 ul
      have nd5 : ((kvs.map bk4).map (·.1)).Nodup := by rw [List.map_map]; exact knd
      refine ⟨D, us5, _, rfl, SqL.of e1, Paired.mapP e2 fun t q w => SqT.of w, fun d5 hd5 => ?_⟩
      rw [mergeK_new (kvs.map bk4) [] (by rw [List.nil_append]; exact nd5), List.nil_append]
      obtain ⟨H6, x6, hd6, hfz, hE⟩ := lock_outK (out := kvs.map bk4) (wo_to _ _ B3.g) x5 hd5
      refine ⟨hfz, ?_⟩
      rw [hE]
      have nd6 : so ≠ d5 := ne_of_none (x6 _ _ B3.at_) hd6
      refine ⟨so, _, .ref d5, rfl, rfl, by rw [upd_ne nd6]; exact x6 _ _ B3.at_, by show 9 < sizeLine; decide, ?_⟩
      have B4 := B3.app (out := kvs.map bk4) x6 hd6 (fun q hq => by
        obtain ⟨r9, hr9, rfl⟩ := List.mem_map.mp hq
        exact ⟨⟨_, .int 0⟩, .inl rfl⟩) (by rw [List.length_map]; omega) (bentK_zero (fun q hq => by obtain ⟨r9, _, rfl⟩ := List.mem_map.mp hq; rfl))
      exact ⟨_, rfl, _, rfl, fin (E' := fun _ _ _ => False) B4 (by show 1 ≤ 10; omega) (by show 10 ≤ 100; omega) (by omega)⟩
end
end K02

namespace K02
open PySem PySem.Spec PyProof.Rows L2 Tr Sq Dk Exs
/-! ### what is kept while the stream and the lambdas' table change -/
abbrev qlR : Str := "_law_refused_right" ++ ".<locals>." ++ "<lambda>"
section
variable {p c T : Addr} {H H' : Hp}
theorem wo_grow (e : Lm.Grow T H H') : Evl.Ex (wo p c T H) (wo p c T H') := fun b o h => by
  unfold wo at h ⊢
  split at h
  · cases h
  · rename_i z
    rw [if_neg z]
    exact e _ _ (fun q => z (.inr (.inr q))) h
end
theorem Kl.trans {H H1 H2 : Hp} (a : Kl H H1) (b : Kl H1 H2) : Kl H H2 := fun x o e n => b x o (a x o e n) n
theorem Kl.kp {p c : Addr} {n : Nat} {H H' : Hp} (hS : StrAt H p c n) (k : Kp p c H H') : Kl H H' := by
  obtain ⟨L, cells, a, kk, m, h1, h2, _⟩ := hS
  intro b o h nl
  refine k b o h (fun z => ?_) (fun z => ?_)
  · rw [z, h1] at h
    exact nl _ (Option.some.inj h).symm
  · rw [z, h2] at h
    exact nl _ (Option.some.inj h).symm
/-- the stream, the table, all else -/
structure Wd (mg : Str → Option Value) (T p c : Addr) (H0 : Hp) (n : Nat) (H : Hp) : Prop where
  str : StrAt H p c n
  tab : Lm.TabD mg [qlR] H T
  k : Evl.Ex (wo p c T H0) (wo p c T H)
section
variable {mg : Str → Option Value} {T p c : Addr} {H0 H H' : Hp} {n n' : Nat}
theorem Wd.pt (M : Wd mg T p c H0 n H) : ∃ ps, H T = some (.tbl ps) := by
  obtain ⟨ps, h, _⟩ := M.tab
  exact ⟨ps, h⟩
theorem Wd.get (M : Wd mg T p c H0 n H) {b : Addr} {o : HO} (h : wo p c T H0 b = some o) : H b = some o := wo_to _ _ (M.k _ _ h)
/-- what is new now is none of the kept ones -/
theorem Wd.ne (M : Wd mg T p c H0 n H) {b : Addr} (h : H b = none) : b ≠ p ∧ b ≠ c ∧ b ≠ T := by
  obtain ⟨ps, hp⟩ := M.pt
  obtain ⟨h1, h2⟩ := M.str.ne h
  exact ⟨h1, h2, fun z => by rw [z, hp] at h; cases h⟩
theorem Wd.ex (M : Wd mg T p c H0 n H) (e : Evl.Ex H H') : Wd mg T p c H0 n H' := ⟨M.str.keep e, tabD_kl _ M.tab (Kl.ex e), M.k.trans (wo_ex e)⟩
theorem Wd.kp (M : Wd mg T p c H0 n H) (e : Kp p c H H') (s : StrAt H' p c n') : Wd mg T p c H0 n' H' := ⟨s, tabD_kl _ M.tab (Kl.kp M.str e), M.k.trans (wo_kp e)⟩
theorem Wd.grow (M : Wd mg T p c H0 n H) (g : Lm.Grow T H H') (t : Lm.TabD mg [qlR] H' T) : Wd mg T p c H0 n H' := by
  obtain ⟨ps, hp⟩ := M.pt
  have ne_tl : ∀ {b : Addr} {xs : List V}, H b = some (.lst xs) → b ≠ T := fun {b xs} h z => by
    rw [z, hp] at h
    cases h
  obtain ⟨L, cells, a1, kk, m, s1, s2, r⟩ := M.str
  exact ⟨⟨L, cells, a1, kk, m, g _ _ (ne_tl s1) s1, g _ _ (ne_tl s2) s2, r⟩, t, M.k.trans (wo_grow g)⟩
theorem Wd.mut {F : Addr} {xs ys : List V} (M : Wd mg T p c H0 n H) (hF : H F = some (.lst xs)) (h1 : F ≠ p) (h2 : F ≠ c) (h3 : H0 F = none) : Wd mg T p c H0 n (upd H F (.lst ys)) := by
  refine ⟨M.str.upd h1 h2, tabD_kl _ M.tab (Kl.upd hF), fun b o h => ?_⟩
  have hb : b ≠ F := fun z => by
    have := wo_to _ _ h
    rw [z, h3] at this
    cases this
  have := M.k _ _ h
  unfold wo at this ⊢
  split at this
  · cases this
  · rename_i z
    rw [if_neg z, upd_ne hb]
    exact this
theorem Wd.start (s : StrAt H p c n) (t : Lm.TabD mg [qlR] H T) : Wd mg T p c H n H := ⟨s, t, fun _ _ h => h⟩
/-- an object that is new, kept from now on -/
theorem Wd.now (M : Wd mg T p c H0 n H) : Wd mg T p c H n H := .start M.str M.tab
theorem Wd.trans {H1 : Hp} (M : Wd mg T p c H0 n H1) (N : Wd mg T p c H1 n' H) : Wd mg T p c H0 n' H := ⟨N.str, N.tab, M.k.trans N.k⟩
end
end K02

namespace K02
open PySem PySem.Spec PyProof.Rows L2 Tr Sq Dk Dt Exs
/-! ### _law_ways_right -/
abbrev qlW : Str := "_law_ways_right" ++ ".<locals>." ++ "<lambda>"
abbrev nmWays : List Str := ["village", "houses", "paths", "letters", "one", "other", "due", "far", "found", "house"]
theorem scWays : FnScope nmWays ["village", "houses", "paths", "letters"] (defScope sWays) := ⟨rfl, rfl, rfl, by decide +kernel, rfl, by decide +kernel, by decide +kernel⟩
def spWays (mg : Str → Option Value) (C T : Addr) : Sp := fun vs H Q _ => ∃ (v l q lt : Addr) (hs0 hs : List Str) (qs : PrL) (ps : Prs) (m : VilD) (kvs : List (Key × V)) (fr : Str → Str → Option Str) (way : Str → Str → List Str), vs = [.ref v, .ref l, .ref q, .ref lt] ∧ Lm.TabD mg [qlW] H T ∧
  Vil (w1 T H) C v hs ps m ∧ w1 T H l = some (.lst (hs0.map V.str)) ∧ w1 T H q = some (.lst (refsL qs)) ∧ PrsAt (w1 T H) qs ∧ w1 T H lt = some (.dK kvs) ∧ isLet hs (some kvs) = true ∧ (∀ p ∈ kvs, ∃ i, p.2 = .int i) ∧ kvs.length ≤ 30 ∧
  Tree hs ps ∧ Ways hs ps fr way ∧ Tree hs (qs.map (·.2)) ∧ Ways hs (qs.map (·.2)) fr way ∧ (∀ x y, Adj ps x y ↔ Adj (qs.map (·.2)) x y) ∧ hs.Perm hs0 ∧ sortedS hs = true ∧ hs.length ≤ 12 ∧ qs.length ≤ 30 ∧ (∀ h ∈ hs, h ∈ names12) ∧
  ∀ H', Wt mg qlW T H H' → Q (.bl true) H'
section
variable {P : Program} {w : World} {K : PySem.W.Frag} {mg : Str → Option Value} {base : Heap}
theorem okCd {x qual : Str} {params : Arguments} {body : List Stmt} {scope : Scope} {dvs : List V} {kws : List (Str × V)} {f c : Addr} {fd : FuncData} {CX : CXT} {N ps : List Str} {k : Nat} {sp : Sp} (F : FunD K x qual params body scope dvs kws f fd) (hc : fd.code = .ref c) (S : FnScope N ps scope) (len : ∀ vs H Q E, sp vs H Q E → vs.length = ps.length)
    (hbody : ∀ (A : Around) (outer : List Env) (s : Shared) (H : Hp) (vs : List V) (Q : VK) (E : XK), Room k (A.deeper (envOfC qual scope s.heap.objs.size f (.ref c))) → sp vs H Q E →
      ∃ t, PSs (cxOf CX P w K mg base N qual scope f (.ref c) A outer s H E) body t ∧ t { nx := fun _ H' => Q .non H', rt := Q } (start N vs) H) : FnOk P w K mg base CX (k + 1) f fd ps sp := by
  obtain ⟨oc, od, dV, kV, doc, pm, an, cdv, ct, osl, rfl, lk, hcd, _, _⟩ := F.ex
  obtain rfl : cdv = .ref c := hc
  exact fn_of lk hcd S len fun A outer s H vs Q E hr hsp => hbody A outer s H vs Q E hr hsp
theorem strs_smX {H : Hp} {n : Nat} : ∀ l : List Str, Paired (Sm H (n + 1)) (l.map V.str) (l.map V.str)
  | [] => .nil
  | _ :: r => .cons (.inl ⟨rfl, rfl⟩) (strs_smX r)
/-- what is due of two houses -/
def DueW (T : Addr) (hs : List Str) (ps : Prs) (fr : Str → Str → Option Str) (kvs : List (Key × V)) (a b : Str) (t1 t2 : Addr) (H : Hp) : Prop :=
  (Adj ps a b ∧ ∃ fa, w1 T H t1 = some (.tup [.str "told", .ref fa]) ∧ w1 T H fa = some (.lst ((hs.filter (bey fr a b)).map V.str)) ∧ w1 T H t2 = some (.tup [.str "told", .int ((hs.filter (bey fr a b)).map (lcnt kvs)).sum])) ∨
  (¬ Adj ps a b ∧ ∃ pr, w1 T H t1 = some (.tup [.str "path", .ref pr]) ∧ w1 T H t2 = some (.tup [.str "path", .ref pr]) ∧ w1 T H pr = some (.tup [.str a, .str b]))
structure EnvW (P : Program) (w : World) (K : PySem.W.Frag) (mg : Str → Option Value) (base : Heap) (C CN CP CL : Addr) : Prop where
  way : ∃ f fd, mg "way" = some (.ref f) ∧ FnOk P w K mg base (L2.CX P w) 4 f fd ["village", "one", "other"] (spWayOf C CN) ∧ PySem.W.keepIn K (.ref f) = true ∧ L2.Binds K fd ["village", "one", "other"] []
  bey : ∃ f fd, mg "beyond" = some (.ref f) ∧ FnOk P w K mg base (L2.CX P w) 5 f fd ["village", "house", "other"] (spBeyOf C CN CP) ∧ PySem.W.keepIn K (.ref f) = true ∧ L2.Binds K fd ["village", "house", "other"] []
  letb : ∃ f fd, mg "letters_beyond" = some (.ref f) ∧ FnOk P w K mg base (L2.CX P w) 6 f fd ["village", "letters", "house", "other"] (spLetB C CN CP CL) ∧ PySem.W.keepIn K (.ref f) = true ∧ L2.Binds K fd ["village", "letters", "house", "other"] []
  same : ∃ f fd, mg "_law_same" = some (.ref f) ∧ (∀ n, FnOk P w K mg base CX0 n f fd ["found", "due"] (spSame n)) ∧ PySem.W.keepIn K (.ref f) = true ∧ L2.Binds K fd ["found", "due"] []
  vway : ∃ f fd, mg "_law_v_way" = some (.ref f) ∧ FnOk P w K mg base CX0 2 f fd ["paths", "one", "other"] spWay ∧ PySem.W.keepIn K (.ref f) = true ∧ L2.Binds K fd ["paths", "one", "other"] []
  vbes : ∃ f fd, mg "_law_v_beside" = some (.ref f) ∧ FnOk P w K mg base CX0 1 f fd ["paths", "house"] (spBes K) ∧ PySem.W.keepIn K (.ref f) = true ∧ L2.Binds K fd ["paths", "house"] []
  vbey : ∃ f fd, mg "_law_v_beyond" = some (.ref f) ∧ FnOk P w K mg base CX0 3 f fd ["houses", "paths", "house", "other"] spBeyond ∧ PySem.W.keepIn K (.ref f) = true ∧ L2.Binds K fd ["houses", "paths", "house", "other"] []
  met : ∃ f fd, mg "_law_met" = some (.ref f) ∧ FnP K "_law_met" sMet f fd
  e1 : ∃ f, Err P w K mg base "NoHouse" "thing" CN f
  e2 : ∃ f, Err2 P w K mg base "NoPath" "one" "other" CP f
  e3 : ∃ f, Err P w K mg base "BadLetters" "thing" CL f
  no1 : PySem.W.exmOne K (.ref CP) (.ref CN) = some false
  no2 : PySem.W.exmOne K (.ref CL) (.ref CN) = some false
  no3 : PySem.W.exmOne K (.ref CL) (.ref CP) = some false
  gSum : mg "sum" = none
theorem ok_ways {C CN CP CL f cL T : Addr} {fd : FuncData} (F : FnP K "_law_ways_right" sWays f fd) (hcode : fd.code = .ref cL) (TB : LamX.TabB base mg cL T) (D : EnvW P w K mg base C CN CP CL) : FnOk P w K mg base CX0 10 f fd ["village", "houses", "paths", "letters"] (spWays mg C T) := by
  obtain ⟨fW, fdW, gW, GW, kW, bW⟩ := D.way
  obtain ⟨fB, fdB, gB, GB, kB, bB⟩ := D.bey
  obtain ⟨fL, fdL, gL, GL, kL, bL⟩ := D.letb
  obtain ⟨fE, fdE, gE, GE, kE, bE⟩ := D.same
  obtain ⟨fV, fdV, gV, GV, kV', bV⟩ := D.vway
  obtain ⟨fS, fdS, gS, GS, kS, bS⟩ := D.vbes
  obtain ⟨fY, fdY, gY, GY, kY, bY⟩ := D.vbey
  obtain ⟨fM, fdM, gM, FM⟩ := D.met
  obtain ⟨_, T1⟩ := D.e1
  obtain ⟨_, T2⟩ := D.e2
  obtain ⟨_, T3⟩ := D.e3
  have no1 := D.no1
  have no2 := D.no2
  have no3 := D.no3
  have gSum := D.gSum
  have bM : L2.Binds K fdM ["ask"] [] := FM.bindsN fun _ _ _ _ _ _ us hl => match us, hl with | [_], _ => rfl
  have kM := FM.kp
  obtain ⟨ocM, odM, dVM, kVM, docM, pmM, anM, cdM, ctM', oslM, rfl, lkM, hcM, _, _⟩ := FM.ex
  refine okCd F hcode scWays (fun vs H Q E h => ?_) (fun A outer s H vs Q E hr h => ?_)
  · obtain ⟨v, l, q, lt, hs0, hs, qs, ps, m, kvs, fr, way, rfl, _⟩ := h
    rfl
  · obtain ⟨v, l, q, lt, hs0, hs, qs, ps, m, kvs, fr, way, rfl, hT, Vh, hl, hq, hP, hlt, hlet, hints, hk30, Tr, W, T0, W0, hadj, hperm, hsort, h12, q30, hgd, k⟩ := h
    refine' ⟨_, PSs.nox (pss_cons (ps_for PassesOwn.never rfl (pi_list (pv 1)) (pg_name (i := 4) scWays.nd rfl (.inr rfl))
        (pss_one (ps_for PassesOwn.never rfl (pi_list (pv 1)) (pg_name (i := 5) scWays.nd rfl (.inr rfl))
          (pss_cons (ps_expr (pe_bm PySem.F.plainAttrs_list PySem.F.slot_list_append PySem.F.type_list_append mt_append (pe_callS GW (hr.mono (by decide)) (by rfl) gW kW bW (fun σ => passAt takes0 σ) (pa_cons (pv 0) (pa_cons (pv 4) (pa_cons (pv 5) pa_nil)))) (pa_cons pe_str pa_nil)))
          (pss_cons (ps_if (pt_not (pt_val (pe_call (GE 2) (hr.mono (by decide)) (by rfl) gE kE bE .nil pass0 (pa_cons (pe_callS GW (hr.mono (by decide)) (by rfl) gW kW bW (fun σ => passAt takes0 σ) (pa_cons (pv 0) (pa_cons (pv 4) (pa_cons (pv 5) pa_nil)))) (pa_cons (pe_call GV (hr.mono (by decide)) (by rfl) gV kV' bV .nil pass0 (pa_cons (pv 2) (pa_cons (pv 4) (pa_cons (pv 5) pa_nil)))) pa_nil))))) (pss_one (ps_ret pe_bl)) pss_nil)
          (pss_cons (ps_set (i := 6) scWays.nd rfl (.inl rfl) (pe_op op_rep (pe_lst (pa_cons (pe_tup (pa_cons pe_str (pa_cons (pe_tup (pa_cons (pv 4) (pa_cons (pv 5) pa_nil))) pa_nil))) pa_nil)) pe_int))
          (Evl.pss_cut (ps_if (pt_cmpR op_in_seq (pv 5) (pe_call GS (hr.mono (by decide)) (by rfl) gS kS bS .nil pass0 (pa_cons (pv 2) (pa_cons (pv 4) pa_nil))) rfl)
            (pss_cons (ps_set (i := 7) scWays.nd rfl (.inl rfl) (pe_call GY (hr.mono (by decide)) (by rfl) gY kY bY .nil pass0 (pa_cons (pv 1) (pa_cons (pv 2) (pa_cons (pv 4) (pa_cons (pv 5) pa_nil))))))
            (pss_cons (ps_expr (pe_bm PySem.F.plainAttrs_list PySem.F.slot_list_append PySem.F.type_list_append mt_append (pe_callS GB (hr.mono (by decide)) (by rfl) gB kB bB (fun σ => passAt takes0 σ) (pa_cons (pv 0) (pa_cons (pv 4) (pa_cons (pv 5) pa_nil)))) (pa_cons pe_str pa_nil)))
            (pss_one (ps_set (i := 6) scWays.nd rfl (.inl rfl) (pe_lst (pa_cons (pe_tup (pa_cons pe_str (pa_cons (pv 7) pa_nil))) (pa_cons (pe_tup (pa_cons pe_str (pa_cons (pe_callB (cr_sum rfl) (by rfl) gSum (by decide +kernel) (pa_cons ?lc pa_nil)) pa_nil))) pa_nil))))))) pss_nil)
          (pss_cons (ps_set (i := 8) scWays.nd rfl (.inl rfl) (pe_lst (pa_cons ?m1 pa_nil)))
          (pss_cons (ps_expr (pe_bm PySem.F.plainAttrs_list PySem.F.slot_list_append PySem.F.type_list_append mt_append (pv 8) (pa_cons ?m2 pa_nil)))
          (pss_one (ps_if (pt_not (pt_val (pe_call (GE 5) (hr.mono (by decide)) (by rfl) gE kE bE .nil pass0 (pa_cons (pv 8) (pa_cons (pv 6) pa_nil))))) (pss_one (ps_ret pe_bl)) pss_nil)))))))))))
      (pss_one (ps_ret pe_bl))), ?rd⟩
    case lc =>
      refine pe_lc (own := [("house", 9)]) (g := gName 9) (tt := tYes) (te := tDGet (tVar 3) (tVar 9)) rfl scWays.nd (pi_list (pv 7))
        (blkOk_by (own := [("house", 9)]) (N := nmWays) (sc := defScope sWays) (by decide +kernel)) (fun _ _ _ _ _ => pg_name (i := 9) scWays.nd rfl (.inl rfl)) (fun _ _ _ _ _ => pts_nil) ?_
      intro _ _ _ _ _
      exact pe_dget (hu_of hr) (pv 3) (pv 9) (fun _ _ => rfl)
    case m1 =>
      exact Lm.pe_lamT (Pre := fun _ => True) (qs := []) (P := T) (lv := 5) (Ng := ["ask", "e"]) (t := fun E => tCallS (spBeyOf C CN CP) (WE fun cls d _ H => E cls d H) (tCons (tVar 0) (tCons (tVar 4) (tCons (tVar 5) tNil)))) (by rfl) gM kM lkM hcM bM scMet rfl (.inl rfl) (met_gives T1 T2 T3) (fun pins σ H s I _ => ⟨TB.code.keeps I.bk, TB.bm.keeps I.bk, TB.gP⟩) rfl (fun H H1 Y _ g hY t => True.intro) (hr.mono (by decide)) (LamX.lamS_by (sc := defScope sWays) (by decide +kernel)) rfl (fun _ _ _ _ _ => rfl)
        (fun A outer s H E f c' hr5 => pe_callS GB hr5 (by rfl) gB kB bB (fun σ => passAt (takes_of rfl rfl rfl rfl) σ) (pa_cons (pv 0) (pa_cons (pv 4) (pa_cons (pv 5) pa_nil))))
    case m2 =>
      exact Lm.pe_lamT (Pre := fun _ => True) (qs := []) (P := T) (lv := 6) (Ng := ["ask", "e"]) (t := fun E => tCallS (spLetB C CN CP CL) (WE fun cls d _ H => E cls d H) (tCons (tVar 0) (tCons (tVar 3) (tCons (tVar 4) (tCons (tVar 5) tNil))))) (by rfl) gM kM lkM hcM bM scMet rfl (.inl rfl) (met_gives T1 T2 T3) (fun pins σ H s I _ => ⟨TB.code.keeps I.bk, TB.bm.keeps I.bk, TB.gP⟩) rfl (fun H H1 Y _ g hY t => True.intro) (hr.mono (by decide)) (LamX.lamS_by (sc := defScope sWays) (by decide +kernel)) rfl (fun _ _ _ _ _ => rfl)
        (fun A outer s H E f c' hr5 => pe_callS GL hr5 (by rfl) gL kL bL (fun σ => passAt (takes_of rfl rfl rfl rfl) σ) (pa_cons (pv 0) (pa_cons (pv 3) (pa_cons (pv 4) (pa_cons (pv 5) pa_nil)))))
    case rd =>
      have hm0 : ∀ z, z ∈ hs0 ↔ z ∈ hs := fun z => hperm.mem_iff.symm
      have l0 : hs0.length = hs.length := hperm.length_eq.symm
      have vil : ∀ {Hk : Hp}, Evl.Ex (w1 T H) (w1 T Hk) → Vil Hk C v hs ps m := fun e => (Vh.ex e).ex w1_to
      refine ⟨_, rfl, l, rfl, ⟨_, SqL.of (w1_to _ _ hl)⟩, ?_⟩
      refine for_it (walk_list (xs := hs0.map V.str)) (fun _ σ H' => ∃ v4 v5 v6 v7 v8, σ = [some (.ref v), some (.ref l), some (.ref q), some (.ref lt), v4, v5, v6, v7, v8, none] ∧ Wt mg qlW T H H') ⟨_, _, _, _, _, rfl, .start hT⟩ ?_ ?_ ?_
      · rintro i σ H' _ ⟨_, _, _, _, _, rfl, M⟩
        exact SqL.of (M.get hl)
      · rintro i y σ H1 H2 hi ⟨v4, v5, v6, v7, v8, rfl, M1⟩ ⟨rfl, hy⟩
        rw [List.length_map] at hi
        obtain ⟨a, hha⟩ := getD_of hi
        rw [List.getElem?_map, hha] at hy
        cases hy
        have ha : a ∈ hs := (hm0 a).mp (List.mem_of_getElem? hha)
        refine ⟨_, rfl, l, rfl, ⟨_, SqL.of (M1.get hl)⟩, ?_⟩
        refine for_it (walk_list (xs := hs0.map V.str)) (fun _ σ H' => ∃ v5 v6 v7 v8, σ = [some (.ref v), some (.ref l), some (.ref q), some (.ref lt), some (.str a), v5, v6, v7, v8, none] ∧ Wt mg qlW T H H') ⟨_, _, _, _, rfl, M1⟩ ?_ ?_ ?_
        · rintro i σ H' _ ⟨_, _, _, _, rfl, M⟩
          exact SqL.of (M.get hl)
        · rintro i2 y σ H3 H4 hi2 ⟨v5, v6, v7, v8, rfl, M4⟩ ⟨rfl, hy⟩
          rw [List.length_map] at hi2
          obtain ⟨b, hhb⟩ := getD_of hi2
          rw [List.getElem?_map, hhb] at hy
          cases hy
          have hb : b ∈ hs := (hm0 b).mp (List.mem_of_getElem? hhb)
          have na : isHouse hs (.str a) = true := decide_eq_true ha
          have nb : isHouse hs (.str b) = true := decide_eq_true hb
          have nA : ∀ {X : Prop}, isHouse hs (.str a) = false → X := fun z => absurd (na.symm.trans z) (by simp)
          have nB : ∀ {X : Prop}, isHouse hs (.str b) = false → X := fun z => absurd (nb.symm.trans z) (by simp)
          have wlen := W.len Tr ha hb
          -- twice the way
          refine ⟨_, rfl, _, rfl, _, rfl, v, .str a, .str b, "str", "str", hs, ps, m, fr, way, rfl, vil M4.k, Tr, W, by omega, .str a, .str b, fun z => nA z, fun _ z => nB z, fun a' b' ea eb _ _ r1 H5 x5 hr1 hr1' => ?_⟩
          cases ea
          cases eb
          refine ⟨.inl ⟨rfl, _, SqL.of hr1'⟩, r1, _, _, rfl, rfl, hr1', by rw [List.length_map]; exact Nat.lt_of_le_of_lt (show _ ≤ 100 by omega) (by decide), ?_⟩
          have M6 := M4.ex (ex_upd (o := .lst ((way a b).map V.str ++ [V.str "late"])) x5 hr1)
          generalize upd H5 r1 (.lst ((way a b).map V.str ++ [V.str "late"])) = H6 at M6 ⊢
          refine ⟨_, rfl, _, rfl, _, rfl, v, .str a, .str b, "str", "str", hs, ps, m, fr, way, rfl, vil M6.k, Tr, W, by omega, .str a, .str b, fun z => nA z, fun _ z => nB z, fun a' b' ea eb _ _ r2 H7 x7 hr2 hr2' => ?_⟩
          cases ea
          cases eb
          have M7 := M6.ex x7
          refine ⟨_, rfl, _, rfl, _, rfl, q, a, b, qs, hs, fr, way, rfl, M7.get hq, (hP.ex M7.k).ex w1_to, T0, W0, ha, hb, by omega, q30, hgd, fun r3 H8 x8 hr3 hr3' => ?_⟩
          refine ⟨_, _, rfl, .inr (.inl ⟨r2, r3, _, _, rfl, rfl, x8 _ _ hr2', hr3', by rw [List.length_map]; omega, strs_smX _⟩), fun H9 x9 => ⟨_, rfl, iteF ?_⟩⟩
          have M9 := M7.ex (x8.trans x9)
          clear x5 hr1 hr1' x7 hr2 hr2' x8 hr3 hr3' x9 M7 M6
          -- what is due where there is no path
          refine ⟨_, rfl, _, rfl, by show 2 ≤ sizeLine; decide, fun pr hpr => ⟨by show 2 ≤ sizeLine; decide, fun t1 ht1 => ⟨by show 1 ≤ sizeLine; decide, fun l1 hl1 => ?_⟩⟩⟩
          refine ⟨l1, 2, _, rfl, rfl, upd_same, by decide, by decide, by show 1 * 2 ≤ sizeLine; decide, fun du hdu => ?_⟩
          have z1 := Evl.Ex.new (o := .tup [V.str a, .str b]) hpr
          have z2 := Evl.Ex.new (o := .tup [V.str "path", .ref pr]) ht1
          have z3 := Evl.Ex.new (o := .lst [V.ref t1]) hl1
          have z4 := Evl.Ex.new (o := .lst (List.replicate (Int.toNat 2) [V.ref t1]).flatten) hdu
          have prT := M9.ne hpr
          have t1T := (M9.ex z1).ne ht1
          have duT := (M9.ex ((z1.trans z2).trans z3)).ne hdu
          have pr' := w1_at (T := T) (((z2.trans z3).trans z4) _ _ upd_same) prT
          have t1' := w1_at (T := T) ((z3.trans z4) _ _ upd_same) t1T
          have du' : w1 T (upd (upd (upd (upd H9 pr (.tup [V.str a, .str b])) t1 (.tup [V.str "path", .ref pr])) l1 (.lst [V.ref t1])) du (.lst (List.replicate (Int.toNat 2) [V.ref t1]).flatten)) du = some (.lst [V.ref t1, .ref t1]) := w1_at upd_same duT
          have M10 := M9.ex (((z1.trans z2).trans z3).trans z4)
          generalize upd (upd (upd (upd H9 pr (.tup [V.str a, .str b])) t1 (.tup [V.str "path", .ref pr])) l1 (.lst [V.ref t1])) du (.lst (List.replicate (Int.toNat 2) [V.ref t1]).flatten) = H10 at M10 pr' t1' du' ⊢
          clear z1 z2 z3 z4 hpr ht1 hl1 hdu prT t1T duT M9
          refine ⟨fun σ' H' => ∃ (d2 t2 t3 : Addr) (v7 : Option V), σ' = [some (.ref v), some (.ref l), some (.ref q), some (.ref lt), some (.str a), some (.str b), some (.ref d2), v7, v8, none] ∧ Wt mg qlW T H H' ∧ w1 T H' d2 = some (.lst [.ref t2, .ref t3]) ∧ DueW T hs ps fr kvs a b t2 t3 H', ?_, ?_⟩
          · refine ⟨_, rfl, _, rfl, _, rfl, q, a, qs, rfl, M10.get hq, (hP.ex M10.k).ex w1_to, q30, fun r4 ys H11 x11 hr4 hr4' hys _ => ⟨r4, _, rfl, .inl (SqL.of hr4'), rfl, flat_strs _, _, rfl, ?_⟩⟩
            rw [in_strs]
            have M11 := M10.ex x11
            by_cases hab : Adj ps a b
            · have hab' := (hadj a b).mp hab
              refine ite2 (fun _ => ?_) (fun z => absurd (decide_eq_true (hys.mem_iff.mpr (besL_mem.mpr hab'))) z)
              refine ⟨_, rfl, _, rfl, _, rfl, _, rfl, l, q, a, b, hs0, qs, hs, fr, way, rfl, M11.get hl, M11.get hq, (hP.ex M11.k).ex w1_to, T0, W0, hab', by omega, q30, hgd, fun z hz => (hm0 z).mp hz, by omega, fun fa ys2 H12 x12 hfa hfa' hys2 hsr2 => ?_⟩
              obtain rfl : ys2 = hs.filter (bey fr a b) := sorted_one (sorted_pw hsr2) ((sorted_pw hsort).sublist List.filter_sublist) (hys2.trans (hperm.symm.filter _))
              have faT := M11.ne hfa
              have M12 := M11.ex x12
              have flen := List.length_filter_le (bey fr a b) hs
              refine ⟨_, rfl, _, rfl, _, rfl, v, .str a, .str b, "str", "str", hs, ps, m, fr, way, rfl, vil M12.k, Tr, W, by omega, .str a, .str b, fun z => nA z, fun _ z => nB z, fun a' b' ea eb _ _ hn => (by cases ea; cases eb; exact absurd hab hn), fun a' b' ea eb _ _ _ r5 H13 x13 hr5 hr5' => ?_⟩
              cases ea
              cases eb
              refine ⟨.inl ⟨rfl, _, SqL.of hr5'⟩, r5, _, _, rfl, rfl, hr5', by rw [List.length_map]; exact Nat.lt_of_le_of_lt (show _ ≤ 100 by omega) (by decide), ?_⟩
              have x14 := ex_upd (o := .lst ((hs.filter (bey fr a b)).map V.str ++ [V.str "late"])) x13 hr5
              have M14 := M12.ex x14
              have fa14 := x14 _ _ hfa'
              generalize upd H13 r5 (.lst ((hs.filter (bey fr a b)).map V.str ++ [V.str "late"])) = H14 at x14 M14 fa14 ⊢
              refine ⟨_, rfl, by show 2 ≤ sizeLine; decide, fun t2 ht2 => ?_⟩
              have t2T := M14.ne ht2
              have z1 := Evl.Ex.new (o := .tup [V.str "told", .ref fa]) ht2
              have t2' : upd H14 t2 (.tup [V.str "told", .ref fa]) t2 = some (.tup [V.str "told", .ref fa]) := upd_same
              have M15 := M14.ex z1
              have fa15 := z1 _ _ fa14
              generalize upd H14 t2 (.tup [V.str "told", .ref fa]) = H15 at z1 t2' M15 fa15 ⊢
              refine ⟨_, rfl, fa, rfl, ⟨_, SqL.of fa15⟩, fun L hL => ?_⟩
              have la15 := M15.get hlt
              refine lc_it (walk_list (xs := (hs.filter (bey fr a b)).map V.str)) (fun i H' => Evl.Ex H15 H' ∧ H' L = some (.lst ((((hs.filter (bey fr a b)).take i).map (lcnt kvs)).map V.int))) ⟨Evl.Ex.new hL, upd_same⟩ (fun i H' _ hp => SqL.of (hp.1 _ _ fa15)) (fun i z H16 H17 hi3 hp hy9 => ?_) (fun H16 hp => ?_)
              · obtain ⟨x3, e3⟩ := hp
                obtain ⟨rfl, hz⟩ := hy9
                rw [List.length_map] at hi3
                obtain ⟨h, hh⟩ := getD_of hi3
                rw [List.getElem?_map, hh] at hz
                cases hz
                have hm : h ∈ hs := (List.mem_filter.mp (List.mem_of_getElem? hh)).1
                have tk : (hs.filter (bey fr a b)).take (i + 1) = (hs.filter (bey fr a b)).take i ++ [h] := by rw [List.take_add_one, hh]; rfl
                have d1 : DGet H17 lt (kV (Sum.inr h)) (some (.int (lcnt kvs h))) := by
                  have := DGet.k (k := Sum.inr h) (x3 _ _ la15)
                  rw [let_at hlet hm] at this
                  exact this
                refine ⟨rfl, _, rfl, _, rfl, lt, _, rfl, d1, _, e3, ?_, ex_upd x3 hL, ?_⟩
                · rw [List.length_map, List.length_map, List.length_take]
                  exact Nat.lt_of_le_of_lt (show _ ≤ 30 by omega) (by decide)
                · rw [upd_same, tk, List.map_append, List.map_append]
                  rfl
              · obtain ⟨x3, e3⟩ := hp
                rw [List.length_map, List.take_length] at e3
                refine ⟨L, _, rfl, SqL.of e3, by show 2 ≤ sizeLine; decide, fun t3 ht3 => ⟨by show 2 ≤ sizeLine; decide, fun d2 hd2 => ?_⟩⟩
                have M16 := M15.ex x3
                have t3T := M16.ne ht3
                have z2 := Evl.Ex.new (o := .tup [V.str "told", .int ((hs.filter (bey fr a b)).map (lcnt kvs)).sum]) ht3
                have d2T := (M16.ex z2).ne hd2
                have z3 := Evl.Ex.new (o := .lst [V.ref t2, .ref t3]) hd2
                have zz := x3.trans (z2.trans z3)
                exact ⟨d2, t2, t3, _, rfl, M16.ex (z2.trans z3), w1_at upd_same d2T, .inl ⟨hab, fa, w1_at (zz _ _ t2') t2T, w1_at (zz _ _ fa15) faT, w1_at (z3 _ _ upd_same) t3T⟩⟩
            · refine ite2 (fun z => absurd ((hadj a b).mpr (besL_mem.mp (hys.mem_iff.mp (of_decide_eq_true z)))) hab) (fun _ => ?_)
              have wz := w1_ex (T := T) x11
              exact ⟨du, t1, t1, _, rfl, M11, wz _ _ du', .inr ⟨hab, pr, wz _ _ t1', wz _ _ t1', wz _ _ pr'⟩⟩
          · rintro σ' H11 ⟨d2, t2, t3, v7', rfl, M11, hd2, hdue⟩
            have dxl : ∀ {Hk : Hp}, Evl.Ex (w1 T H) (w1 T Hk) → DX Hk (.ref lt) (some kvs) := fun {Hk} e => .dic (w1_to _ _ (e _ _ hlt)) (fun q hq => by
              obtain ⟨j, ej⟩ := hints q hq
              rw [ej]
              exact ⟨_, .int _⟩) (fun q hq => by
              obtain ⟨j, ej⟩ := hints q hq
              rw [ej]
              exact fun z => by cases z) (by omega)
            have hlF : ∀ {X : Prop}, isLet hs (some kvs) = false → X := fun z => absurd (hlet.symm.trans z) (by simp)
            have M11n := M11.now
            refine ⟨trivial, M11.tab, fun H12 g12 T12 => ?_⟩
            have M12 := M11n.grow g12 T12
            rcases hdue with ⟨hab, fa, ht2, hfa, ht3⟩ | ⟨hab, pr2, ht2, ht3, hpr2⟩
            · refine ⟨_, rfl, _, rfl, _, rfl, v, .str a, .str b, "str", "str", hs, ps, m, fr, way, rfl, vil (M11.k.trans M12.k), Tr, W, by omega, .str a, .str b, fun z => nA z, fun _ z => nB z, fun a' b' ea eb _ _ hn => (by cases ea; cases eb; exact absurd hab hn), fun a' b' ea eb _ _ _ r5 H13 x13 hr5 hr5' => ?_⟩
              cases ea
              cases eb
              refine ⟨by show 2 ≤ sizeLine; decide, fun p1 hp1 => ⟨by show 1 ≤ sizeLine; decide, fun fo hfo => ?_⟩⟩
              have z1 := Evl.Ex.new (o := .tup [V.str "told", .ref r5]) hp1
              have z2 := Evl.Ex.new (o := .lst [V.ref p1]) hfo
              have p1' : upd (upd H13 p1 (.tup [V.str "told", .ref r5])) fo (.lst [V.ref p1]) p1 = some (.tup [V.str "told", .ref r5]) := z2 _ _ upd_same
              have fo' : upd (upd H13 p1 (.tup [V.str "told", .ref r5])) fo (.lst [V.ref p1]) fo = some (.lst [V.ref p1]) := upd_same
              have r5' := (z1.trans z2) _ _ hr5'
              have M14 := M12.ex (x13.trans (z1.trans z2))
              have foT := (M12.ex (x13.trans z1)).ne hfo
              have p1T := (M12.ex x13).ne hp1
              have r5T := M12.ne hr5
              have fo11 : H11 fo = none := by
                cases q9 : H11 fo with
                | none => rfl
                | some o =>
                  have := (x13.trans z1) _ _ (g12 _ _ foT q9)
                  rw [hfo] at this
                  cases this
              have r5fo : r5 ≠ fo := ne_of_none (z1 _ _ hr5') hfo
              have p1fo : p1 ≠ fo := ne_of_none upd_same hfo
              generalize upd (upd H13 p1 (.tup [V.str "told", .ref r5])) fo (.lst [V.ref p1]) = H14 at p1' fo' r5' M14 ⊢
              clear z1 z2 x13 hp1 hfo hr5 hr5'
              refine ⟨_, rfl, .inl ⟨rfl, _, SqL.of fo'⟩, trivial, M14.tab, fun H15 g15 T15 => ?_⟩
              have M15 := M14.grow g15 T15
              have fo15 := g15 _ _ foT fo'
              have p115 := g15 _ _ p1T p1'
              have r515 := g15 _ _ r5T r5'
              refine ⟨_, rfl, _, rfl, _, rfl, _, rfl, v, .ref lt, .str a, .str b, "str", "str", some kvs, hs, ps, m, fr, way, rfl, vil (M11.k.trans M15.k), Tr, W, by omega, dxl (M11.k.trans M15.k), .str a, .str b, fun z => hlF z, fun _ z => nA z, fun _ _ z => nB z, fun _ a' b' ea eb _ _ hn => (by cases ea; cases eb; exact absurd hab hn), fun kv' ek _ a' b' ea eb _ _ _ H16 x16 => ?_⟩
              cases ea
              cases eb
              cases ek
              refine ⟨by show 2 ≤ sizeLine; decide, fun p2 hp2 => ?_⟩
              have z3 := Evl.Ex.new (o := .tup [V.str "told", .int ((hs.filter (bey fr a b)).map (lcnt kvs)).sum]) hp2
              have x17 := x16.trans z3
              have M17 := M15.ex x17
              have fo17 := x17 _ _ fo15
              refine ⟨fo, [V.ref p1], .ref p2, rfl, rfl, fo17, by show 1 < sizeLine; decide, ?_⟩
              have M18 := M17.mut (ys := [V.ref p1] ++ [V.ref p2]) fo17 fo11
              have p2fo : p2 ≠ fo := fun z => by rw [z, x16 _ _ fo15] at hp2; cases hp2
              have p118 : upd (upd H16 p2 (.tup [V.str "told", .int ((hs.filter (bey fr a b)).map (lcnt kvs)).sum])) fo (.lst ([V.ref p1] ++ [V.ref p2])) p1 = some (.tup [V.str "told", .ref r5]) := by rw [upd_ne p1fo]; exact x17 _ _ p115
              have r518 : upd (upd H16 p2 (.tup [V.str "told", .int ((hs.filter (bey fr a b)).map (lcnt kvs)).sum])) fo (.lst ([V.ref p1] ++ [V.ref p2])) r5 = some (.lst ((hs.filter (bey fr a b)).map V.str)) := by rw [upd_ne r5fo]; exact x17 _ _ r515
              have p218 : upd (upd H16 p2 (.tup [V.str "told", .int ((hs.filter (bey fr a b)).map (lcnt kvs)).sum])) fo (.lst ([V.ref p1] ++ [V.ref p2])) p2 = some (.tup [V.str "told", .int ((hs.filter (bey fr a b)).map (lcnt kvs)).sum]) := by rw [upd_ne p2fo]; exact upd_same
              have fo18 : upd (upd H16 p2 (.tup [V.str "told", .int ((hs.filter (bey fr a b)).map (lcnt kvs)).sum])) fo (.lst ([V.ref p1] ++ [V.ref p2])) fo = some (.lst [V.ref p1, .ref p2]) := upd_same
              have flen := List.length_filter_le (bey fr a b) hs
              refine ⟨_, rfl, _, rfl, _, _, rfl, .inr (.inl ⟨fo, d2, _, _, rfl, rfl, fo18, M18.get hd2, by show 2 ≤ 1000; decide,
                .cons (.inr (.inr (.inl ⟨p1, t2, _, _, rfl, rfl, .inl p118, M18.get ht2, by show 2 ≤ 1000; decide, .cons (.inl ⟨rfl, rfl⟩) (.cons (.inr (.inl ⟨r5, fa, _, _, rfl, rfl, r518, M18.get hfa, by rw [List.length_map]; omega, strs_smX _⟩)) .nil)⟩)))
                (.cons (.inr (.inr (.inl ⟨p2, t3, _, _, rfl, rfl, .inl p218, M18.get ht3, by show 2 ≤ 1000; decide, .cons (.inl ⟨rfl, rfl⟩) (.cons (.inl ⟨rfl, rfl⟩) .nil)⟩))) .nil)⟩), fun H19 x19 => ⟨_, rfl, iteF ?_⟩⟩
              exact ⟨_, _, _, _, rfl, (M11.trans M18).ex x19⟩
            · refine ⟨_, rfl, _, rfl, _, rfl, v, .str a, .str b, "str", "str", hs, ps, m, fr, way, rfl, vil (M11.k.trans M12.k), Tr, W, by omega, .str a, .str b, fun z => nA z, fun _ z => nB z, fun a' b' ea eb _ _ hn d hd => ?_, fun a' b' ea eb _ _ hab9 => (by cases ea; cases eb; exact absurd hab9 hab)⟩
              refine metPath T2 no1 (H1 := H12) (fun H13 p1 q1 x13 hp1 hq1 hq1' hp1' => ?_) (fun _ _ z => z) hd
              refine ⟨by show 1 ≤ sizeLine; decide, fun fo hfo => ?_⟩
              have z2 := Evl.Ex.new (o := .lst [V.ref p1]) hfo
              have fo' : upd H13 fo (.lst [V.ref p1]) fo = some (.lst [V.ref p1]) := upd_same
              have p1fo : p1 ≠ fo := ne_of_none hp1' hfo
              have q1fo : q1 ≠ fo := ne_of_none hq1' hfo
              have p1' := z2 _ _ hp1'
              have q1' := z2 _ _ hq1'
              have M14 := M12.ex (x13.trans z2)
              have foT := (M12.ex x13).ne hfo
              have p1T := M12.ne hp1
              have q1T := M12.ne hq1
              have fo11 : H11 fo = none := by
                cases q9 : H11 fo with
                | none => rfl
                | some o =>
                  have := x13 _ _ (g12 _ _ foT q9)
                  rw [hfo] at this
                  cases this
              generalize upd H13 fo (.lst [V.ref p1]) = H14 at p1' q1' fo' M14 ⊢
              refine ⟨_, rfl, .inl ⟨rfl, _, SqL.of fo'⟩, trivial, M14.tab, fun H15 g15 T15 => ?_⟩
              have M15 := M14.grow g15 T15
              have fo15 := g15 _ _ foT fo'
              have p115 := g15 _ _ p1T p1'
              have q115 := g15 _ _ q1T q1'
              refine ⟨_, rfl, _, rfl, _, rfl, _, rfl, v, .ref lt, .str a, .str b, "str", "str", some kvs, hs, ps, m, fr, way, rfl, vil (M11.k.trans M15.k), Tr, W, by omega, dxl (M11.k.trans M15.k), .str a, .str b, fun z => hlF z, fun _ z => nA z, fun _ _ z => nB z, fun _ a' b' ea eb _ _ hn H' d e hd => ?_, fun kv' ek _ a' b' ea eb _ _ hab9 => (by cases ea; cases eb; exact absurd hab9 hab)⟩
              refine metPath T2 no1 (H1 := H15) (fun H16 p2 q2 x16 hp2 hq2 hq2' hp2' => ?_) e hd
              have M17 := M15.ex x16
              have fo17 := x16 _ _ fo15
              have p2fo : p2 ≠ fo := fun z => by rw [z, fo15] at hp2; cases hp2
              have q2fo : q2 ≠ fo := fun z => by rw [z, fo15] at hq2; cases hq2
              refine ⟨fo, [V.ref p1], .ref p2, rfl, rfl, fo17, by show 1 < sizeLine; decide, ?_⟩
              have M18 := M17.mut (ys := [V.ref p1] ++ [V.ref p2]) fo17 fo11
              have up : ∀ {b9 : Addr} {o : HO}, b9 ≠ fo → H16 b9 = some o → upd H16 fo (.lst ([V.ref p1] ++ [V.ref p2])) b9 = some o := fun h1 h2 => by rw [upd_ne h1]; exact h2
              have fo18 : upd H16 fo (.lst ([V.ref p1] ++ [V.ref p2])) fo = some (.lst [V.ref p1, .ref p2]) := upd_same
              refine ⟨_, rfl, _, rfl, _, _, rfl, .inr (.inl ⟨fo, d2, _, _, rfl, rfl, fo18, M18.get hd2, by show 2 ≤ 1000; decide,
                .cons (.inr (.inr (.inl ⟨p1, t2, _, _, rfl, rfl, .inl (up p1fo (x16 _ _ p115)), M18.get ht2, by show 2 ≤ 1000; decide, .cons (.inl ⟨rfl, rfl⟩) (.cons (.inr (.inr (.inl ⟨q1, pr2, _, _, rfl, rfl, .inl (up q1fo (x16 _ _ q115)), M18.get hpr2, by show 2 ≤ 1000; decide, .cons (.inl ⟨rfl, rfl⟩) (.cons (.inl ⟨rfl, rfl⟩) .nil)⟩))) .nil)⟩)))
                (.cons (.inr (.inr (.inl ⟨p2, t3, _, _, rfl, rfl, .inl (up p2fo hp2'), M18.get ht3, by show 2 ≤ 1000; decide, .cons (.inl ⟨rfl, rfl⟩) (.cons (.inr (.inr (.inl ⟨q2, pr2, _, _, rfl, rfl, .inl (up q2fo hq2'), M18.get hpr2, by show 2 ≤ 1000; decide, .cons (.inl ⟨rfl, rfl⟩) (.cons (.inl ⟨rfl, rfl⟩) .nil)⟩))) .nil)⟩))) .nil)⟩), fun H19 x19 => ⟨_, rfl, iteF ?_⟩⟩
              exact ⟨_, _, _, _, rfl, (M11.trans M18).ex x19⟩
        · rintro σ H3 ⟨v5, v6, v7, v8, rfl, M3⟩
          exact ⟨_, _, _, _, _, rfl, M3⟩
      · rintro σ H1 ⟨v4, v5, v6, v7, v8, rfl, M1⟩
        exact k H1 M1
end
end K02

namespace K02
open PySem PySem.Spec PyProof.Rows L2 Tr Sq Dk Dt Exs
/-! ### _law_refused_right -/
abbrev sRef : Stmt := top 55
abbrev nmRef : List Str := ["stream", "village", "houses", "letters", "k", "bent", "good", "odd", "found", "held"]
theorem scRef : FnScope nmRef ["stream", "village", "houses", "letters"] (defScope sRef) := ⟨rfl, rfl, rfl, by decide +kernel, rfl, by decide +kernel, by decide +kernel⟩
theorem grow_at {T : Addr} {H H' : Hp} (hT : ∃ ps, H T = some (.tbl ps)) (g : Lm.Grow T H H') {b : Addr} {o : HO} (h : H b = some o) (n : ∀ ps, o ≠ .tbl ps) : H' b = some o := by
  obtain ⟨ps, hp⟩ := hT
  exact g _ _ (fun z => by rw [z, hp] at h; exact n _ (Option.some.inj h).symm) h
theorem Pl.growT {T : Addr} {H H' : Hp} (hT : ∃ ps, H T = some (.tbl ps)) (g : Lm.Grow T H H') {x : V} {n : String} (h : Pl H x n) : Pl H' x n := by
  cases h with
  | non => exact .non
  | bl b => exact .bl b
  | int i => exact .int i
  | str z => exact .str z
  | lst h => exact .lst (grow_at hT g h fun ps z => by cases z)
  | tup h => exact .tup (grow_at hT g h fun ps z => by cases z)
  | frt h => exact .frt (grow_at hT g h fun ps z => by cases z)
  | dic h => exact .dic (grow_at hT g h fun ps z => by cases z)
  | dct h => exact .dct (grow_at hT g h fun ps z => by cases z)
theorem Shv.growT {T : Addr} {H H' : Hp} (hT : ∃ ps, H T = some (.tbl ps)) (g : Lm.Grow T H H') {v : V} (h : Shv H v) : Shv H' v := by
  rcases h with h | ⟨c, zs, h1, h2, h3, h4⟩ | ⟨c, h1, h2⟩
  · exact .inl h
  · exact .inr (.inl ⟨c, zs, h1, grow_at hT g h2 (fun ps z => by cases z), h3, h4⟩)
  · exact .inr (.inr ⟨c, h1, grow_at hT g h2 (fun ps z => by cases z)⟩)
theorem Shp.growT {T : Addr} {H H' : Hp} (hT : ∃ ps, H T = some (.tbl ps)) (g : Lm.Grow T H H') {x : V} (h : Shp H x) : Shp H' x := by
  cases h with
  | flat h => exact .flat h
  | items h hp hf hl => exact .items (grow_at hT g h fun ps z => by cases z) (Paired.mapP hp fun t q z => grow_at hT g z fun ps z => by cases z) hf hl
  | dict h hv hl => exact .dict (grow_at hT g h fun ps z => by cases z) (fun q hq => (hv q hq).growT hT g) hl
theorem DX.growT {T : Addr} {H H' : Hp} (hT : ∃ ps, H T = some (.tbl ps)) (g : Lm.Grow T H H') {x : V} {o : Option (List (Key × V))} (h : DX H x o) : DX H' x o := by
  cases h with
  | dic h hi hn hl => exact .dic (grow_at hT g h fun ps z => by cases z) (fun q hq => (hi q hq).imp fun n z => z.growT hT g) hn hl
  | not h hn => exact .not (h.growT hT g) hn
theorem shp_sm {H : Hp} {x : V} (h : Shp H x) : Sm H 8 x x := by
  cases h with
  | flat h => exact flat_sm h
  | @items a ts ks h hp hf hl => exact .inr (.inl ⟨a, a, _, _, rfl, rfl, h, h, by rw [List.length_map, Paired.length hp]; exact hl, items_sm (m := 5) (fun _ _ z => z) (fun q hq => .inl (hf q hq)) hp hp⟩)
  | @dict a ks h hv hl => exact .inr (.inr (.inr (.inl ⟨a, a, ks, rfl, rfl, h, h, (fun q hq => .inr ⟨by decide, hv q hq⟩), hl, by decide⟩)))
/-- what was found so far: refusals of one house -/
structure FO (mg : Str → Option Value) (T p c : Addr) (Hb : Hp) (n : Nat) (u : V) (fo : Addr) (rs : List Addr) (Hc : Hp) : Prop where
  w : Wd mg T p c Hb n Hc
  nw : Hb fo = none
  np : fo ≠ p
  nc : fo ≠ c
  nT : fo ≠ T
  at_ : Hc fo = some (.lst (rs.map V.ref))
  el : ∀ r ∈ rs, Hc r = some (.tup [.str "house", u])
theorem FO.grow {mg : Str → Option Value} {T p c : Addr} {Hb Hc H' : Hp} {n : Nat} {u : V} {fo : Addr} {rs : List Addr} (F : FO mg T p c Hb n u fo rs Hc) (g : Lm.Grow T Hc H') (t : Lm.TabD mg [qlR] H' T) : FO mg T p c Hb n u fo rs H' :=
  ⟨F.w.grow g t, F.nw, F.np, F.nc, F.nT, g _ _ F.nT F.at_, fun r hr => grow_at F.w.pt g (F.el r hr) fun ps z => by cases z⟩
theorem FO.ex {mg : Str → Option Value} {T p c : Addr} {Hb Hc H' : Hp} {n : Nat} {u : V} {fo : Addr} {rs : List Addr} (F : FO mg T p c Hb n u fo rs Hc) (e : Evl.Ex Hc H') : FO mg T p c Hb n u fo rs H' :=
  ⟨F.w.ex e, F.nw, F.np, F.nc, F.nT, e _ _ F.at_, fun r hr => e _ _ (F.el r hr)⟩
theorem FO.app {mg : Str → Option Value} {T p c : Addr} {Hb Hc : Hp} {n : Nat} {u : V} {fo r : Addr} {rs : List Addr} (F : FO mg T p c Hb n u fo rs Hc) (hr : Hc r = some (.tup [.str "house", u])) : FO mg T p c Hb n u fo (rs ++ [r]) (upd Hc fo (.lst (rs.map V.ref ++ [.ref r]))) := by
  have up : ∀ {b : Addr} {vs : List V}, Hc b = some (.tup vs) → upd Hc fo (.lst (rs.map V.ref ++ [.ref r])) b = some (.tup vs) := fun {b vs} h => by
    rw [upd_ne (fun z => by rw [z, F.at_] at h; cases h)]
    exact h
  refine ⟨F.w.mut F.at_ F.np F.nc F.nw, F.nw, F.np, F.nc, F.nT, by rw [upd_same, List.map_append]; rfl, fun x hx => ?_⟩
  rcases List.mem_append.mp hx with hx | hx
  · exact up (F.el x hx)
  · rw [List.mem_singleton.mp hx]
    exact up hr
structure EnvR (P : Program) (w : World) (K : PySem.W.Frag) (mg : Str → Option Value) (base : Heap) (C CN CP CL : Addr) : Prop where
  e : EnvW P w K mg base C CN CP CL
  bent : ∃ f fd, mg "_law_bent" = some (.ref f) ∧ FnOk P w K mg base CX0 3 f fd ["stream", "given"] (spBentK K) ∧ PySem.W.keepIn K (.ref f) = true ∧ L2.Binds K fd ["stream", "given"] []
  isl : ∃ f fd, mg "is_letters" = some (.ref f) ∧ FnOk P w K mg base CX0 4 f fd ["village", "thing"] (spIsLet C) ∧ PySem.W.keepIn K (.ref f) = true ∧ L2.Binds K fd ["village", "thing"] []
  gRange : mg "range" = none
def spRef (mg : Str → Option Value) (C T : Addr) : Sp := fun vs H Q _ => ∃ (p c v l lt : Addr) (n : Nat) (hs0 hs : List Str) (ps : Prs) (m : VilD) (kvs : List (Key × V)) (fr : Str → Str → Option Str) (way : Str → Str → List Str), vs = [.ref p, .ref v, .ref l, .ref lt] ∧ Wd mg T p c H n H ∧ n + 9 ≤ 1000000000 ∧
  Vil (wo p c T H) C v hs ps m ∧ wo p c T H l = some (.lst (hs0.map V.str)) ∧ wo p c T H lt = some (.dK kvs) ∧ LedK hs kvs ∧ isLet hs (some kvs) = true ∧ Tree hs ps ∧ Ways hs ps fr way ∧ hs.Perm hs0 ∧ hs ≠ [] ∧ hs.length ≤ 12 ∧ (∀ h ∈ hs, h ∈ names12) ∧
  ∀ H', Wd mg T p c H (n + 9) H' → Q (.bl true) H'
section
variable {P : Program} {w : World} {K : PySem.W.Frag} {mg : Str → Option Value} {base : Heap}
theorem ok_ref {C CN CP CL f cL T : Addr} {fd : FuncData} (F : FnP K "_law_refused_right" sRef f fd) (hcode : fd.code = .ref cL) (TB : LamX.TabB base mg cL T) (D : EnvR P w K mg base C CN CP CL) : FnOk P w K mg base CX0 10 f fd ["stream", "village", "houses", "letters"] (spRef mg C T) := by
  obtain ⟨fW, fdW, gW, GW, kW, bW⟩ := D.e.way
  obtain ⟨fB, fdB, gB, GB, kB, bB⟩ := D.e.bey
  obtain ⟨fL, fdL, gL, GL, kL, bL⟩ := D.e.letb
  obtain ⟨fE, fdE, gE, GE, kE, bE⟩ := D.e.same
  obtain ⟨fU, fdU, gU, GU, kU, bU⟩ := D.bent
  obtain ⟨fI, fdI, gI, GI, kI, bI⟩ := D.isl
  obtain ⟨fM, fdM, gM, FM⟩ := D.e.met
  obtain ⟨_, T1⟩ := D.e.e1
  obtain ⟨_, T2⟩ := D.e.e2
  obtain ⟨_, T3⟩ := D.e.e3
  have no1 := D.e.no1
  have no2 := D.e.no2
  have no3 := D.e.no3
  have gRg := D.gRange
  have bM : L2.Binds K fdM ["ask"] [] := FM.bindsN fun _ _ _ _ _ _ us hl => match us, hl with | [_], _ => rfl
  have kM := FM.kp
  obtain ⟨ocM, odM, dVM, kVM, docM, pmM, anM, cdM, ctM', oslM, rfl, lkM, hcM, _, _⟩ := FM.ex
  refine okCd F hcode scRef (fun vs H Q E h => ?_) (fun A outer s H vs Q E hr h => ?_)
  · obtain ⟨p, c, v, l, lt, n, hs0, hs, ps, m, kvs, fr, way, rfl, _⟩ := h
    rfl
  · obtain ⟨p, c, v, l, lt, n, hs0, hs, ps, m, kvs, fr, way, rfl, M0, hn, Vh, hl, hlt, L, hlet, Tr, W, hperm, hne, h12, hgd, k⟩ := h
    refine' ⟨_, PSs.nox (pss_cons (ps_for PassesOwn.never rfl (pi_range1 (by rfl) gRg (pa_cons pe_int pa_nil)) (pg_name (i := 4) scRef.nd rfl (.inl rfl))
        (pss_cons (ps_set (i := 5) scRef.nd rfl (.inr rfl) (pe_call GU (hr.mono (by decide)) (by rfl) gU kU bU .nil pass0 (pa_cons (pv 0) (pa_cons (pv 3) pa_nil))))
        (pss_cons (ps_if (pt_not (pt_val (pe_call (GE 2) (hr.mono (by decide)) (by rfl) gE kE bE .nil pass0 (pa_cons (pe_lst (pa_cons (pe_call GI (hr.mono (by decide)) (by rfl) gI kI bI .nil pass0 (pa_cons (pv 1) (pa_cons (pv 5) pa_nil))) pa_nil)) (pa_cons (pe_lst (pa_cons pe_bl pa_nil)) pa_nil))))) (pss_one (ps_ret pe_bl)) pss_nil)
        (pss_one (ps_if (pt_not (pt_val (pe_call (GE 9) (hr.mono (by decide)) (by rfl) gE kE bE .nil pass0 (pa_cons ?m1 (pa_cons (pe_tup (pa_cons pe_str (pa_cons (pv 5) pa_nil))) pa_nil))))) (pss_one (ps_ret pe_bl)) pss_nil)))))
      (pss_cons (ps_set (i := 6) scRef.nd rfl (.inr rfl) (pe_ix ix_list (pv 2) pe_int (fun _ _ => rfl)))
      (pss_cons (ps_for PassesOwn.never rfl (pi_tup (pe_tup (pa_cons pe_str (pa_cons pe_str (pa_cons pe_non (pa_cons pe_int (pa_cons pe_bl (pa_cons (pe_lst pa_nil) (pa_cons pe_dnewK pa_nil))))))))) (pg_name (i := 7) scRef.nd rfl (.inr rfl))
        (pss_cons (ps_set (i := 8) scRef.nd rfl (.inl rfl) (pe_lst (pa_cons ?m2 pa_nil)))
        (pss_cons (ps_expr (pe_bm PySem.F.plainAttrs_list PySem.F.slot_list_append PySem.F.type_list_append mt_append (pv 8) (pa_cons ?m3 pa_nil)))
        (pss_cons (ps_expr (pe_bm PySem.F.plainAttrs_list PySem.F.slot_list_append PySem.F.type_list_append mt_append (pv 8) (pa_cons ?m4 pa_nil)))
        (pss_cons (ps_expr (pe_bm PySem.F.plainAttrs_list PySem.F.slot_list_append PySem.F.type_list_append mt_append (pv 8) (pa_cons ?m5 pa_nil)))
        (pss_cons (ps_expr (pe_bm PySem.F.plainAttrs_list PySem.F.slot_list_append PySem.F.type_list_append mt_append (pv 8) (pa_cons ?m6 pa_nil)))
        (pss_cons (ps_expr (pe_bm PySem.F.plainAttrs_list PySem.F.slot_list_append PySem.F.type_list_append mt_append (pv 8) (pa_cons ?m7 pa_nil)))
        (pss_one (ps_if (pt_not (pt_val (pe_call (GE 6) (hr.mono (by decide)) (by rfl) gE kE bE .nil pass0 (pa_cons (pv 8) (pa_cons (pe_op op_rep (pe_lst (pa_cons (pe_tup (pa_cons pe_str (pa_cons (pv 7) pa_nil))) pa_nil)) pe_int) pa_nil))))) (pss_one (ps_ret pe_bl)) pss_nil)))))))))
      (pss_cons (ps_set (i := 9) scRef.nd rfl (.inr rfl) (pe_lst (pa_cons (pv 6) pa_nil)))
      (pss_cons (ps_set (i := 8) scRef.nd rfl (.inl rfl) ?m8)
      (pss_cons (ps_expr (pe_bm PySem.F.plainAttrs_list PySem.F.slot_list_append PySem.F.type_list_append mt_append (pv 9) (pa_cons pe_str pa_nil)))
      (pss_one (ps_ret (pe_call (GE 5) (hr.mono (by decide)) (by rfl) gE kE bE .nil pass0 (pa_cons (pv 8) (pa_cons (pe_tup (pa_cons pe_str (pa_cons (pe_lst (pa_cons (pv 6) (pa_cons pe_str pa_nil))) pa_nil))) pa_nil))))))))))), ?rd⟩
    case m1 =>
      exact Lm.pe_lamT (Pre := fun _ => True) (qs := []) (P := T) (lv := 6) (Ng := ["ask", "e"]) (t := fun E => tCallS (spLetB C CN CP CL) (WE fun cls d _ H => E cls d H) (tCons (tVar 1) (tCons (tVar 5) (tCons (tC .non) (tCons (tC .non) tNil))))) (by rfl) gM kM lkM hcM bM scMet rfl (.inl rfl) (met_gives T1 T2 T3) (fun pins σ H s I _ => ⟨TB.code.keeps I.bk, TB.bm.keeps I.bk, TB.gP⟩) rfl (fun H H1 Y _ g hY t => True.intro) (hr.mono (by decide)) (LamX.lamS_by (sc := defScope sRef) (by decide +kernel)) rfl (fun _ _ _ _ _ => rfl)
        (fun A outer s H E f c' hr5 => pe_callS GL hr5 (by rfl) gL kL bL (fun σ => passAt (takes_of rfl rfl rfl rfl) σ) (pa_cons (pv 1) (pa_cons (pv 5) (pa_cons pe_non (pa_cons pe_non pa_nil)))))
    case m2 =>
      exact Lm.pe_lamT (Pre := fun _ => True) (qs := []) (P := T) (lv := 4) (Ng := ["ask", "e"]) (t := fun E => tCallS (spWayOf C CN) (WE fun cls d _ H => E cls d H) (tCons (tVar 1) (tCons (tVar 7) (tCons (tC .non) tNil)))) (by rfl) gM kM lkM hcM bM scMet rfl (.inl rfl) (met_gives T1 T2 T3) (fun pins σ H s I _ => ⟨TB.code.keeps I.bk, TB.bm.keeps I.bk, TB.gP⟩) rfl (fun H H1 Y _ g hY t => True.intro) (hr.mono (by decide)) (LamX.lamS_by (sc := defScope sRef) (by decide +kernel)) rfl (fun _ _ _ _ _ => rfl)
        (fun A outer s H E f c' hr5 => pe_callS GW hr5 (by rfl) gW kW bW (fun σ => passAt (takes_of rfl rfl rfl rfl) σ) (pa_cons (pv 1) (pa_cons (pv 7) (pa_cons pe_non pa_nil))))
    case m3 =>
      exact Lm.pe_lamT (Pre := fun _ => True) (qs := []) (P := T) (lv := 4) (Ng := ["ask", "e"]) (t := fun E => tCallS (spWayOf C CN) (WE fun cls d _ H => E cls d H) (tCons (tVar 1) (tCons (tVar 6) (tCons (tVar 7) tNil)))) (by rfl) gM kM lkM hcM bM scMet rfl (.inl rfl) (met_gives T1 T2 T3) (fun pins σ H s I _ => ⟨TB.code.keeps I.bk, TB.bm.keeps I.bk, TB.gP⟩) rfl (fun H H1 Y _ g hY t => True.intro) (hr.mono (by decide)) (LamX.lamS_by (sc := defScope sRef) (by decide +kernel)) rfl (fun _ _ _ _ _ => rfl)
        (fun A outer s H E f c' hr5 => pe_callS GW hr5 (by rfl) gW kW bW (fun σ => passAt (takes_of rfl rfl rfl rfl) σ) (pa_cons (pv 1) (pa_cons (pv 6) (pa_cons (pv 7) pa_nil))))
    case m4 =>
      exact Lm.pe_lamT (Pre := fun _ => True) (qs := []) (P := T) (lv := 5) (Ng := ["ask", "e"]) (t := fun E => tCallS (spBeyOf C CN CP) (WE fun cls d _ H => E cls d H) (tCons (tVar 1) (tCons (tVar 7) (tCons (tC .non) tNil)))) (by rfl) gM kM lkM hcM bM scMet rfl (.inl rfl) (met_gives T1 T2 T3) (fun pins σ H s I _ => ⟨TB.code.keeps I.bk, TB.bm.keeps I.bk, TB.gP⟩) rfl (fun H H1 Y _ g hY t => True.intro) (hr.mono (by decide)) (LamX.lamS_by (sc := defScope sRef) (by decide +kernel)) rfl (fun _ _ _ _ _ => rfl)
        (fun A outer s H E f c' hr5 => pe_callS GB hr5 (by rfl) gB kB bB (fun σ => passAt (takes_of rfl rfl rfl rfl) σ) (pa_cons (pv 1) (pa_cons (pv 7) (pa_cons pe_non pa_nil))))
    case m5 =>
      exact Lm.pe_lamT (Pre := fun _ => True) (qs := []) (P := T) (lv := 5) (Ng := ["ask", "e"]) (t := fun E => tCallS (spBeyOf C CN CP) (WE fun cls d _ H => E cls d H) (tCons (tVar 1) (tCons (tVar 6) (tCons (tVar 7) tNil)))) (by rfl) gM kM lkM hcM bM scMet rfl (.inl rfl) (met_gives T1 T2 T3) (fun pins σ H s I _ => ⟨TB.code.keeps I.bk, TB.bm.keeps I.bk, TB.gP⟩) rfl (fun H H1 Y _ g hY t => True.intro) (hr.mono (by decide)) (LamX.lamS_by (sc := defScope sRef) (by decide +kernel)) rfl (fun _ _ _ _ _ => rfl)
        (fun A outer s H E f c' hr5 => pe_callS GB hr5 (by rfl) gB kB bB (fun σ => passAt (takes_of rfl rfl rfl rfl) σ) (pa_cons (pv 1) (pa_cons (pv 6) (pa_cons (pv 7) pa_nil))))
    case m6 =>
      exact Lm.pe_lamT (Pre := fun _ => True) (qs := []) (P := T) (lv := 6) (Ng := ["ask", "e"]) (t := fun E => tCallS (spLetB C CN CP CL) (WE fun cls d _ H => E cls d H) (tCons (tVar 1) (tCons (tVar 3) (tCons (tVar 7) (tCons (tC .non) tNil))))) (by rfl) gM kM lkM hcM bM scMet rfl (.inl rfl) (met_gives T1 T2 T3) (fun pins σ H s I _ => ⟨TB.code.keeps I.bk, TB.bm.keeps I.bk, TB.gP⟩) rfl (fun H H1 Y _ g hY t => True.intro) (hr.mono (by decide)) (LamX.lamS_by (sc := defScope sRef) (by decide +kernel)) rfl (fun _ _ _ _ _ => rfl)
        (fun A outer s H E f c' hr5 => pe_callS GL hr5 (by rfl) gL kL bL (fun σ => passAt (takes_of rfl rfl rfl rfl) σ) (pa_cons (pv 1) (pa_cons (pv 3) (pa_cons (pv 7) (pa_cons pe_non pa_nil)))))
    case m7 =>
      exact Lm.pe_lamT (Pre := fun _ => True) (qs := []) (P := T) (lv := 6) (Ng := ["ask", "e"]) (t := fun E => tCallS (spLetB C CN CP CL) (WE fun cls d _ H => E cls d H) (tCons (tVar 1) (tCons (tVar 3) (tCons (tVar 6) (tCons (tVar 7) tNil))))) (by rfl) gM kM lkM hcM bM scMet rfl (.inl rfl) (met_gives T1 T2 T3) (fun pins σ H s I _ => ⟨TB.code.keeps I.bk, TB.bm.keeps I.bk, TB.gP⟩) rfl (fun H H1 Y _ g hY t => True.intro) (hr.mono (by decide)) (LamX.lamS_by (sc := defScope sRef) (by decide +kernel)) rfl (fun _ _ _ _ _ => rfl)
        (fun A outer s H E f c' hr5 => pe_callS GL hr5 (by rfl) gL kL bL (fun σ => passAt (takes_of rfl rfl rfl rfl) σ) (pa_cons (pv 1) (pa_cons (pv 3) (pa_cons (pv 6) (pa_cons (pv 7) pa_nil)))))
    case m8 =>
      exact Lm.pe_lamT (Pre := fun _ => True) (qs := []) (P := T) (lv := 4) (Ng := ["ask", "e"]) (t := fun E => tCallS (spWayOf C CN) (WE fun cls d _ H => E cls d H) (tCons (tVar 1) (tCons (tVar 9) (tCons (tVar 6) tNil)))) (by rfl) gM kM lkM hcM bM scMet rfl (.inl rfl) (met_gives T1 T2 T3) (fun pins σ H s I _ => ⟨TB.code.keeps I.bk, TB.bm.keeps I.bk, TB.gP⟩) rfl (fun H H1 Y _ g hY t => True.intro) (hr.mono (by decide)) (LamX.lamS_by (sc := defScope sRef) (by decide +kernel)) rfl (fun _ _ _ _ _ => rfl)
        (fun A outer s H E f c' hr5 => pe_callS GW hr5 (by rfl) gW kW bW (fun σ => passAt (takes_of rfl rfl rfl rfl) σ) (pa_cons (pv 1) (pa_cons (pv 9) (pa_cons (pv 6) pa_nil))))
    case rd =>
      have vil : ∀ {Hk : Hp}, Evl.Ex (wo p c T H) (wo p c T Hk) → Vil Hk C v hs ps m := fun e => (Vh.ex e).ex wo_to
      have dxl : ∀ {Hk : Hp}, Evl.Ex (wo p c T H) (wo p c T Hk) → DX Hk (.ref lt) (some kvs) := fun {Hk} e => .dic (wo_to _ _ (e _ _ hlt)) (fun q hq => by
        obtain ⟨j, ej⟩ := L.ns q hq
        rw [ej]
        exact ⟨_, .int _⟩) (fun q hq => by
        obtain ⟨j, ej⟩ := L.ns q hq
        rw [ej]
        exact fun z => by cases z) (by rw [L.len]; omega)
      have l0 : hs0.length = hs.length := hperm.length_eq.symm
      obtain ⟨h0, ht, rfl⟩ : ∃ h0 ht, hs0 = h0 :: ht := by
        cases hs0 with
        | nil =>
          exfalso
          exact hne (List.length_eq_zero_iff.mp l0.symm)
        | cons h0 ht => exact ⟨h0, ht, rfl⟩
      have h0m : h0 ∈ hs := hperm.mem_iff.mpr List.mem_cons_self
      have n0 : isHouse hs (.str h0) = true := decide_eq_true h0m
      have nA : ∀ {X : Prop}, isHouse hs (.str h0) = false → X := fun z => absurd (n0.symm.trans z) (by simp)
      have nL : ∀ {X : Prop}, isLet hs (some kvs) = false → X := fun z => absurd (hlet.symm.trans z) (by simp)
      refine ⟨_, rfl, by decide, by decide, ?_⟩
      refine for_range (lo := 0) (n := 3) (fun i σ H' => ∃ v4 v5, σ = [some (.ref p), some (.ref v), some (.ref l), some (.ref lt), v4, v5, none, none, none, none] ∧ Wd mg T p c H (n + i * 3) H') ⟨_, _, rfl, M0⟩ ?_ ?_
      · rintro i σ H1 hi ⟨v4, v5, rfl, M⟩
        refine ⟨_, rfl, _, rfl, p, c, lt, _, hs, kvs, rfl, M.str, by omega, M.get hlt, L, Tr.nd, hne, by omega, hgd, fun x H2 hbad kp2 s2 => ?_⟩
        obtain ⟨o, hdx, hof, hsh⟩ := hbad
        have M2 := M.kp kp2 s2
        refine ⟨_, rfl, _, rfl, v, x, o, hs, ps, m, rfl, vil M2.k, hdx, by omega, fun H3 x3 => ?_⟩
        rw [hof]
        refine ⟨by show 1 ≤ sizeLine; decide, fun l1 hl1 => ⟨by show 1 ≤ sizeLine; decide, fun l2 hl2 => ?_⟩⟩
        have z1 := Evl.Ex.new (o := .lst [V.bl false]) hl1
        have z2 := Evl.Ex.new (o := .lst [V.bl false]) hl2
        refine ⟨_, _, rfl, .inr (.inl ⟨l1, l2, _, _, rfl, rfl, z2 _ _ upd_same, upd_same, by show 1 ≤ 1000; decide, .cons (.inl ⟨rfl, rfl⟩) .nil⟩), fun H4 x4 => ⟨_, rfl, iteF ?_⟩⟩
        have x24 := (x3.trans (z1.trans z2)).trans x4
        have M4 := M2.ex x24
        have hdx := hdx.ex x24
        have hsh := hsh.ex x24
        refine ⟨trivial, M4.tab, fun H5 g5 T5 => ?_⟩
        have M5 := M4.grow g5 T5
        have hdx := hdx.growT M4.pt g5
        have hsh := hsh.growT M4.pt g5
        have nO : ∀ {X : Prop}, isLet hs o = true → X := fun z => absurd (hof.symm.trans z) (by simp)
        refine ⟨_, rfl, _, rfl, v, x, .non, .non, "NoneType", "NoneType", o, hs, ps, m, fr, way, rfl, vil M5.k, Tr, W, by omega, hdx, .non, .non, fun _ H' d e hd => ?_, fun z => nO z, fun z => nO z, fun z => nO z, fun _ _ z => nO z⟩
        refine metLetters T3 no2 no3 (H1 := H5) (fun H6 r7 e7 _ hr7 => ?_) e hd
        refine ⟨_, rfl, by show 2 ≤ sizeLine; decide, fun ta hta => ?_⟩
        have y9 := Evl.Ex.new (o := .tup [V.str "letters", x]) hta
        refine ⟨_, _, rfl, .inr (.inr (.inl ⟨r7, ta, _, _, rfl, rfl, .inl (y9 _ _ hr7), upd_same, by show 2 ≤ 1000; decide, .cons (.inl ⟨rfl, rfl⟩) (.cons (shp_sm ((hsh.ex e7).ex y9)) .nil)⟩)), fun H8 x8 => ⟨_, rfl, iteF ?_⟩⟩
        refine ⟨_, _, rfl, ?_⟩
        have M8 := M5.ex ((e7.trans y9).trans x8)
        exact ⟨M8.str.mono (by omega), M8.tab, M8.k⟩
      · rintro σ H1 ⟨v4, v5, rfl, M1⟩
        refine ⟨_, rfl, l, _, _, _, rfl, rfl, SqL.of (M1.get hl), atI_nat (j := 0) rfl, ?_⟩
        refine ⟨Nat.zero_le _, fun l1 hl1 => fun d1 hd1 => ⟨by show 7 ≤ sizeLine; decide, fun tq htq => ⟨tq, rfl, ⟨_, SqT.of upd_same⟩, ?_⟩⟩⟩
        have x1 := Evl.Ex.new (o := .lst []) hl1
        have x2 := Evl.Ex.new (o := .dK []) hd1
        have x3 := Evl.Ex.new (o := .tup [V.str "never", V.str "", V.non, V.int 5, V.bl true, V.ref l1, V.ref d1]) htq
        obtain ⟨q1p, q1c, q1T⟩ := M1.ne hl1
        obtain ⟨q2p, q2c, q2T⟩ := (M1.ex x1).ne hd1
        have Mb := M1.ex ((x1.trans x2).trans x3)
        have g1 := wo_at (p := p) (c := c) (T := T) ((x2.trans x3) l1 _ upd_same) q1p q1c q1T
        have g2 := wo_at (p := p) (c := c) (T := T) (x3 d1 _ upd_same) q2p q2c q2T
        obtain ⟨q3p, q3c, q3T⟩ := (M1.ex (x1.trans x2)).ne htq
        have g3 : wo p c T (upd (upd (upd H1 l1 (.lst [])) d1 (.dK [])) tq (.tup [V.str "never", V.str "", V.non, V.int 5, V.bl true, V.ref l1, V.ref d1])) tq = some (.tup [V.str "never", V.str "", V.non, V.int 5, V.bl true, V.ref l1, V.ref d1]) := wo_at upd_same q3p q3c q3T
        clear x1 x2 x3 hl1 hd1 htq
        generalize upd _ tq _ = Hb at Mb g1 g2 g3 ⊢
        have Nb := Mb.now
        have oddOk : ∀ u ∈ [V.str "never", V.str "", V.non, V.int 5, V.bl true, V.ref l1, V.ref d1], (∃ n, Pl (wo p c T Hb) u n) ∧ isHouse hs u = false ∧ ∀ H', Evl.Ex (wo p c T Hb) H' → Sm H' 4 u u := by
          have nn : ∀ z : Str, z ∉ names12 → isHouse hs (.str z) = false := fun z hz => decide_eq_false fun q => hz (hgd z q)
          intro u hu
          simp only [List.mem_cons, List.not_mem_nil, or_false] at hu
          rcases hu with rfl | rfl | rfl | rfl | rfl | rfl | rfl
          · exact ⟨⟨_, .str _⟩, nn _ (by decide +kernel), fun _ _ => .inl ⟨rfl, rfl⟩⟩
          · exact ⟨⟨_, .str _⟩, nn _ (by decide +kernel), fun _ _ => .inl ⟨rfl, rfl⟩⟩
          · exact ⟨⟨_, .non⟩, rfl, fun _ _ => .inl ⟨rfl, rfl⟩⟩
          · exact ⟨⟨_, .int _⟩, rfl, fun _ _ => .inl ⟨rfl, rfl⟩⟩
          · exact ⟨⟨_, .bl _⟩, rfl, fun _ _ => .inl ⟨rfl, rfl⟩⟩
          · exact ⟨⟨_, .lst g1⟩, rfl, fun _ e => .inr (.inl ⟨l1, l1, [], [], rfl, rfl, e _ _ g1, e _ _ g1, Nat.zero_le _, .nil⟩)⟩
          · exact ⟨⟨_, .dic g2⟩, rfl, fun _ e => .inr (.inr (.inr (.inl ⟨d1, d1, [], rfl, rfl, e _ _ g2, e _ _ g2, (fun q hq => by cases hq), Nat.zero_le _, by decide⟩)))⟩
        refine for_it (walk_tup (xs := [V.str "never", V.str "", V.non, V.int 5, V.bl true, V.ref l1, V.ref d1])) (fun _ σ H' => ∃ v7 v8, σ = [some (.ref p), some (.ref v), some (.ref l), some (.ref lt), v4, v5, some (.str h0), v7, v8, none] ∧ Wd mg T p c Hb (n + 3 * 3) H') ⟨_, _, rfl, Nb.str.mono (by omega), Nb.tab, Nb.k⟩ ?_ ?_ ?_
        · rintro i3 σ H' _ ⟨v7, v8, rfl, M⟩
          exact SqT.of (M.get g3)
        · rintro i3 u σ H2 H3 hi3 ⟨v7, v8, rfl, M⟩ ⟨rfl, hu⟩
          obtain ⟨⟨nu, hPu⟩, hnh, hsm⟩ := oddOk u (List.mem_of_getElem? hu)
          have Wb := Mb.k
          have pu : ∀ {Hk : Hp}, Evl.Ex (wo p c T Hb) (wo p c T Hk) → Pl Hk u nu := fun e => (hPu.ext e).ext wo_to
          have nU : ∀ {X : Prop}, isHouse hs u = true → X := fun z => absurd (hnh.symm.trans z) (by simp)
          have uS : ∀ {X : Prop} (a : Str), u = .str a → a ∈ hs → X := fun a e hm => by
            rw [e] at hnh
            exact absurd (show isHouse hs (.str a) = true from decide_eq_true hm) (by rw [hnh]; simp)
          refine ⟨trivial, M.tab, fun G2 g2 T2 => ?_⟩
          have N2 := M.grow g2 T2
          refine ⟨_, rfl, _, rfl, v, u, .non, _, _, hs, ps, m, fr, way, rfl, vil (Wb.trans N2.k), Tr, W, by omega, pu N2.k, .non, fun _ d hd => ?_, fun z => nU z, fun a b ea _ ha _ => uS a ea ha⟩
          refine metHouse T1 (H1 := G2) (fun X2 r2 e2 _ hr2 => ?_) (fun _ _ z => z) hd
          refine ⟨by show 1 ≤ sizeLine; decide, fun fo hfo => ?_⟩
          have zf := Evl.Ex.new (o := .lst [V.ref r2]) hfo
          have Mf := N2.ex (e2.trans zf)
          obtain ⟨fp, fc, fT⟩ := (N2.ex e2).ne hfo
          have fob : Hb fo = none := by
            cases z : Hb fo with
            | none => rfl
            | some ob =>
              have := (N2.ex e2).get (wo_at z fp fc fT)
              rw [hfo] at this
              cases this
          have F2 : FO mg T p c Hb (n + 3 * 3) u fo [r2] (upd X2 fo (.lst [V.ref r2])) := ⟨Mf, fob, fp, fc, fT, upd_same, fun r hr => by rw [List.mem_singleton.mp hr]; exact zf _ _ hr2⟩
          generalize upd X2 fo (.lst [V.ref r2]) = Y2 at F2 ⊢
          refine ⟨_, rfl, .inl ⟨rfl, _, SqL.of F2.at_⟩, trivial, F2.w.tab, fun G3 g3 T3 => ?_⟩
          have E3 := F2.grow g3 T3
          have N3 := E3.w
          refine ⟨_, rfl, _, rfl, _, rfl, v, .str h0, u, _, _, hs, ps, m, fr, way, rfl, vil (Wb.trans N3.k), Tr, W, by omega, .str h0, pu N3.k, fun z => nA z, fun _ _ d hd => ?_, fun a b _ eb _ hb => uS b eb hb⟩
          refine metHouse T1 (H1 := G3) (fun X3 r3 e3 _ hr3 => ?_) (fun _ _ z => z) hd
          have D3 := E3.ex e3
          refine ⟨fo, _, .ref r3, rfl, rfl, D3.at_, by show 1 < sizeLine; decide, ?_⟩
          have F3 := D3.app hr3
          generalize upd X3 fo _ = Y3 at F3 ⊢
          refine ⟨_, rfl, .inl ⟨rfl, _, SqL.of F3.at_⟩, trivial, F3.w.tab, fun G4 g4 T4 => ?_⟩
          have E4 := F3.grow g4 T4
          have N4 := E4.w
          refine ⟨_, rfl, _, rfl, v, u, .non, _, _, hs, ps, m, fr, way, rfl, vil (Wb.trans N4.k), Tr, W, by omega, pu N4.k, .non, fun _ d hd => ?_, fun z => nU z, fun a b ea _ ha _ _ => uS a ea ha, fun a b ea _ ha _ _ => uS a ea ha⟩
          refine metHouse T1 (H1 := G4) (fun X4 r4 e4 _ hr4 => ?_) (fun _ _ z => z) hd
          have D4 := E4.ex e4
          refine ⟨fo, _, .ref r4, rfl, rfl, D4.at_, by show 2 < sizeLine; decide, ?_⟩
          have F4 := D4.app hr4
          generalize upd X4 fo _ = Y4 at F4 ⊢
          refine ⟨_, rfl, .inl ⟨rfl, _, SqL.of F4.at_⟩, trivial, F4.w.tab, fun G5 g5 T5 => ?_⟩
          have E5 := F4.grow g5 T5
          have N5 := E5.w
          refine ⟨_, rfl, _, rfl, _, rfl, v, .str h0, u, _, _, hs, ps, m, fr, way, rfl, vil (Wb.trans N5.k), Tr, W, by omega, .str h0, pu N5.k, fun z => nA z, fun _ _ d hd => ?_, fun a b _ eb _ hb _ => uS b eb hb, fun a b _ eb _ hb _ => uS b eb hb⟩
          refine metHouse T1 (H1 := G5) (fun X5 r5 e5 _ hr5 => ?_) (fun _ _ z => z) hd
          have D5 := E5.ex e5
          refine ⟨fo, _, .ref r5, rfl, rfl, D5.at_, by show 3 < sizeLine; decide, ?_⟩
          have F5 := D5.app hr5
          generalize upd X5 fo _ = Y5 at F5 ⊢
          refine ⟨_, rfl, .inl ⟨rfl, _, SqL.of F5.at_⟩, trivial, F5.w.tab, fun G6 g6 T6 => ?_⟩
          have E6 := F5.grow g6 T6
          have N6 := E6.w
          refine ⟨_, rfl, _, rfl, _, rfl, v, .ref lt, u, .non, _, _, some kvs, hs, ps, m, fr, way, rfl, vil (Wb.trans N6.k), Tr, W, by omega, dxl (Wb.trans N6.k), pu N6.k, .non, fun z => nL z, fun _ _ H' d e hd => ?_, fun _ z => nU z, fun _ a b ea _ ha _ => uS a ea ha, fun _ _ _ a b ea _ ha _ => uS a ea ha⟩
          refine metHouse T1 (H1 := G6) (fun X6 r6 e6 _ hr6 => ?_) e hd
          have D6 := E6.ex e6
          refine ⟨fo, _, .ref r6, rfl, rfl, D6.at_, by show 4 < sizeLine; decide, ?_⟩
          have F6 := D6.app hr6
          generalize upd X6 fo _ = Y6 at F6 ⊢
          refine ⟨_, rfl, .inl ⟨rfl, _, SqL.of F6.at_⟩, trivial, F6.w.tab, fun G7 g7 T7 => ?_⟩
          have E7 := F6.grow g7 T7
          have N7 := E7.w
          refine ⟨_, rfl, _, rfl, _, rfl, _, rfl, v, .ref lt, .str h0, u, _, _, some kvs, hs, ps, m, fr, way, rfl, vil (Wb.trans N7.k), Tr, W, by omega, dxl (Wb.trans N7.k), .str h0, pu N7.k, fun z => nL z, fun _ z => nA z, fun _ _ _ H' d e hd => ?_, fun _ a b _ eb _ hb => uS b eb hb, fun _ _ _ a b _ eb _ hb => uS b eb hb⟩
          refine metHouse T1 (H1 := G7) (fun X7 r7 e7 _ hr7 => ?_) e hd
          have D7 := E7.ex e7
          refine ⟨fo, _, .ref r7, rfl, rfl, D7.at_, by show 5 < sizeLine; decide, ?_⟩
          have F7 := D7.app hr7
          generalize upd X7 fo _ = Y7 at F7 ⊢
          refine ⟨_, rfl, _, rfl, by show 2 ≤ sizeLine; decide, fun ta hta => ⟨by show 1 ≤ sizeLine; decide, fun l8 hl8 => ?_⟩⟩
          refine ⟨l8, 6, _, rfl, rfl, upd_same, by decide, by decide, by show 1 * 6 ≤ sizeLine; decide, fun l9 hl9 => ?_⟩
          have z1 := Evl.Ex.new (o := .tup [V.str "house", u]) hta
          have z2 := Evl.Ex.new (o := .lst [V.ref ta]) hl8
          have z3 := Evl.Ex.new (o := .lst (List.replicate (Int.toNat 6) [V.ref ta]).flatten) hl9
          have zz := (z1.trans z2).trans z3
          have ta' := (z2.trans z3) _ _ (upd_same (H := Y7) (a := ta) (o := .tup [V.str "house", u]))
          have l9' : upd (upd (upd Y7 ta (.tup [V.str "house", u])) l8 (.lst [V.ref ta])) l9 (.lst (List.replicate (Int.toNat 6) [V.ref ta]).flatten) l9 = some (.lst [V.ref ta, .ref ta, .ref ta, .ref ta, .ref ta, .ref ta]) := upd_same
          have F8 := F7.ex zz
          generalize upd (upd (upd Y7 ta (.tup [V.str "house", u])) l8 (.lst [V.ref ta])) l9 (.lst (List.replicate (Int.toNat 6) [V.ref ta]).flatten) = Y8 at F8 ta' l9' ⊢
          have sm : ∀ r ∈ [r2] ++ [r3] ++ [r4] ++ [r5] ++ [r6] ++ [r7], Sm Y8 5 (.ref r) (.ref ta) := fun r hr => .inr (.inr (.inl ⟨r, ta, _, _, rfl, rfl, .inl (F8.el r hr), ta', by show 2 ≤ 1000; decide, .cons (.inl ⟨rfl, rfl⟩) (.cons (hsm _ (F8.w.k.trans wo_to)) .nil)⟩))
          refine ⟨_, _, rfl, .inr (.inl ⟨fo, l9, _, _, rfl, rfl, F8.at_, l9', by show 6 ≤ 1000; decide, .cons (sm r2 (by simp)) (.cons (sm r3 (by simp)) (.cons (sm r4 (by simp)) (.cons (sm r5 (by simp)) (.cons (sm r6 (by simp)) (.cons (sm r7 (by simp)) .nil)))))⟩), fun H9 x9 => ⟨_, rfl, iteF ?_⟩⟩
          exact ⟨_, _, rfl, F8.w.ex x9⟩
        · rintro σ H2 ⟨v7, v8, rfl, M⟩
          refine ⟨_, rfl, by show 1 ≤ sizeLine; decide, fun he hhe => ?_⟩
          obtain ⟨hep, hec, heT⟩ := M.ne hhe
          have heb : Hb he = none := by
            cases z : Hb he with
            | none => rfl
            | some ob =>
              have := M.get (wo_at z hep hec heT)
              rw [hhe] at this
              cases this
          have M2 := M.ex (Evl.Ex.new (o := .lst [V.str h0]) hhe)
          have he' : upd H2 he (.lst [V.str h0]) he = some (.lst [V.str h0]) := upd_same
          generalize upd H2 he (.lst [V.str h0]) = H3 at M2 he' ⊢
          refine ⟨trivial, M2.tab, fun H4 g4 T4 => ?_⟩
          have M4 := M2.grow g4 T4
          have he4 := g4 _ _ heT he'
          refine ⟨_, rfl, _, rfl, _, rfl, v, .ref he, .str h0, "list", "str", hs, ps, m, fr, way, rfl, vil (Mb.k.trans M4.k), Tr, W, by omega, .lst he4, .str h0, fun _ d hd => ?_, fun z => (by cases z), fun a b ea => (by cases ea)⟩
          refine metHouse T1 (H1 := H4) (fun H5 r5 e5 _ hr5 => ?_) (fun _ _ z => z) hd
          have he5 := e5 _ _ he4
          have M5 := M4.ex e5
          refine ⟨_, rfl, .inl ⟨rfl, _, SqL.of he5⟩, he, _, _, rfl, rfl, he5, by show 1 < sizeLine; decide, ?_⟩
          have M6 := M5.mut (ys := [V.str h0] ++ [V.str "late"]) he5 hep hec heb
          have r6' : upd H5 he (.lst ([V.str h0] ++ [V.str "late"])) r5 = some (.tup [.str "house", .ref he]) := by
            rw [upd_ne (fun z => by rw [z, he5] at hr5; cases hr5)]
            exact hr5
          have he6 : upd H5 he (.lst ([V.str h0] ++ [V.str "late"])) he = some (.lst [V.str h0, .str "late"]) := upd_same
          generalize upd H5 he (.lst ([V.str h0] ++ [V.str "late"])) = H6 at M6 r6' he6 ⊢
          refine ⟨_, rfl, _, rfl, by show 2 ≤ sizeLine; decide, fun l7 hl7 => ⟨by show 2 ≤ sizeLine; decide, fun t7 ht7 => ?_⟩⟩
          have z1 := Evl.Ex.new (o := .lst [V.str h0, .str "late"]) hl7
          have z2 := Evl.Ex.new (o := .tup [V.str "house", .ref l7]) ht7
          have zz := z1.trans z2
          refine ⟨_, _, rfl, .inr (.inr (.inl ⟨r5, t7, _, _, rfl, rfl, .inl (zz _ _ r6'), upd_same, by show 2 ≤ 1000; decide, .cons (.inl ⟨rfl, rfl⟩) (.cons (.inr (.inl ⟨he, l7, _, _, rfl, rfl, zz _ _ he6, z2 _ _ upd_same, by show 2 ≤ 1000; decide, .cons (.inl ⟨rfl, rfl⟩) (.cons (.inl ⟨rfl, rfl⟩) .nil)⟩)) .nil)⟩)), fun H7 x7 => ?_⟩
          have M7 := M6.ex (zz.trans x7)
          exact k H7 (Mb.trans M7)
end
end K02

/-! repr of a dict of texts to ints. Law-independent. -/
namespace Rpd
open PySem PySem.Spec PyProof.Rows L2
/-- texts and ints -/
def tabN (ns : List (Str × Int)) : List (Key × V) := ns.map fun q => (Sum.inr q.1, .int q.2)
def pdN (ns : List (Str × Int)) : PyData := .dict (ns.map fun q => (.str q.1, .int q.2))
theorem reads_n {P : Program} {w : World} {h : Heap} : ∀ {ns : List (Str × Int)} {vs : List (Key × Value)} {es : List DictEntry}, KV (tabN ns) vs → Pairs (mixKind P w) es vs →
    ReadsAll h (es.map (·.key)) (ns.map fun q => PyData.str q.1) [] ∧ ReadsAll h (es.map (·.val)) (ns.map fun q => PyData.int q.2) []
  | [], _, _, r, p => by
    cases r
    cases p
    exact ⟨.nil, .nil⟩
  | q :: ns, _, _, r, p => by
    cases r with
    | cons r1 r2 =>
      cases p with
      | cons h1 h2 h3 =>
        obtain ⟨i1, i2⟩ := reads_n (h := h) r2 h3
        obtain ⟨k1, k2⟩ := r1
        rw [← k1] at h1
        have h1 : keyIs (Sum.inr q.1) _ = true := h1
        rcases keyIs_shape h1 with ⟨i, t, e, _⟩ | ⟨x, t, e, ek⟩
        · cases e
        · cases e
          obtain ⟨t2, ev⟩ := (show ∃ t, _ = Value.int q.2 t from k2)
          refine ⟨?_, ?_⟩
          · rw [List.map_cons, List.map_cons, ek]
            exact .cons (as := []) (bs := []) (.str _ _) i1
          · rw [List.map_cons, List.map_cons, h2, ev]
            exact .cons (as := []) (bs := []) (.int _ _) i2
section
variable {X : Cx}
theorem call_reprN (hg : X.A.guards = some []) (hu : X.A.units + 100 < cLine) : CallR X (.builtin "repr") (fun xs H Q => ∃ (a : Addr) (ns : List (Str × Int)), xs = [.ref a] ∧ H a = some (.dK (tabN ns)) ∧ (pdN ns).showable = true ∧ (pdN ns).depth ≤ 50 ∧ (pdN ns).shown.length ≤ sizeLine ∧ Q (.str (pdN ns).shown) H) := by
  intro pins st σ H xs us Q I r ⟨a, ns, e, ha, hs, hdp, hz, q⟩
  subst e
  match us, r with
  | [u], .cons ru .nil =>
    obtain rfl : u = Value.ref a := ru
    obtain ⟨_, hsys, vs, kv, o, es, ep, ho, hx, hd, _, hp, _⟩ := (show ObjOk X.prog X.w H st.heap a (.dK (tabN ns)) from I.hok a _ ha)
    obtain ⟨r1, r2⟩ := reads_n (h := st.heap) kv hp
    have rd : Reads st.heap (.ref a) (pdN ns) (a :: [] ++ []) := Reads.dict ho hx.1 hd (by rw [List.map_map]; exact r1) (by rw [List.map_map]; exact r2)
    refine PySem.repr_of_reads' (h₀ := st.heap) rd hs (fun _ z => ?_) hg (by omega) (fun _ _ e => e) (fun h' u tk k => ?_) hz
    · simp at z
      rw [z] at hsys
      simp at hsys
    · exact ⟨.str _, H, I.kept k, ⟨u, rfl⟩, q⟩
end
end Rpd
namespace Rpd
open PySem
theorem kv_len {ns : List (Str × Int)} (hk : ∀ q ∈ ns, (reprText q.1).length ≤ 40) (hv : ∀ q ∈ ns, 0 ≤ q.2 ∧ q.2 < 10 ^ 10) : ∀ t ∈ PyData.shownKv (ns.map fun q => (PyData.str q.1, PyData.int q.2)), t.length ≤ 60 := by
  induction ns with
  | nil => intro t ht; simp [PyData.shownKv] at ht
  | cons q r ih =>
    intro t ht
    rw [List.map_cons, PyData.shownKv] at ht
    rcases List.mem_cons.mp ht with rfl | ht
    · have h1 := hk q List.mem_cons_self
      obtain ⟨h2, h3⟩ := hv q List.mem_cons_self
      have h4 := PySem.W.KT.len_num h2 h3
      rw [strLen_append, strLen_append]
      have h5 : (PyData.shown (.str q.1)).length ≤ 40 := h1
      have h6 : (PyData.shown (.int q.2)).length ≤ 10 := h4
      have h7 : (": " : Str).length = 2 := by decide
      omega
    · exact ih (fun x hx => hk x (List.mem_cons_of_mem _ hx)) (fun x hx => hv x (List.mem_cons_of_mem _ hx)) t ht
theorem kv_count (ns : List (Str × Int)) : (PyData.shownKv (ns.map fun q => (PyData.str q.1, PyData.int q.2))).length = ns.length := by
  induction ns with
  | nil => simp [PyData.shownKv]
  | cons q r ih => rw [List.map_cons, PyData.shownKv, List.length_cons, List.length_cons, ih]
theorem sum_len : ∀ (l : List Str), (∀ t ∈ l, t.length ≤ 60) → (l.map (·.length)).sum ≤ 60 * l.length
  | [], _ => by simp
  | t :: r, h => by
    have h1 := h t List.mem_cons_self
    have h2 := sum_len r fun x hx => h x (List.mem_cons_of_mem _ hx)
    rw [List.map_cons, List.sum_cons, List.length_cons]
    omega
theorem shown_fits {ns : List (Str × Int)} (hl : ns.length ≤ 30) (hk : ∀ q ∈ ns, (reprText q.1).length ≤ 40) (hv : ∀ q ∈ ns, 0 ≤ q.2 ∧ q.2 < 10 ^ 10) : (pdN ns).shown.length ≤ sizeLine := by
  have h1 := StrLaws.join_length_le ", " (PyData.shownKv (ns.map fun q => (PyData.str q.1, PyData.int q.2)))
  have h2 := sum_len _ (kv_len hk hv)
  rw [kv_count] at h1 h2
  have h3 : (", " : Str).length = 2 := by decide
  have h4 : ("{" : Str).length = 1 := by decide
  have h5 : ("}" : Str).length = 1 := by decide
  unfold pdN
  rw [PyData.shown_dict, strLen_append, strLen_append, h4, h5]
  rw [h3] at h1
  exact Nat.le_trans (show _ ≤ 3000 by omega) (by decide)
theorem show_ok {ns : List (Str × Int)} (hv : ∀ q ∈ ns, 0 ≤ q.2 ∧ q.2 < 10 ^ 10) : (pdN ns).showable = true := by
  unfold pdN
  rw [PyData.showable]
  induction ns with
  | nil => simp [PyData.showableKv]
  | cons q r ih =>
    rw [List.map_cons, PyData.showableKv, ih (fun x hx => hv x (List.mem_cons_of_mem _ hx)), Bool.and_true]
    obtain ⟨h2, h3⟩ := hv q List.mem_cons_self
    have h4 : q.2.natAbs.log2 < 1920 := by
      have h5 : q.2.natAbs < 2 ^ 64 := by omega
      by_cases h0 : q.2.natAbs = 0
      · rw [h0]; decide
      · exact Nat.lt_of_lt_of_le ((Nat.log2_lt h0).mpr h5) (by decide)
    simp [PyData.showable, h4]
theorem depthKv_0 : ∀ ns : List (Str × Int), PyData.depthKv (ns.map fun q => (PyData.str q.1, PyData.int q.2)) = 0
  | [] => by simp [PyData.depthKv]
  | q :: r => by rw [List.map_cons, PyData.depthKv, depthKv_0 r]; simp [PyData.depth]
theorem depth_ok (ns : List (Str × Int)) : (pdN ns).depth ≤ 50 := by
  unfold pdN
  rw [PyData.depth, depthKv_0]
  omega
end Rpd

namespace K02
open PySem PySem.Spec PyProof.Rows L2 Tr Sq Dk Exs
/-! ### the law's state: the stream, two tables, all else -/
def w2 (p c T1 T2 : Addr) (H : Hp) : Hp := fun b => if b = p ∨ b = c ∨ b = T1 ∨ b = T2 then none else H b
section
variable {p c T1 T2 : Addr} {H H' : Hp}
theorem w2_to : Evl.Ex (w2 p c T1 T2 H) H := fun b o h => by
  unfold w2 at h
  split at h
  · cases h
  · exact h
theorem w2_at {b : Addr} {o : HO} (h : H b = some o) (h1 : b ≠ p) (h2 : b ≠ c) (h3 : b ≠ T1) (h4 : b ≠ T2) : w2 p c T1 T2 H b = some o := by
  unfold w2
  rw [if_neg (fun z => by rcases z with z | z | z | z <;> contradiction)]
  exact h
/-- what of another view stays here too -/
theorem w2_of (e : ∀ b o, b ≠ p → b ≠ c → b ≠ T1 → b ≠ T2 → H b = some o → H' b = some o) : Evl.Ex (w2 p c T1 T2 H) (w2 p c T1 T2 H') := fun b o h => by
  unfold w2 at h ⊢
  split at h
  · cases h
  · rename_i z
    rw [if_neg z]
    exact e b o (fun q => z (.inl q)) (fun q => z (.inr (.inl q))) (fun q => z (.inr (.inr (.inl q)))) (fun q => z (.inr (.inr (.inr q)))) h
theorem w2_ex (e : Evl.Ex H H') : Evl.Ex (w2 p c T1 T2 H) (w2 p c T1 T2 H') := w2_of fun b o _ _ _ _ h => e b o h
theorem w2_1 : Evl.Ex (w2 p c T1 T2 H) (w1 T1 H) := fun b o h => by
  unfold w2 at h
  split at h
  · cases h
  · rename_i z
    exact w1_at h (fun q => z (.inr (.inr (.inl q))))
theorem w2_o : Evl.Ex (w2 p c T1 T2 H) (wo p c T2 H) := fun b o h => by
  unfold w2 at h
  split at h
  · cases h
  · rename_i z
    exact wo_at h (fun q => z (.inl q)) (fun q => z (.inr (.inl q))) (fun q => z (.inr (.inr (.inr q))))
end
/-- a table of one name, kept where all but another table stays -/
theorem tab_keep {mg : Str → Option Value} {q : Str} {T T' : Addr} {H H' : Hp} (h : Lm.TabD mg [q] H T) (hT' : ∃ ps, H T' = some (.tbl ps)) (ne : T ≠ T') (e : ∀ b o, b ≠ T' → H b = some o → (∀ xs, o ≠ .lst xs) → H' b = some o) : Lm.TabD mg [q] H' T := by
  obtain ⟨ps, h1, h2, h3⟩ := h
  obtain ⟨ps', hp'⟩ := hT'
  refine ⟨ps, e _ _ ne h1 (fun xs z => by cases z), h2, fun pos cv hc => ?_⟩
  obtain ⟨c, P2, e1, e2, e3, e4, e5⟩ := h3 pos cv hc
  refine ⟨c, P2, e1, e _ _ (fun z => ?_) e2 (fun xs => codeT_nl xs), e3, True.intro, e5⟩
  rw [z, hp'] at e2
  unfold Lm.CodeT at e2
  cases e2
structure W2 (mg : Str → Option Value) (T1 T2 p c : Addr) (H0 : Hp) (n : Nat) (H : Hp) : Prop where
  str : StrAt H p c n
  t1 : Lm.TabD mg [qlW] H T1
  t2 : Lm.TabD mg [qlR] H T2
  k : Evl.Ex (w2 p c T1 T2 H0) (w2 p c T1 T2 H)
section
variable {mg : Str → Option Value} {T1 T2 p c : Addr} {H0 H H' : Hp} {n n' : Nat}
theorem W2.p1 (M : W2 mg T1 T2 p c H0 n H) : ∃ ps, H T1 = some (.tbl ps) := by
  obtain ⟨ps, h, _⟩ := M.t1
  exact ⟨ps, h⟩
theorem W2.p2 (M : W2 mg T1 T2 p c H0 n H) : ∃ ps, H T2 = some (.tbl ps) := by
  obtain ⟨ps, h, _⟩ := M.t2
  exact ⟨ps, h⟩
theorem W2.get (M : W2 mg T1 T2 p c H0 n H) {b : Addr} {o : HO} (h : w2 p c T1 T2 H0 b = some o) : H b = some o := w2_to _ _ (M.k _ _ h)
theorem W2.ne (M : W2 mg T1 T2 p c H0 n H) {b : Addr} (h : H b = none) : b ≠ p ∧ b ≠ c ∧ b ≠ T1 ∧ b ≠ T2 := by
  obtain ⟨ps, hp⟩ := M.p1
  obtain ⟨qs, hq⟩ := M.p2
  obtain ⟨h1, h2⟩ := M.str.ne h
  exact ⟨h1, h2, fun z => (by rw [z, hp] at h; cases h), fun z => (by rw [z, hq] at h; cases h)⟩
theorem W2.new (M : W2 mg T1 T2 p c H0 n H) {b : Addr} {o : HO} (h : H b = none) : w2 p c T1 T2 (upd H b o) b = some o := w2_at upd_same (M.ne h).1 (M.ne h).2.1 (M.ne h).2.2.1 (M.ne h).2.2.2
theorem W2.ex (M : W2 mg T1 T2 p c H0 n H) (e : Evl.Ex H H') : W2 mg T1 T2 p c H0 n H' := ⟨M.str.keep e, tabD_kl _ M.t1 (Kl.ex e), tabD_kl _ M.t2 (Kl.ex e), M.k.trans (w2_ex e)⟩
theorem W2.kp (M : W2 mg T1 T2 p c H0 n H) (e : Kp p c H H') (s : StrAt H' p c n') : W2 mg T1 T2 p c H0 n' H' := ⟨s, tabD_kl _ M.t1 (Kl.kp M.str e), tabD_kl _ M.t2 (Kl.kp M.str e), M.k.trans (w2_of fun b o h1 h2 _ _ h => e b o h h1 h2)⟩
theorem W2.mut {F : Addr} {xs ys : List V} (M : W2 mg T1 T2 p c H0 n H) (hF : H F = some (.lst xs)) (h1 : F ≠ p) (h2 : F ≠ c) (h3 : H0 F = none) : W2 mg T1 T2 p c H0 n (upd H F (.lst ys)) := by
  refine ⟨M.str.upd h1 h2, tabD_kl _ M.t1 (Kl.upd hF), tabD_kl _ M.t2 (Kl.upd hF), fun b o h => ?_⟩
  have hb : b ≠ F := fun z => by
    have := w2_to _ _ h
    rw [z, h3] at this
    cases this
  have := M.k _ _ h
  unfold w2 at this ⊢
  split at this
  · cases this
  · rename_i z
    rw [if_neg z, upd_ne hb]
    exact this
theorem W2.now (M : W2 mg T1 T2 p c H0 n H) : W2 mg T1 T2 p c H n H := ⟨M.str, M.t1, M.t2, fun _ _ h => h⟩
theorem W2.trans {H1 : Hp} (M : W2 mg T1 T2 p c H0 n H1) (N : W2 mg T1 T2 p c H1 n' H) : W2 mg T1 T2 p c H0 n' H := ⟨N.str, N.t1, N.t2, M.k.trans N.k⟩
/-- after _law_ways_right -/
theorem W2.ways (M : W2 mg T1 T2 p c H0 n H) (ne : T1 ≠ T2) (N : Wt mg qlW T1 H H') : W2 mg T1 T2 p c H0 n H' := by
  have e : ∀ b o, b ≠ T1 → H b = some o → H' b = some o := fun b o h1 h => w1_to _ _ (N.k _ _ (w1_at h h1))
  obtain ⟨ps, hp⟩ := M.p1
  refine ⟨?_, N.tab, tab_keep M.t2 M.p1 ne.symm fun b o h1 h _ => e b o h1 h, M.k.trans (w2_of fun b o _ _ h3 _ h => e b o h3 h)⟩
  obtain ⟨L, cells, a, kk, m, s1, s2, r⟩ := M.str
  exact ⟨L, cells, a, kk, m, e _ _ (fun z => (by rw [z, hp] at s1; cases s1)) s1, e _ _ (fun z => (by rw [z, hp] at s2; cases s2)) s2, r⟩
/-- after _law_refused_right -/
theorem W2.ref (M : W2 mg T1 T2 p c H0 n H) (ne : T1 ≠ T2) (N : Wd mg T2 p c H n' H') : W2 mg T1 T2 p c H0 n' H' := by
  have e : ∀ b o, b ≠ p → b ≠ c → b ≠ T2 → H b = some o → H' b = some o := fun b o h1 h2 h3 h => wo_to _ _ (N.k _ _ (wo_at h h1 h2 h3))
  have nl : ∀ {b : Addr} {o : HO}, H b = some o → (∀ xs, o ≠ .lst xs) → b ≠ p ∧ b ≠ c := fun {b o} h hn => by
    obtain ⟨L, cells, a, kk, m, s1, s2, r⟩ := M.str
    exact ⟨fun z => (by rw [z, s1] at h; exact hn _ (Option.some.inj h).symm), fun z => (by rw [z, s2] at h; exact hn _ (Option.some.inj h).symm)⟩
  refine ⟨N.str, tab_keep M.t1 M.p2 ne fun b o h1 h hn => e b o (nl h hn).1 (nl h hn).2 h1 h, N.tab, M.k.trans (w2_of fun b o h1 h2 _ h4 h => e b o h1 h2 h4 h)⟩
end
end K02

namespace Gd
open PySem PySem.Spec PyProof.Rows L2
/-! ### a def within one surrounding: for what asks more of it than room (repr: nothing may be under way) -/
def OkAt (P : Program) (w : World) (K : PySem.W.Frag) (mg : Str → Option Value) (base : Heap) (CX : CXT) (A : Around) (f : Addr) (fd : FuncData) (ps : List Str) (sp : Sp) : Prop :=
  ∀ (outer : List Env) (st : Shared) (H : Hp) (ar : Args) (us : List Value) (vs : List V) (Q : VK) (E : XK), Env0 P w K mg base A outer st H → BindsTo st fd ar (ps.zip us) → Vals vs us → sp vs H Q E → codeAny (model P w) A (.call (.ref f) ar) (CR CX outer P w H st Q E) st
section
variable {P : Program} {w : World} {K : PySem.W.Frag} {mg : Str → Option Value} {base : Heap} {CX : CXT} {A : Around}
theorem okAt_of {k : Nat} {f : Addr} {fd : FuncData} {ps : List Str} {sp : Sp} (F : FnOk P w K mg base CX k f fd ps sp) (hr : Room k A) : OkAt P w K mg base CX A f fd ps sp := fun outer st H ar us vs Q E e0 hb r h => F.run A outer st H ar us vs Q E hr e0 hb r h
/-- a def whose body is read in this surrounding -/
theorem okAt_def {x qual : Str} {params : Arguments} {body : List Stmt} {scope : Scope} {dvs : List V} {kws : List (Str × V)} {f c : Addr} {fd : FuncData} {N ps : List Str} {k : Nat} {sp : Sp} (F : FunD K x qual params body scope dvs kws f fd) (hc : fd.code = .ref c) (S : FnScope N ps scope) (hr : Room (k + 1) A)
    (len : ∀ vs H Q E, sp vs H Q E → vs.length = ps.length)
    (go : ∀ (outer : List Env) (st : Shared) (H : Hp) (vs : List V) (Q : VK) (E : XK), Room k (A.deeper (envOfC qual scope st.heap.objs.size f (.ref c))) → sp vs H Q E → ∃ t, PSs (cxOf CX P w K mg base N qual scope f (.ref c) A outer st H E) body t ∧ t { nx := fun _ H' => Q .non H', rt := Q } (L2.start N vs) H) :
    OkAt P w K mg base CX A f fd ps sp := by
  obtain ⟨oc, od, dV, kV, doc, pm, an, cdv, ct, osl, rfl, lk, hcd, _, _⟩ := F.ex
  obtain rfl : cdv = .ref c := hc
  exact fun outer st H ar us vs Q E e0 hb r h => LamX.run_ofS lk hcd S hr e0 hb r (len _ _ _ _ h) fun hr2 => go outer st H vs Q E hr2 h
end
/-! ### such a def called -/
section
variable {X : Cx} {CX : CXT} {k i : Nat} {f : Addr} {fd : FuncData} {ps : List Str} {sp : Sp} {E : XK} {x : Str} {p pos : Pos} {e : Expr} {es : List Expr} {t : TA}
def tCallO (sp : Sp) (E : XK) (t : TA) : TE := fun σ H Q => t σ H fun vs H1 => vs.length = vs.length ∧ sp vs H1 Q E
theorem pe_callO (F : OkAt X.prog X.w X.K X.mg X.base CX X.A f fd ps sp) (len : ∀ vs H Q E, sp vs H Q E → vs.length = ps.length) (hg : Gl X x) (hm : X.mg x = some (.ref f)) (hk : PySem.W.keepIn X.K (.ref f) = true) (hb : L2.Binds X.K fd ps []) (hx : Passes CX X E) (ha : PA X (e :: es) t)
    (hdb : (x == ("__debug__" : Str)) = false := by decide) (he : starEach (e :: es) X.env = (false, eval e X.env) :: starEach es X.env := by rfl) (hpl : (backTo pos (starEach es X.env)).any (·.1) = false := by rfl) : PE X (.Call (.Name x p) (e :: es) [] pos) (tCallO sp E t) := by
  refine ⟨fun pins st σ H Q I h => ?_⟩
  refine wpAny_Call_Name_kw (ld_glob I hg hm ?_ hdb)
  refine PySem.W.callWith_K (h₀ := X.base) I.ok.mod.kin hk (thn (ha.run pos pins st σ H _ I h) fun us s1 ⟨vs, H1, I1, r, _, q⟩ => ⟨I1.kIn, ?_⟩) he hpl
  have hl : us.length = ps.length := (Paired.length r).symm.trans (len _ _ _ _ q)
  have b := hb s1 us I1.kIn (by rw [List.append_nil]; exact hl)
  rw [List.append_nil] at b
  refine wpAny_call (codeAny_mono (F X.stack s1 H1 ⟨us, []⟩ us vs Q E I1.env0 b r q) fun z s' hq => ?_)
  match z, hq with
  | .error er, hq => exact hx pins σ H1 s1 er s' I1 hq
  | .ok (.ret u), hq => exact I1.after hq
  | .ok .next, hq => exact False.elim hq
  | .ok .brk, hq => exact False.elim hq
  | .ok .cont, hq => exact False.elim hq
end
/-! ### repr of what stands as data -/
section
variable {X : Cx}
/-- data, dicts with text keys too; not the table of modules -/
inductive Dq (K : PySem.W.Frag) (H : Hp) : V → PyData → Prop
  | dp {v : V} {d : PyData} (h : Dp K H v d) (nd : d.hasDict = false) : Dq K H v d
theorem call_repr (hg : X.A.guards = some []) (hu : X.A.units + 100 < cLine) : CallR X (.builtin "repr") (fun xs H Q => ∃ (a : Addr) (d : PyData), xs = [.ref a] ∧ Dp X.K H (.ref a) d ∧ d.hasDict = false ∧ d.showable = true ∧ d.depth ≤ 50 ∧ d.shown.length ≤ sizeLine ∧ Q (.str d.shown) H) := by
  intro pins st σ H xs us Q I r ⟨a, d, e, hd, nd, hs, hdp, hz, q⟩
  subst e
  match us, r with
  | [u], .cons ru .nil =>
    obtain rfl : u = Value.ref a := ru
    obtain ⟨as, rd⟩ := Dp.reads I d _ _ hd (show RelV (.ref a) (.ref a) from rfl)
    refine PySem.repr_of_reads' (h₀ := st.heap) rd hs (fun z => by rw [nd] at z; cases z) hg (by omega) (fun _ _ e => e) (fun h' u tk k => ?_) hz
    exact ⟨.str d.shown, H, I.kept k, ⟨u, rfl⟩, q⟩
end
end Gd

namespace K02
open PySem PySem.Spec PyProof.Rows L2 Tr Sq Dk Exs
/-! ### law -/
abbrev sLaw : Stmt := top 56
abbrev nmLaw : List Str := ["script", "stream", "turn", "houses", "paths", "village", "most", "given", "is_some", "was", "other", "rows", "house", "letters"]
theorem scLaw : FnScope nmLaw ["script"] (defScope sLaw) := ⟨rfl, rfl, rfl, by decide +kernel, rfl, by decide +kernel, by decide +kernel⟩
theorem adj_ordX {ps : Prs} {x y : Str} : Adj (ps.map ordP) x y ↔ Adj ps x y := by
  have h : ∀ {u v : Str}, (u, v) ∈ ps.map ordP → Adj ps u v := fun {u v} h => by
    obtain ⟨q, hq, e⟩ := List.mem_map.mp h
    rcases ordP_or q with e2 | e2
    · rw [e2] at e
      rw [e] at hq
      exact .inl hq
    · rw [e2] at e
      have : q = (v, u) := by
        obtain ⟨a, b⟩ := q
        simp only [Prod.mk.injEq] at e ⊢
        exact ⟨e.2, e.1⟩
      exact .inr (this ▸ hq)
  have h' : ∀ {u v : Str}, (u, v) ∈ ps → Adj (ps.map ordP) u v := fun {u v} h => by
    have hm : ordP (u, v) ∈ ps.map ordP := List.mem_map.mpr ⟨_, h, rfl⟩
    rcases ordP_or (u, v) with e2 | e2
    · rw [e2] at hm
      exact .inl hm
    · rw [e2] at hm
      exact .inr hm
  constructor
  · intro a
    rcases a with a | a
    · exact h a
    · exact (h a).symm
  · intro a
    rcases a with a | a
    · exact h' a
    · exact (h' a).symm
theorem rt_turnX {hs hs' : List Str} {ps ps' : Prs} {r : Str} {f : Str → Option Str} (R : Rt hs ps r f) (h1 : ∀ x, x ∈ hs ↔ x ∈ hs') (h2 : ∀ x y, Adj ps x y ↔ Adj ps' x y) : Rt hs' ps' r f :=
  ⟨R.none, fun x y e => (h2 _ _).mp (R.adj x y e), fun x y e => R.one x y ((h2 _ _).mpr e), fun x hx => R.way x ((h1 x).mpr hx)⟩
theorem ways_turnX {hs hs' : List Str} {ps ps' : Prs} {fr : Str → Str → Option Str} {way : Str → Str → List Str} (W : Ways hs ps fr way) (h1 : ∀ x, x ∈ hs ↔ x ∈ hs') (h2 : ∀ x y, Adj ps x y ↔ Adj ps' x y) : Ways hs' ps' fr way :=
  ⟨fun r hr => rt_turnX (W.rt r ((h1 r).mpr hr)) h1 h2, fun a ha r hr => W.pth a ((h1 a).mpr ha) r ((h1 r).mpr hr)⟩
theorem adj_permX {ps ps' : Prs} (h : ps'.Perm (ps.map ordP)) (x y : Str) : Adj ps' x y ↔ Adj ps x y :=
  ⟨fun a => adj_ordX.mp (a.imp (fun z => h.mem_iff.mp z) (fun z => h.mem_iff.mp z)), fun a => (adj_ordX.mpr a).imp (fun z => h.mem_iff.mpr z) (fun z => h.mem_iff.mpr z)⟩
theorem ledk_tab {hs : List Str} {kvs : List (Key × V)} (L : LedK hs kvs) : isTab hs (some kvs) = true := by
  have h1 : hasJ hs (some kvs) = true := by
    show (decide (kvs.length = hs.length) && hs.all fun h => (valV kvs (Sum.inr h)).isSome) = true
    rw [decide_eq_true L.len, Bool.true_and, List.all_eq_true]
    intro z hz
    obtain ⟨hs', h2, h3⟩ := L.ks
    rw [valk_some, h3]
    exact List.mem_map.mpr ⟨z, h2.mem_iff.mpr hz, rfl⟩
  show (hasJ hs (some kvs) && kvs.all fun p => numV p.2) = true
  rw [h1, Bool.true_and, List.all_eq_true]
  intro p hp
  obtain ⟨n, e⟩ := L.ns p hp
  rw [e]
  exact decide_eq_true (show (0 : Int) ≤ (n : Nat) by omega)
theorem ledk_let {hs : List Str} {nl : List (Str × Int)} (L : LedK hs (Rpd.tabN nl)) : isLet hs (some (Rpd.tabN nl)) = (nl.map fun q => decide (0 < q.2)).any id := by
  show (isTab hs (some (Rpd.tabN nl)) && (Rpd.tabN nl).any fun p => posV p.2) = _
  rw [ledk_tab L, Bool.true_and]
  unfold Rpd.tabN
  rw [List.any_map, List.any_map]
  rfl
theorem name_fits : ∀ z ∈ names12, (reprText z).length ≤ 40 := by decide +kernel
structure EnvL (P : Program) (w : World) (K : PySem.W.Frag) (mg : Str → Option Value) (base : Heap) (C T1 T2 : Addr) : Prop where
  start : ∃ f fd, mg "_law_start" = some (.ref f) ∧ FnOk P w K mg base CX0 1 f fd ["script"] (spStart K) ∧ PySem.W.keepIn K (.ref f) = true ∧ L2.Binds K fd ["script"] []
  vill : ∃ f fd, mg "_law_v_village" = some (.ref f) ∧ FnOk P w K mg base CX0 4 f fd ["stream", "most"] spVill ∧ PySem.W.keepIn K (.ref f) = true ∧ L2.Binds K fd ["stream", "most"] []
  draw : ∃ f fd, mg "_law_draw" = some (.ref f) ∧ FnOk P w K mg base CX0 1 f fd ["stream", "many"] spDraw ∧ PySem.W.keepIn K (.ref f) = true ∧ L2.Binds K fd ["stream", "many"] []
  pick : ∃ f fd, mg "_law_pick" = some (.ref f) ∧ FnOk P w K mg base CX0 2 f fd ["stream", "some"] (spPick K) ∧ PySem.W.keepIn K (.ref f) = true ∧ L2.Binds K fd ["stream", "some"] []
  mixed : ∃ f fd, mg "_law_mixed" = some (.ref f) ∧ FnOk P w K mg base CX0 2 f fd ["stream", "some"] (spMixed K) ∧ PySem.W.keepIn K (.ref f) = true ∧ L2.Binds K fd ["stream", "some"] []
  same : ∃ f fd, mg "_law_same" = some (.ref f) ∧ (∀ n, FnOk P w K mg base CX0 n f fd ["found", "due"] (spSame n)) ∧ PySem.W.keepIn K (.ref f) = true ∧ L2.Binds K fd ["found", "due"] []
  isl : ∃ f fd, mg "is_letters" = some (.ref f) ∧ FnOk P w K mg base CX0 4 f fd ["village", "thing"] (spIsLet C) ∧ PySem.W.keepIn K (.ref f) = true ∧ L2.Binds K fd ["village", "thing"] []
  ways : ∃ f fd, mg "_law_ways_right" = some (.ref f) ∧ FnOk P w K mg base CX0 10 f fd ["village", "houses", "paths", "letters"] (spWays mg C T1) ∧ PySem.W.keepIn K (.ref f) = true ∧ L2.Binds K fd ["village", "houses", "paths", "letters"] []
  refd : ∃ f fd, mg "_law_refused_right" = some (.ref f) ∧ FnOk P w K mg base CX0 10 f fd ["stream", "village", "houses", "letters"] (spRef mg C T2) ∧ PySem.W.keepIn K (.ref f) = true ∧ L2.Binds K fd ["stream", "village", "houses", "letters"] []
  mkv : ∃ f fd, mg "Village" = some (.ref C) ∧ Mk K C f ∧ FnOk P w K mg base CX0 4 f fd ["self", "houses", "paths"] (spInit K) ∧ L2.Binds K fd ["self", "houses", "paths"] []
  vc : VC P w K mg base C
  gRange : mg "range" = none
  gDict : mg "dict" = none
  gAny : mg "any" = none
  gAll : mg "all" = none
  gRepr : mg "repr" = none
def spLaw (K : PySem.W.Frag) (T1 T2 : Addr) : Sp := fun vs H Q _ => ∃ (a : Addr) (ns : List Int), vs = [.ref a] ∧ SqL K H a (ns.map V.int) ∧ ns.length ≤ 63 ∧ H T1 = some (.tbl #[]) ∧ H T2 = some (.tbl #[]) ∧ ∀ H', Q (.bl true) H'
section
variable {P : Program} {w : World} {K : PySem.W.Frag} {mg : Str → Option Value} {base : Heap}
theorem ok_law {C T1 T2 f cL : Addr} {fd : FuncData} {A : Around} (F : FnP K "law" sLaw f fd) (hcode : fd.code = .ref cL) (ne12 : T1 ≠ T2) (hr0 : Room 12 A) (hg : A.guards = some []) (D : EnvL P w K mg base C T1 T2) : Gd.OkAt P w K mg base CX0 A f fd ["script"] (spLaw K T1 T2) := by
  obtain ⟨fS, fdS, gS, GS, kS, bS⟩ := D.start
  obtain ⟨fV, fdV, gV, GV, kVl, bV⟩ := D.vill
  obtain ⟨fD, fdD, gD, GD, kD, bD⟩ := D.draw
  obtain ⟨fP, fdP, gP, GP, kP, bP⟩ := D.pick
  obtain ⟨fX, fdX, gX, GX, kX, bX⟩ := D.mixed
  obtain ⟨fE, fdE, gE, GE, kE, bE⟩ := D.same
  obtain ⟨fI, fdI, gI, GI, kI, bI⟩ := D.isl
  obtain ⟨fW, fdW, gW, GW, kW, bW⟩ := D.ways
  obtain ⟨fR, fdR, gR, GR, kR, bR⟩ := D.refd
  obtain ⟨fN, fdN, gN, MN, GN, bN⟩ := D.mkv
  have vc := D.vc
  have gRg := D.gRange
  have gDi := D.gDict
  have gAy := D.gAny
  have gAl := D.gAll
  have gRp := D.gRepr
  refine Gd.okAt_def (k := 11) F hcode scLaw hr0 (fun vs H Q E h => ?_) (fun outer s H vs Q E hr h => ?_)
  · obtain ⟨a, ns, rfl, _⟩ := h
    rfl
  · obtain ⟨a, ns, rfl, hq, hl, hT1, hT2, k⟩ := h
    have hu : (A.deeper (envOfC "law" (defScope sLaw) s.heap.objs.size f (.ref cL))).units + 100 < cLine := by
      have := hr.un
      omega
    have cR : ∀ X : Cx, X.A.guards = some [] → X.A.units + 100 < cLine → CallR X (.builtin "repr") _ := fun X h1 h2 => Rpd.call_reprN h1 h2
    refine' ⟨_, PSs.nox (pss_cons (ps_set (i := 1) scLaw.nd rfl (.inr rfl) (pe_call GS (hr.mono (by decide)) (by rfl) gS kS bS .nil pass0 (pa_cons (pv 0) pa_nil)))
      (pss_cons (ps_for PassesOwn.never rfl (pi_range1 (by rfl) gRg (pa_cons pe_int pa_nil)) (pg_name (i := 2) scLaw.nd rfl (.inl rfl))
        (pss_cons (ps_asg (pe_call GV (hr.mono (by decide)) (by rfl) gV kVl bV .nil pass0 (pa_cons (pv 1) (pa_cons pe_int pa_nil))) (pg_tup (by rfl) (pgs_cons (pg_name (i := 3) scLaw.nd rfl (.inr rfl)) (pgs_cons (pg_name (i := 4) scLaw.nd rfl (.inr rfl)) pgs_nil))))
        (pss_cons (ps_set (i := 5) scLaw.nd rfl (.inr rfl) (pe_make MN GN (hr.mono (by decide)) (by rfl) gN bN .nil pass0 (pa_cons (pv 3) (pa_cons (pv 4) pa_nil))))
        (pss_cons (ps_set (i := 6) scLaw.nd rfl (.inr rfl) (pe_call GP (hr.mono (by decide)) (by rfl) gP kP bP .nil pass0 (pa_cons (pv 1) (pa_cons (pe_lst (pa_cons pe_int (pa_cons pe_int (pa_cons (pe_op op_pow pe_int pe_int) pa_nil)))) pa_nil))))
        (pss_cons (ps_set (i := 7) scLaw.nd rfl (.inr rfl) (pe_callTy (call_dictP rfl) (by rfl) gDi (by decide +kernel) (pa_cons ?l1 pa_nil)))
        (pss_cons (ps_set (i := 8) scLaw.nd rfl (.inl rfl) (pe_lock (pe_callB (cr_any rfl) (by rfl) gAy (by decide +kernel) (pa_cons ?l2 pa_nil))))
        (pss_cons (ps_set (i := 9) scLaw.nd rfl (.inl rfl) (pe_callB (cR _ hg hu) (by rfl) gRp (by decide +kernel) (pa_cons (pv 7) pa_nil)))
        (pss_cons (ps_if (pt_not (pt_val (pe_call (GE 2) (hr.mono (by decide)) (by rfl) gE kE bE .nil pass0 (pa_cons (pe_lst (pa_cons (pe_call GI (hr.mono (by decide)) (by rfl) gI kI bI .nil pass0 (pa_cons (pv 5) (pa_cons (pv 7) pa_nil))) pa_nil)) (pa_cons (pe_lst (pa_cons (pv 8) pa_nil)) pa_nil))))) (pss_one (ps_ret pe_bl)) pss_nil)
        (pss_cons (ps_set (i := 10) scLaw.nd rfl (.inl rfl) (pe_callTy (call_dictP rfl) (by rfl) gDi (by decide +kernel) (pa_cons ?l3 pa_nil)))
        (Evl.pss_cut (ps_set (i := 11) scLaw.nd rfl (.inl rfl) (pe_ifExp (PW.pt (pw_and (pt_val (pv 8)) (pw_and1 (pt_cmpR op_eq (pv 2) pe_int (nomark _))))) (pe_lst (pa_cons (pv 7) (pa_cons (pv 10) (pa_cons (pv 7) pa_nil)))) (pe_ifExp (pt_val (pv 8)) (pe_lst (pa_cons (pv 7) pa_nil)) (pe_lst pa_nil))))
        (pss_cons (ps_if (pt_not (pt_val (pe_callB (cr_all rfl) (by rfl) gAl (by decide +kernel) (pa_cons ?l4 pa_nil)))) (pss_one (ps_ret pe_bl)) pss_nil)
        (pss_one (ps_if (PW.pt (pw_and (pt_val (pv 8)) (pw_and1 (PW.pt (pw_or (pt_not (pt_val (pe_call GR (hr.mono (by decide)) (by rfl) gR kR bR .nil pass0 (pa_cons (pv 1) (pa_cons (pv 5) (pa_cons (pv 3) (pa_cons (pv 7) pa_nil))))))) (pw_or1 (pt_cmpR op_ne (pe_callB (cR _ hg hu) (by rfl) gRp (by decide +kernel) (pa_cons (pv 7) pa_nil)) (pv 9) (nomark _)))))))) (pss_one (ps_ret pe_bl)) pss_nil)))))))))))))
      (pss_one (ps_ret pe_bl)))), ?rd⟩
    case l1 =>
      refine pe_lc (own := [("house", 12)]) (g := gName 12) (tt := tYes) (te := tTup (tCons (tVar 12) (tCons (tCall spDraw [] E0 (tCons (tVar 1) (tCons (tVar 6) tNil))) tNil))) rfl scLaw.nd (pi_list (pe_call GX (hr.mono (by decide)) (by rfl) gX kX bX .nil pass0 (pa_cons (pv 1) (pa_cons (pv 3) pa_nil))))
        (blkOk_by (own := [("house", 12)]) (N := nmLaw) (sc := defScope sLaw) (by decide +kernel)) (fun _ _ _ _ _ => pg_name (i := 12) scLaw.nd rfl (.inl rfl)) (fun _ _ _ _ _ => pts_nil) ?_
      intro _ _ _ _ _
      exact pe_tup (pa_cons (pv 12) (pa_cons (pe_call GD (hr.mono (by decide)) (by rfl) gD kD bD .nil pass0 (pa_cons (pv 1) (pa_cons (pv 6) pa_nil))) pa_nil))
    case l2 =>
      refine pe_lc (own := [("house", 12)]) (g := gName 12) (tt := tYes) (te := tOp (rI0 fun i j => .bl (decide (j < i))) (tDGet (tVar 7) (tVar 12)) (tC (.int 0))) rfl scLaw.nd (pi_keys (pv 7))
        (blkOk_by (own := [("house", 12)]) (N := nmLaw) (sc := defScope sLaw) (by decide +kernel)) (fun _ _ _ _ _ => pg_name (i := 12) scLaw.nd rfl (.inl rfl)) (fun _ _ _ _ _ => pts_nil) ?_
      intro _ _ _ _ _
      exact pe_cmpR op_gt (pe_dget (hu_of hr) (pv 7) (pv 12) (fun _ _ => rfl)) pe_int (nomark _)
    case l3 =>
      refine pe_lc (own := [("house", 12)]) (g := gName 12) (tt := tYes) (te := tTup (tCons (tVar 12) (tCons (tOp (rI0 fun i j => .int (i + j)) (tC (.int 1)) (tCall spDraw [] E0 (tCons (tVar 1) (tCons (tC (.int 3)) tNil)))) tNil))) rfl scLaw.nd (pi_list (pv 3))
        (blkOk_by (own := [("house", 12)]) (N := nmLaw) (sc := defScope sLaw) (by decide +kernel)) (fun _ _ _ _ _ => pg_name (i := 12) scLaw.nd rfl (.inl rfl)) (fun _ _ _ _ _ => pts_nil) ?_
      intro _ _ _ _ _
      exact pe_tup (pa_cons (pv 12) (pa_cons (pe_op op_add pe_int (pe_call GD (hr.mono (by decide)) (by rfl) gD kD bD .nil pass0 (pa_cons (pv 1) (pa_cons pe_int pa_nil)))) pa_nil))
    case l4 =>
      refine pe_lc (own := [("letters", 13)]) (g := gName 13) (tt := tYes) (te := tCall (spWays mg C T1) [] E0 (tCons (tVar 5) (tCons (tVar 3) (tCons (tVar 4) (tCons (tVar 13) tNil))))) rfl scLaw.nd (pi_list (pv 11))
        (blkOk_by (own := [("letters", 13)]) (N := nmLaw) (sc := defScope sLaw) (by decide +kernel)) (fun _ _ _ _ _ => pg_name (i := 13) scLaw.nd rfl (.inl rfl)) (fun _ _ _ _ _ => pts_nil) ?_
      intro _ _ _ _ _
      exact pe_call GW (hr.mono (by decide)) (by rfl) gW kW bW .nil pass0 (pa_cons (pv 5) (pa_cons (pv 3) (pa_cons (pv 4) (pa_cons (pv 13) pa_nil))))
    case rd =>
      refine ⟨_, rfl, a, ns, rfl, hq, hl, fun p c H1 hp0 hc0 e1 hS1 => ?_⟩
      have hT11 : Lm.TabD mg [qlW] H1 T1 := Lm.tabD_nil (e1 _ _ hT1)
      have hT12 : Lm.TabD mg [qlR] H1 T2 := Lm.tabD_nil (e1 _ _ hT2)
      refine ⟨_, rfl, by decide, by decide, ?_⟩
      refine for_range (lo := 0) (n := 4) (fun i σ H2 => ∃ v2 v3 v4 v5 v6 v7 v8 v9 v10 v11, σ = [some (.ref a), some (.ref p), v2, v3, v4, v5, v6, v7, v8, v9, v10, v11, none, none] ∧ StrAt H2 p c (i * 1000) ∧ Lm.TabD mg [qlW] H2 T1 ∧ Lm.TabD mg [qlR] H2 T2) ⟨none, none, none, none, none, none, none, none, none, none, rfl, hS1, hT11, hT12⟩ ?_ ?_
      · rintro i σ H2 hi ⟨v2, v3, v4, v5, v6, v7, v8, v9, v10, v11, rfl, hS2, hT21, hT22⟩
        have M2 : W2 mg T1 T2 p c H2 (i * 1000) H2 := ⟨hS2, hT21, hT22, fun _ _ h => h⟩
        refine ⟨_, rfl, p, c, _, 9, rfl, hS2, by omega, by decide, by decide, fun t a_ b_ hs0 qs H3 ht ha hb hq0 ht3 ha3 hb3 hP Tr0 hne h8 hgood hql kp3 s3 => ?_⟩
        have N3 := (M2.kp kp3 s3).now
        have nw : ∀ {b : Addr}, H2 b = none → b ≠ p ∧ b ≠ c ∧ b ≠ T1 ∧ b ≠ T2 := fun h => M2.ne h
        have at2 : ∀ {b : Addr} {o : HO}, H2 b = none → H3 b = some o → w2 p c T1 T2 H3 b = some o := fun h e => w2_at e (nw h).1 (nw h).2.1 (nw h).2.2.1 (nw h).2.2.2
        have ga := at2 ha ha3
        have gb := at2 hb hb3
        have gP : PrsAt (w2 p c T1 T2 H3) qs := fun u hu => at2 (hq0 u hu) (hP u hu)
        refine ⟨t, _, rfl, SqT.of ht3, rfl, ?_⟩
        refine ⟨_, _, rfl, _, _, rfl, rfl, ?_⟩
        refine ⟨_, rfl, _, rfl, fun v dx hv hdx hne2 => ?_⟩
        have hv3 : ∀ {b : Addr} {o : HO}, H3 b = some o → b ≠ v := fun h z => by rw [z, hv] at h; cases h
        have hd3 : ∀ {b : Addr} {o : HO}, H3 b = some o → b ≠ dx := fun h z => by rw [z, hdx] at h; cases h
        have up : ∀ {b : Addr} {o : HO}, H3 b = some o → upd (upd H3 dx (.own v)) v (.ins C dx []) b = some o := fun h => by rw [upd_ne (hv3 h), upd_ne (hd3 h)]; exact h
        refine ⟨v, a_, b_, C, dx, hs0, qs, rfl, upd_same, vc.cl, vc.n1, vc.n2, vc.n3, up ha3, up hb3, fun u hu => up (hP u hu), Tr0, hne, by omega, by omega, hgood, fun H4 hs ps m hkeep Vh hperm hsort hps hpw Tr hfr => ⟨rfl, ?_⟩⟩
        have x4 : Evl.Ex H3 H4 := fun b o h => hkeep b o (hv3 h) (up h)
        have N4 := N3.ex x4
        have nv := N3.ne hv
        have n3 : ∀ {b : Addr} {o : HO}, upd (upd H3 dx (.own v)) v (.ins C dx []) b = none → H4 b = some o → w2 p c T1 T2 H4 b = some o := fun h e => by
          have z := N3.ne (none_of (fun o => up) h)
          exact w2_at e z.1 z.2.1 z.2.2.1 z.2.2.2
        have Vh4 : Vil (w2 p c T1 T2 H4) C v hs ps m := ⟨w2_at Vh.at_ nv.1 nv.2.1 nv.2.2.1 nv.2.2.2, n3 hfr.a Vh.la, n3 hfr.b Vh.lb, fun t ht => n3 (hfr.z t ht) (Vh.pr t ht), Vh.eq, ⟨n3 hfr.d Vh.nr.1, fun x hx => n3 (hfr.ad x hx) (Vh.nr.2 x hx)⟩⟩
        have M4 := N4.now
        have ga4 := N4.k _ _ ga
        have gb4 := N4.k _ _ gb
        have gP4 : PrsAt (w2 p c T1 T2 H4) qs := gP.ex N4.k
        clear hkeep hfr up hv3 hd3 Vh n3 at2
        obtain ⟨fr, way, W⟩ := Tr.ways
        have hadj := adj_permX hps
        have W0 : Ways hs (qs.map (·.2)) fr way := ways_turnX W (fun x => Iff.rfl) hadj
        have T0 : Tree hs (qs.map (·.2)) := Tr0.perm hperm (List.Perm.refl _)
        have hl0 : hs0.length = hs.length := hperm.length_eq.symm
        have hgd : ∀ h ∈ hs, h ∈ names12 := fun h hh => hgood h (hperm.mem_iff.mp hh)
        have pl : ps.length ≤ 30 := by
          have := hps.length_eq
          rw [List.length_map, List.length_map] at this
          omega
        have hsne : hs ≠ [] := fun z => by
          rw [z] at hl0
          exact hne (List.length_eq_zero_iff.mp hl0)
        refine ⟨_, rfl, _, _, rfl, rfl, ⟨by decide, by decide, by decide⟩, by show 3 ≤ sizeLine; decide, fun l1 hl1 => ?_⟩
        have n1 := M4.ne hl1
        have y1 := Evl.Ex.new (o := .lst [V.int 2, .int 4, .int (10 ^ Int.toNat 9)]) hl1
        refine ⟨p, c, l1, _, _, rfl, (M4.ex y1).str, by omega, n1.1, n1.2.1, .inl upd_same, by show 1 ≤ 3; omega, by show 3 < 1000000; omega, fun mo j H5 hmo kp5 s5 => ?_⟩
        obtain ⟨mv, rfl, mv1, mv2⟩ : ∃ mv : Int, mo = .int mv ∧ 1 ≤ mv ∧ mv < 1073741824 := by
          have := List.mem_of_getElem? hmo
          simp only [List.mem_cons, List.not_mem_nil, or_false] at this
          rcases this with rfl | rfl | rfl
          · exact ⟨2, rfl, by decide, by decide⟩
          · exact ⟨4, rfl, by decide, by decide⟩
          · exact ⟨10 ^ Int.toNat 9, rfl, by decide, by decide⟩
        have M5 := (M4.ex y1).kp kp5 s5
        clear n1 y1 kp5 s5 hmo hl1
        -- the letters given
        have M5' := M5.now
        have ga5 := M5.k _ _ ga4
        refine ⟨_, rfl, _, rfl, p, c, a_, _, hs0.map V.str, rfl, M5.str, by rw [List.length_map]; omega, .inl (SqL.of (M5.get ga4)), by rw [List.length_map]; omega, fun qa ys H6 hqa hqa' hperm6 kp6 s6 => ?_⟩
        have M6 := M5'.kp kp6 s6
        obtain ⟨ws, hws, rfl⟩ : ∃ ws : List Str, ws.Perm hs0 ∧ ys = ws.map V.str := by
          refine ⟨ys.map strV, ?_, ?_⟩
          · have := hperm6.map strV
            rw [List.map_map, show strV ∘ V.str = id from rfl, List.map_id] at this
            exact this
          · rw [List.map_map]
            have : ys.map (V.str ∘ strV) = ys.map id := List.map_congr_left fun y hy => by
              obtain ⟨z, _, rfl⟩ := List.mem_map.mp (hperm6.mem_iff.mp hy)
              rfl
            rw [this, List.map_id]
        have nqa := M5.ne hqa
        have gq6 := w2_at hqa' nqa.1 nqa.2.1 nqa.2.2.1 nqa.2.2.2
        have wl : ws.length = hs0.length := hws.length_eq
        have wperm : ws.Perm hs := hws.trans hperm.symm
        rw [List.length_map] at M6
        refine ⟨qa, rfl, ⟨_, SqL.of hqa'⟩, fun D3 hD3 => ?_⟩
        have nD3 := M6.ne hD3
        refine lc_it (walk_list (xs := ws.map V.str)) (fun i3 H' => W2 mg T1 T2 p c H6 (i * 1000 + 200 + 1 + hs0.length + i3) H' ∧ ∃ (us : List Addr) (nl : List (Str × Int)), H' D3 = some (.lst (us.map V.ref)) ∧ us.length = i3 ∧ Paired (fun (t : Addr) (q : Key × V) => H' t = some (.tup [kV q.1, q.2])) us (Rpd.tabN nl) ∧ nl.map (·.1) = ws.take i3 ∧ ∀ q ∈ nl, 0 ≤ q.2 ∧ q.2 < 1073741824) ⟨M6.now.ex (Evl.Ex.new hD3), [], [], upd_same, rfl, .nil, rfl, fun q hq => by cases hq⟩ (fun i3 H' _ hp => SqL.of (hp.1.get gq6)) (fun i3 y H7 H8 hi3 hp hy => ?_) (fun H7 hp => ?_)
        · obtain ⟨M7, us, nl, e1, ul, e2, e3, e4⟩ := hp
          obtain ⟨rfl, hx⟩ := hy
          rw [List.length_map] at hi3
          obtain ⟨h, hh⟩ := getD_of hi3
          rw [List.getElem?_map, hh] at hx
          cases hx
          have tk : ws.take (i3 + 1) = ws.take i3 ++ [h] := by rw [List.take_add_one, hh]; rfl
          refine ⟨rfl, _, rfl, _, rfl, _, rfl, p, c, _, mv, rfl, M7.str, by omega, mv1, mv2, fun dn H9 dn0 dn1 kp9 s9 => ?_⟩
          have M9 := M7.kp kp9 s9
          have e1' := kp9 _ _ e1 nD3.1 nD3.2.1
          refine ⟨by show 2 ≤ sizeLine; decide, fun u hu => ?_⟩
          have yu := Evl.Ex.new (o := .tup [V.str h, .int dn]) hu
          have hDu : D3 ≠ u := ne_of_none e1' hu
          have M10 := M9.ex yu
          have e1'' := yu _ _ e1'
          have keep : ∀ {b : Addr} {vs : List V}, H8 b = some (.tup vs) → upd (upd H9 u (.tup [V.str h, .int dn])) D3 (.lst (us.map V.ref ++ [.ref u])) b = some (.tup vs) := fun {b vs} z => by
            have nb : b ≠ p ∧ b ≠ c := by
              obtain ⟨LL, cells, a, kk, m, h1, h2, _⟩ := M7.str
              exact ⟨fun w => (by rw [w, h1] at z; cases z), fun w => (by rw [w, h2] at z; cases z)⟩
            have z2 := kp9 _ _ z nb.1 nb.2
            rw [upd_ne (fun q9 => by rw [q9, e1'] at z2; cases z2), upd_ne (ne_of_none z2 hu)]
            exact z2
          refine ⟨_, e1'', ?_, (M10.mut e1'' nD3.1 nD3.2.1 hD3), us ++ [u], nl ++ [(h, dn)], by rw [upd_same, List.map_append]; rfl, by rw [List.length_append, ul]; rfl, ?_, ?_, ?_⟩
          · rw [List.length_map, ul]
            exact Nat.lt_of_le_of_lt (show i3 ≤ 30 by omega) (by decide)
          · unfold Rpd.tabN
            rw [List.map_append]
            refine paired_app (Paired.mapP e2 fun t kv z => keep z) (.cons ?_ .nil)
            rw [upd_ne hDu.symm]
            exact upd_same
          · rw [tk, List.map_append, e3]
            rfl
          · intro q' hq'
            rcases List.mem_append.mp hq' with hq' | hq'
            · exact e4 q' hq'
            · rw [List.mem_singleton.mp hq']
              exact ⟨dn0, by show dn < 1073741824; omega⟩
        obtain ⟨M7, us, nl, e1, ul, e2, e3, e4⟩ := hp
        rw [List.length_map, List.take_length] at e3
        rw [List.length_map] at M7
        have nlk : (Rpd.tabN nl).map (·.1) = ws.map (Sum.inr : Str → Key) := by
          unfold Rpd.tabN
          rw [List.map_map, ← e3, List.map_map]
          rfl
        have L : LedK hs (Rpd.tabN nl) := ⟨⟨ws, wperm, nlk⟩, fun q hq => by
          obtain ⟨r9, hr9, rfl⟩ := List.mem_map.mp hq
          exact ⟨r9.2.toNat, by have := (e4 r9 hr9).1; show V.int r9.2 = _; rw [Int.toNat_of_nonneg this]⟩⟩
        refine ⟨D3, us, Rpd.tabN nl, rfl, SqL.of e1, Paired.mapP e2 fun t q w => SqT.of w, fun gv hgv => ?_⟩
        rw [mergeK_new (Rpd.tabN nl) [] (by rw [List.nil_append]; exact L.nodup Tr.nd), List.nil_append]
        have M8 := M5.trans (M6.trans (M7.ex (Evl.Ex.new (o := .dK (Rpd.tabN nl)) hgv)))
        have gv8 : w2 p c T1 T2 (upd H7 gv (.dK (Rpd.tabN nl))) gv = some (.dK (Rpd.tabN nl)) := M7.new hgv
        generalize upd H7 gv (.dK (Rpd.tabN nl)) = H8 at M8 gv8 ⊢
        clear e1 e2 ul M7 hgv hD3 nD3 gq6 nqa hqa hqa' kp6 s6 M6 M5'
        have gv8' := w2_to _ _ gv8
        -- is there any
        have nlv : ∀ q ∈ nl, 0 ≤ q.2 ∧ q.2 < 10 ^ 10 := fun q hq => ⟨(e4 q hq).1, by have := (e4 q hq).2; omega⟩
        have nlh : ∀ q ∈ nl, q.1 ∈ hs := fun q hq => wperm.mem_iff.mp (by rw [← e3]; exact List.mem_map.mpr ⟨q, hq, rfl⟩)
        have nll : nl.length = hs.length := by
          have := congrArg List.length e3
          rw [List.length_map, wl] at this
          omega
        have fits := Rpd.shown_fits (ns := nl) (by omega) (fun q hq => name_fits _ (hgd _ (nlh q hq))) nlv
        have knd := L.nodup Tr.nd
        refine ⟨gv, _, gv8', trivial, fun od => ?_⟩
        refine ⟨_, rfl, gv, od, rfl, .inl ⟨_, upd_same, fun D hD => ?_⟩⟩
        refine lc_it (walk_keys (kvs := Rpd.tabN nl)) (fun i3 H' => Evl.Ex (upd H8 gv (.frz od (.dK (Rpd.tabN nl)))) H' ∧ H' D = some (.lst (((nl.take i3).map fun q => decide (0 < q.2)).map V.bl))) ⟨Evl.Ex.new hD, upd_same⟩ (fun i3 H' _ hp => hp.1 _ _ upd_same) (fun i3 y H9 H10 hi3 hp hy => ?_) (fun H9 hp => ?_)
        · obtain ⟨x9, e9⟩ := hp
          obtain ⟨rfl, k', v', hk, rfl⟩ := hy
          have dg : DGet H10 gv (kV k') (some v') := by
            rw [← valk_at knd hk]
            exact .inl ⟨_, _, .inr ⟨_, x9 _ _ upd_same⟩, rfl, rfl⟩
          unfold Rpd.tabN at hk hi3
          rw [List.length_map] at hi3
          obtain ⟨q, hqq⟩ := getD_of hi3
          rw [List.getElem?_map, hqq] at hk
          cases hk
          refine ⟨rfl, _, rfl, _, rfl, gv, _, rfl, dg, _, _, rfl, rfl, _, e9, ?_, ex_upd x9 hD, ?_⟩
          · rw [List.length_map, List.length_map, List.length_take]
            exact Nat.lt_of_le_of_lt (show _ ≤ 30 by omega) (by decide)
          · rw [upd_same, List.take_add_one, hqq, List.map_append, List.map_append]
            rfl
        obtain ⟨x9, e9⟩ := hp
        rw [show (Rpd.tabN nl).length = nl.length from List.length_map _, List.take_length] at e9
        refine ⟨D, _, rfl, SqL.of e9, x9 _ _ upd_same, ?_⟩
        have x89 := unlock gv8' x9
        have M9 := M8.ex x89
        have gv9 := x89 _ _ gv8'
        have W9 := w2_ex (p := p) (c := c) (T1 := T1) (T2 := T2) x89
        have gv9w := W9 _ _ gv8
        generalize upd H9 gv (.dK (Rpd.tabN nl)) = H11 at M9 gv9 gv9w ⊢
        clear x9 e9 hD x89 W9 gv8 gv8' M8
        rw [← ledk_let L]
        generalize hsome : isLet hs (some (Rpd.tabN nl)) = sm
        -- as it was
        refine ⟨_, rfl, gv, nl, rfl, gv9, Rpd.show_ok nlv, Rpd.depth_ok nl, fits, ?_⟩
        have vil9 : ∀ {Hk : Hp}, Evl.Ex (w2 p c T1 T2 H11) (w2 p c T1 T2 Hk) → Vil Hk C v hs ps m := fun e => ((Vh4.ex M9.k).ex e).ex w2_to
        have dxg : ∀ {Hk : Hp}, Hk gv = some (.dK (Rpd.tabN nl)) → DX Hk (.ref gv) (some (Rpd.tabN nl)) := fun {Hk} h => .dic h (fun q hq => by
          obtain ⟨r9, _, rfl⟩ := List.mem_map.mp hq
          exact ⟨_, .int _⟩) (fun q hq => by
          obtain ⟨r9, _, rfl⟩ := List.mem_map.mp hq
          exact fun z => by cases z) (by rw [L.len]; omega)
        refine ⟨_, rfl, _, rfl, v, .ref gv, _, hs, ps, m, rfl, vil9 (fun _ _ z => z), dxg gv9, by omega, fun H12 x12 => ?_⟩
        rw [hsome]
        refine ⟨by show 1 ≤ sizeLine; decide, fun l2 hl2 => ⟨_, rfl, by show 1 ≤ sizeLine; decide, fun l3 hl3 => ?_⟩⟩
        have y2 := Evl.Ex.new (o := .lst [V.bl sm]) hl2
        have y3 := Evl.Ex.new (o := .lst [V.bl sm]) hl3
        refine ⟨_, _, rfl, .inr (.inl ⟨l2, l3, _, _, rfl, rfl, y3 _ _ upd_same, upd_same, by show 1 ≤ 1000; decide, .cons (.inl ⟨rfl, rfl⟩) .nil⟩), fun H13 x13 => ⟨_, rfl, iteF ?_⟩⟩
        have x1113 := (x12.trans (y2.trans y3)).trans x13
        have M13 := M9.ex x1113
        have gv13 := w2_ex (p := p) (c := c) (T1 := T1) (T2 := T2) x1113 _ _ gv9w
        clear y2 y3 hl2 hl3 x12 x13
        -- others
        have N13 := M13.now
        have a13 := M13.k _ _ ga4
        refine ⟨_, rfl, a_, rfl, ⟨_, SqL.of (w2_to _ _ a13)⟩, fun D5 hD5 => ?_⟩
        have nD5 := N13.ne hD5
        refine lc_it (walk_list (xs := hs0.map V.str)) (fun i3 H' => W2 mg T1 T2 p c H13 (i * 1000 + 200 + 1 + hs0.length + ws.length + i3) H' ∧ ∃ (us : List Addr) (nm : List (Str × Int)), H' D5 = some (.lst (us.map V.ref)) ∧ us.length = i3 ∧ Paired (fun (t : Addr) (q : Key × V) => H' t = some (.tup [kV q.1, q.2])) us (Rpd.tabN nm) ∧ nm.map (·.1) = hs0.take i3 ∧ ∀ q ∈ nm, 1 ≤ q.2 ∧ q.2 < 1073741824) ⟨N13.now.ex (Evl.Ex.new hD5), [], [], upd_same, rfl, .nil, rfl, fun q hq => by cases hq⟩ (fun i3 H' _ hp => SqL.of (hp.1.get a13)) (fun i3 y H7 H8 hi3 hp hy => ?_) (fun H7 hp => ?_)
        · obtain ⟨M7, us, nm, d1, ul, d2, d3, d4⟩ := hp
          obtain ⟨rfl, hx⟩ := hy
          rw [List.length_map] at hi3
          obtain ⟨h, hh⟩ := getD_of hi3
          rw [List.getElem?_map, hh] at hx
          cases hx
          have tk : hs0.take (i3 + 1) = hs0.take i3 ++ [h] := by rw [List.take_add_one, hh]; rfl
          refine ⟨rfl, _, rfl, _, rfl, p, c, _, 3, rfl, M7.str, by omega, by decide, by decide, fun dn H9 dn0 dn1 kp9 s9 => ⟨_, _, rfl, rfl, ?_⟩⟩
          have M9 := M7.kp kp9 s9
          have d1' := kp9 _ _ d1 nD5.1 nD5.2.1
          refine ⟨by show 2 ≤ sizeLine; decide, fun u hu => ?_⟩
          have yu := Evl.Ex.new (o := .tup [V.str h, V.int (1 + dn)]) hu
          have hDu : D5 ≠ u := ne_of_none d1' hu
          have M10 := M9.ex yu
          have d1'' := yu _ _ d1'
          have keep : ∀ {b : Addr} {vs : List V}, H8 b = some (.tup vs) → upd (upd H9 u (.tup [V.str h, V.int (1 + dn)])) D5 (.lst (us.map V.ref ++ [.ref u])) b = some (.tup vs) := fun {b vs} z => by
            have nb : b ≠ p ∧ b ≠ c := by
              obtain ⟨LL, cells, a, kk, m, h1, h2, _⟩ := M7.str
              exact ⟨fun w => (by rw [w, h1] at z; cases z), fun w => (by rw [w, h2] at z; cases z)⟩
            have z2 := kp9 _ _ z nb.1 nb.2
            rw [upd_ne (fun q9 => by rw [q9, d1'] at z2; cases z2), upd_ne (ne_of_none z2 hu)]
            exact z2
          refine ⟨_, d1'', ?_, (M10.mut d1'' nD5.1 nD5.2.1 hD5), us ++ [u], nm ++ [(h, 1 + dn)], by rw [upd_same, List.map_append]; rfl, by rw [List.length_append, ul]; rfl, ?_, ?_, ?_⟩
          · rw [List.length_map, ul]
            exact Nat.lt_of_le_of_lt (show i3 ≤ 30 by omega) (by decide)
          · unfold Rpd.tabN
            rw [List.map_append]
            refine paired_app (Paired.mapP d2 fun t kv z => keep z) (.cons ?_ .nil)
            rw [upd_ne hDu.symm]
            exact upd_same
          · rw [tk, List.map_append, d3]
            rfl
          · intro q' hq'
            rcases List.mem_append.mp hq' with hq' | hq'
            · exact d4 q' hq'
            · rw [List.mem_singleton.mp hq']
              exact ⟨by show 1 ≤ 1 + dn; omega, by show 1 + dn < 1073741824; omega⟩
        obtain ⟨M7, us, nm, d1, ul, d2, d3, d4⟩ := hp
        rw [List.length_map, List.take_length] at d3
        rw [List.length_map] at M7
        have nmk : (Rpd.tabN nm).map (·.1) = hs0.map (Sum.inr : Str → Key) := by
          unfold Rpd.tabN
          rw [List.map_map, ← d3, List.map_map]
          rfl
        have L5 : LedK hs (Rpd.tabN nm) := ⟨⟨hs0, hperm.symm, nmk⟩, fun q hq => by
          obtain ⟨r9, hr9, rfl⟩ := List.mem_map.mp hq
          exact ⟨r9.2.toNat, by have := (d4 r9 hr9).1; show V.int r9.2 = _; rw [Int.toNat_of_nonneg (by omega)]⟩⟩
        have let5 : isLet hs (some (Rpd.tabN nm)) = true := by
          rw [ledk_let L5, List.any_map, List.any_eq_true]
          cases hnm : nm with
          | nil =>
            exfalso
            rw [hnm] at d3
            exact hne d3.symm
          | cons q r =>
            refine ⟨q, List.mem_cons_self, ?_⟩
            have := (d4 q (by rw [hnm]; exact List.mem_cons_self)).1
            exact decide_eq_true (by omega)
        refine ⟨D5, us, Rpd.tabN nm, rfl, SqL.of d1, Paired.mapP d2 fun t q w => SqT.of w, fun ov hov => ?_⟩
        rw [mergeK_new (Rpd.tabN nm) [] (by rw [List.nil_append]; exact L5.nodup Tr.nd), List.nil_append]
        have M14 := M13.trans (M7.ex (Evl.Ex.new (o := .dK (Rpd.tabN nm)) hov))
        have ov14 : w2 p c T1 T2 (upd H7 ov (.dK (Rpd.tabN nm))) ov = some (.dK (Rpd.tabN nm)) := M7.new hov
        have gv14 := (M7.ex (Evl.Ex.new (o := .dK (Rpd.tabN nm)) hov)).k _ _ gv13
        generalize upd H7 ov (.dK (Rpd.tabN nm)) = H14 at M14 ov14 gv14 ⊢
        clear d1 d2 ul M7 hov hD5 nD5 N13
        refine ⟨fun σ' H' => ∃ (rl : Addr) (xs : List V), σ' = [some (.ref a), some (.ref p), some (.int (0 + (i : Int))), some (.ref a_), some (.ref b_), some (.ref v), some (.int mv), some (.ref gv), some (.bl sm), some (.str (Rpd.pdN nl).shown), some (.ref ov), some (.ref rl), none, none] ∧ Evl.Ex H14 H' ∧ H' rl = some (.lst xs) ∧ xs.length ≤ 3 ∧ H14 rl = none ∧ ∀ x ∈ xs, sm = true ∧ (x = .ref gv ∨ x = .ref ov), ?_, ?_⟩
        · cases sm with
          | false =>
            refine ⟨_, rfl, _, rfl, iteF (iteF ⟨_, rfl, _, rfl, iteF ⟨Nat.zero_le _, fun rl hrl => ?_⟩⟩)⟩
            exact ⟨rl, [], rfl, Evl.Ex.new hrl, upd_same, Nat.zero_le _, hrl, fun x hx => by cases hx⟩
          | true =>
            refine ⟨_, rfl, _, rfl, iteT ⟨_, rfl, rfl, _, rfl, ?_⟩⟩
            refine ite2 (fun _ => ⟨_, rfl, _, rfl, _, rfl, by show 3 ≤ sizeLine; decide, fun rl hrl => ?_⟩) (fun _ => ⟨_, rfl, _, rfl, iteT ⟨_, rfl, by show 1 ≤ sizeLine; decide, fun rl hrl => ?_⟩⟩)
            · refine ⟨rl, [.ref gv, .ref ov, .ref gv], rfl, Evl.Ex.new hrl, upd_same, by show 3 ≤ 3; omega, hrl, fun x hx => ⟨rfl, ?_⟩⟩
              simp only [List.mem_cons, List.not_mem_nil, or_false] at hx
              rcases hx with h | h | h
              · exact .inl h
              · exact .inr h
              · exact .inl h
            · exact ⟨rl, [.ref gv], rfl, Evl.Ex.new hrl, upd_same, by show 1 ≤ 3; omega, hrl, fun x hx => ⟨rfl, .inl (List.mem_singleton.mp hx)⟩⟩
        · rintro σ' H15 ⟨rl, xs, rfl, x15, hrl, xl, hrn, hxs⟩
          have M15 := M14.ex x15
          have gv15 := w2_ex (p := p) (c := c) (T1 := T1) (T2 := T2) x15 _ _ gv14
          have ov15 := w2_ex (p := p) (c := c) (T1 := T1) (T2 := T2) x15 _ _ ov14
          have rln := M14.ne hrn
          have rl15 := w2_at hrl rln.1 rln.2.1 rln.2.2.1 rln.2.2.2
          have a15 := M15.k _ _ ga4
          have b15 := M15.k _ _ gb4
          have P15 := gP4.ex M15.k
          have V15 := Vh4.ex M15.k
          have N15 := M15.now
          refine ⟨_, rfl, rl, rfl, ⟨_, SqL.of hrl⟩, fun D6 hD6 => ?_⟩
          have nD6 := N15.ne hD6
          have one : ∀ x ∈ xs, ∃ (la : Addr) (kvs : List (Key × V)), x = .ref la ∧ w2 p c T1 T2 H15 la = some (.dK kvs) ∧ isLet hs (some kvs) = true ∧ (∀ q ∈ kvs, ∃ j, q.2 = .int j) ∧ kvs.length ≤ 30 := fun x hx => by
            have intq : ∀ nz : List (Str × Int), ∀ q ∈ Rpd.tabN nz, ∃ j, q.2 = .int j := fun nz q hq => by
              obtain ⟨r9, _, rfl⟩ := List.mem_map.mp hq
              exact ⟨_, rfl⟩
            obtain ⟨h1, h2 | h2⟩ := hxs x hx
            · exact ⟨gv, _, h2, gv15, hsome.trans h1, intq nl, by rw [L.len]; omega⟩
            · exact ⟨ov, _, h2, ov15, let5, intq nm, by rw [L5.len]; omega⟩
          refine lc_it (walk_list (xs := xs)) (fun j H' => W2 mg T1 T2 p c H15 (i * 1000 + 200 + 1 + hs0.length + ws.length + hs0.length) H' ∧ H' D6 = some (.lst ((List.replicate j true).map V.bl))) ⟨(N15.ex (Evl.Ex.new hD6)), upd_same⟩ (fun j H' _ hp => SqL.of (hp.1.get rl15)) (fun j y H16 H17 hj hp hy => ?_) (fun H16 hp => ?_)
          · obtain ⟨M16, e1⟩ := hp
            obtain ⟨rfl, hx⟩ := hy
            obtain ⟨la, kvs, rfl, hla, hlet, hint, hkl⟩ := one y (List.mem_of_getElem? hx)
            have K16 := M16.k.trans w2_1
            refine ⟨rfl, _, rfl, _, rfl, _, rfl, _, rfl, v, a_, b_, la, hs0, hs, qs, ps, m, kvs, fr, way, rfl, M16.t1, V15.ex K16, K16 _ _ a15, K16 _ _ b15, P15.ex K16, K16 _ _ hla, hlet, hint, hkl, Tr, W, T0, W0, fun x y => hadj x y, hperm, hsort, by omega, by omega, hgd, fun H18 hW => ?_⟩
            have M18 := M16.ways ne12 hW
            have e2 := w1_to _ _ (hW.k _ _ (w1_at e1 nD6.2.2.1))
            refine ⟨_, e2, ?_, M18.mut e2 nD6.1 nD6.2.1 hD6, ?_⟩
            · rw [List.length_map, List.length_replicate]
              exact Nat.lt_of_lt_of_le (show j < 3 by omega) (by decide)
            · rw [upd_same, List.replicate_succ', List.map_append]
              rfl
          obtain ⟨M16, e1⟩ := hp
          refine ⟨D6, _, rfl, SqL.of e1, ?_⟩
          rw [show (List.replicate xs.length true).all id = true by simp]
          refine ⟨_, rfl, iteF ?_⟩
          have fin : ∀ {H' : Hp} {n' : Nat}, W2 mg T1 T2 p c H15 n' H' → n' ≤ (i + 1) * 1000 → StrAt H' p c ((i + 1) * 1000) ∧ Lm.TabD mg [qlW] H' T1 ∧ Lm.TabD mg [qlR] H' T2 := fun M h => ⟨M.str.mono h, M.t1, M.t2⟩
          refine ⟨_, rfl, _, rfl, ?_⟩
          cases hsm : sm with
          | false =>
            refine iteF (iteF ?_)
            exact ⟨_, _, _, _, _, _, _, _, _, _, rfl, fin M16 (by omega)⟩
          | true =>
            have O16 := M16.k.trans w2_o
            refine iteT ⟨_, rfl, _, rfl, _, rfl, _, rfl, p, c, v, a_, gv, _, hs0, hs, ps, m, Rpd.tabN nl, fr, way, rfl, ⟨M16.str, M16.t2, fun _ _ h => h⟩, by omega, V15.ex O16, O16 _ _ a15, O16 _ _ gv15, L, hsome.trans hsm, Tr, W, hperm, hsne, by omega, hgd, fun H18 hW => ⟨_, rfl, iteF ?_⟩⟩
            have M18 := M16.ref ne12 hW
            refine ⟨_, rfl, gv, nl, rfl, M18.get gv15, Rpd.show_ok nlv, Rpd.depth_ok nl, fits, _, rfl, rfl, _, rfl, ?_⟩
            refine ite2 (fun z => absurd z (by simp)) (fun _ => ?_)
            exact ⟨_, _, _, _, _, _, _, _, _, _, rfl, fin M18 (by omega)⟩
      · rintro σ H2 ⟨v2, v3, v4, v5, v6, v7, v8, v9, v10, v11, rfl, hS2, hT21, hT22⟩
        exact k _
end
end K02

namespace Gd
open PySem PySem.Spec PyProof.Rows L2
/-! ### a law's call where nothing is under way -/
/-- what is tracked as the law begins: the tables of code objects, and the script where the written part has it not -/
def H02 (T : List Addr) (free : Bool) (a : Addr) (ob : Obj) (xs : List V) : Hp := fun b => if b ∈ T then some (.tbl #[]) else if b = a ∧ free = true then some (.frz ob (.lst xs)) else none
section
variable {T : List Addr} {free : Bool} {a b : Addr} {ob : Obj} {xs : List V}
theorem h02_tab (h : b ∈ T) : H02 T free a ob xs b = some (.tbl #[]) := if_pos h
theorem h02_cases {u : HO} (h : H02 T free a ob xs b = some u) : (b ∈ T ∧ u = .tbl #[]) ∨ (b ∉ T ∧ b = a ∧ free = true ∧ u = .frz ob (.lst xs)) := by
  unfold H02 at h
  by_cases h1 : b ∈ T
  · rw [if_pos h1] at h
    exact .inl ⟨h1, (Option.some.inj h).symm⟩
  · rw [if_neg h1] at h
    by_cases h2 : b = a ∧ free = true
    · rw [if_pos h2] at h
      exact .inr ⟨h1, h2.1, h2.2, (Option.some.inj h).symm⟩
    · rw [if_neg h2] at h
      cases h
end
theorem top_run2 {P : Program} {w : World} {K : PySem.W.Frag} {mg mb : Str → Option Value} {CX : CXT} {fa a : Addr} {cs : List (Addr × Addr)} {fd : FuncData} {x : Str} {sp : Sp} {st : Shared} {vs : List Value} {ns : List Int}
    (inK : K.In st.heap) (gN : st.heap.Ns mainGlobals mg) (bN : st.heap.Ns builtinsNs mb) (bB : ∀ y : Str, y ≠ "__name__" → mb y = bootBuiltins y) (nl : st.heap.NoLimit) (g0 : st.gens = #[])
    (tabs : ∀ p ∈ cs, st.heap.get? p.2 = some { cls := .none, data := .fields #[] }) (tabK : ∀ p ∈ cs, K.lookup p.2 = none) (codes : ∀ p ∈ cs, PySem.W.CodeHd st.heap p.1 p.2)
    (bm : ∃ (m : Addr) (ob : Obj), mg "__builtins__" = some (.ref m) ∧ m ≠ builtinsNs ∧ st.heap.get? m = some ob ∧ ob.cls = .type "module" ∧ ob.dict = some builtinsNs ∧ ob.data = .plain)
    (ha : st.heap.get? a = some { cls := .type "list", data := .seq vs.toArray }) (hi : IntsAre vs ns) (hz : ns.length ≤ sizeLine)
    (F : ∀ base : Heap, K.In base → base.Ns mainGlobals mg → (∀ p ∈ cs, LamX.TabB base mg p.1 p.2) → OkAt P w K mg base CX callerA fa fd [x] sp) (bind : ∀ (t : Shared) (u : Value), BindsTo t fd ⟨[u], []⟩ [(x, u)])
    (hsp : ∀ H : Hp, (∀ p ∈ cs, H p.2 = some (.tbl #[])) → SqL K H a (ns.map V.int) → sp [.ref a] H (fun v _ => v = .bl true) fun _ _ _ => False) (hCX : ∀ H e t, CX [] H st (fun _ _ _ => False) e t → False) :
    codeAny (model P w) callerA (.call (.ref fa) ⟨[.ref a], []⟩) (fun r t => r = .ok (.ret (.bool true)) ∧ OldK st.heap t.heap ∧ t.os = st.os ∧ AllBare t.gens) st := by
  have rv := vals_ints hi
  have tabAt : ∀ b ∈ cs.map (·.2), st.heap.get? b = some { cls := .none, data := .fields #[] } ∧ K.lookup b = none := fun b hb => by
    obtain ⟨p, hp, rfl⟩ := List.mem_map.mp hb
    exact ⟨tabs p hp, tabK p hp⟩
  have aT : a ∉ cs.map (·.2) := fun z => by
    have q := (tabAt a z).1
    rw [ha] at q
    exact nomatch congrArg Obj.data (Option.some.inj q)
  obtain ⟨fr, hfr⟩ : ∃ fr : Bool, fr = (K.lookup a).isNone := ⟨_, rfl⟩
  obtain ⟨H, hH⟩ : ∃ H : Hp, H = H02 (cs.map (·.2)) fr a { cls := .type "list", data := .seq vs.toArray } (ns.map V.int) := ⟨_, rfl⟩
  have cas : ∀ {b : Addr} {u : HO}, H b = some u → (b ∈ cs.map (·.2) ∧ u = .tbl #[]) ∨ (b ∉ cs.map (·.2) ∧ b = a ∧ fr = true ∧ u = .frz { cls := .type "list", data := .seq vs.toArray } (.lst (ns.map V.int))) := fun {b u} z => h02_cases (by rw [hH] at z; exact z)
  have isTab : ∀ p ∈ cs, H p.2 = some (.tbl #[]) := fun p hp => by
    rw [hH]
    exact h02_tab (List.mem_map.mpr ⟨p, hp, rfl⟩)
  -- what is neither a list nor an empty table is not tracked, nor is what the written part has
  have away : ∀ {b : Addr} {o : Obj}, st.heap.get? b = some o → (∀ l n, o.data ≠ .seq l n) → o.data ≠ .fields #[] → H b = none := fun {b o} e n1 n2 => by
    cases z : H b with
    | none => rfl
    | some u =>
      rcases cas z with ⟨hb, _⟩ | ⟨_, rfl, _, _⟩
      · rw [(tabAt b hb).1] at e
        cases e
        exact absurd rfl n2
      · rw [ha] at e
        cases e
        exact absurd rfl (n1 _ _)
  have awayK : ∀ {b : Addr} {o : Obj}, K.lookup b = some o → H b = none := fun {b o} e => by
    cases z : H b with
    | none => rfl
    | some u =>
      rcases cas z with ⟨hb, _⟩ | ⟨_, rfl, hf, _⟩
      · rw [(tabAt b hb).2] at e
        cases e
      · rw [hfr, e] at hf
        cases hf
  have script : SqL K H a (ns.map V.int) := by
    cases q : K.lookup a with
    | some o =>
      have e := inK a o q
      rw [ha] at e
      cases e
      exact .inr ⟨_, vs.toArray, _, q, rfl, rfl, rfl, by rw [List.size_toArray, hi.length]; exact hz, by simpa using rv⟩
    | none =>
      refine .inl (.inr ⟨{ cls := .type "list", data := .seq vs.toArray }, ?_⟩)
      rw [hH]
      unfold H02
      rw [if_neg aT, if_pos ⟨rfl, by rw [hfr, q]; rfl⟩]
  have ok : HOk P w H st.heap := fun b u z => by
    rcases cas z with ⟨hb, rfl⟩ | ⟨_, rfl, _, rfl⟩
    · exact (tabAt b hb).1
    · exact ⟨ha, by rw [List.length_map]; exact hz, vs, _, rv, ha⟩
  have ns_at : ∀ {b : Addr} {m : Str → Option Value}, st.heap.Ns b m → (hidT st.heap H).Ns b m := fun {b m} ⟨o, es, ep, e, d, r⟩ =>
    ⟨o, es, ep, hidT_get e (away e (fun l n y => by rw [d] at y; cases y) fun y => by rw [d] at y; cases y), d, r⟩
  have inB : K.In (hidT st.heap H) := fun b o e => hidT_get (inK b o e) (awayK e)
  have tabB : ∀ p ∈ cs, LamX.TabB (hidT st.heap H) mg p.1 p.2 := fun p hp => by
    refine ⟨?_, ?_, fun y => ?_⟩
    · obtain ⟨o, us, r0, r1, r2, r3, r4, r5, r6, e1, q1, q2, q3, q⟩ := codes p hp
      refine ⟨o, us, r0, r1, r2, r3, r4, r5, r6, hidT_get e1 (away e1 (fun l n y => by rw [q2] at y; cases y) fun y => ?_), q1, q2, q3, q⟩
      rw [q2] at y
      cases y
      simp at q3
    · obtain ⟨m, ob, b1, b2, b3, b4, b5, b6⟩ := bm
      have hm : H m = none := away b3 (fun l n y => by rw [b6] at y; cases y) fun y => by rw [b6] at y; cases y
      refine ⟨m, ob, b1, b2, fun y => ?_, fun y => ?_, hidT_get b3 hm, b4, b5, b6⟩
      · obtain ⟨o, es, ep, e, d, _⟩ := gN
        rw [y, e] at b3
        cases b3
        rw [d] at b6
        cases b6
      · rw [y, isTab p hp] at hm
        cases hm
    · obtain ⟨o, es, ep, e, d, _⟩ := gN
      rw [y, tabs p hp] at e
      cases e
      cases d
  obtain ⟨mc, l1, l2⟩ := nl
  have env0 : Env0 P w K mg (hidT st.heap H) callerA [] st H := ⟨rfl, ⟨inB, ns_at gN, ⟨mb, ns_at bN, bB⟩, ⟨mc, ns_at l1, l2⟩⟩, fun b o e => of_hidT e, Nat.le_of_eq (hidT_size _ _), trivial, fun b hb => (nomatch hb), ok, .of_eq g0⟩
  refine codeAny_mono (F _ inB (ns_at gN) tabB [] st H ⟨[.ref a], []⟩ [.ref a] [.ref a] _ _ env0 (bind st (.ref a)) (.cons rfl .nil) (hsp H isTab script)) fun r t h => ?_
  match r, h with
  | .error e, h => exact (hCX H e t h).elim
  | .ok .next, h => exact False.elim h
  | .ok .brk, h => exact False.elim h
  | .ok .cont, h => exact False.elim h
  | .ok (.ret u), ⟨v, H', o1, b1, un, ok2, rr, hv⟩ =>
    have hv : v = .bl true := hv
    subst hv
    obtain rfl : u = Value.bool true := rr
    have keep : ∀ {b : Addr} {o : Obj}, st.heap.get? b = some o → b ∉ cs.map (·.2) → t.heap.get? b = some o := fun {b o} e nb => by
      cases z : H b with
      | none => exact un.keep b o e z (fun y => nomatch y) (fun y => nomatch y)
      | some u =>
        rcases cas z with ⟨hb, _⟩ | ⟨_, rfl, _, rfl⟩
        · exact absurd hb nb
        · have y := (ok2 _ _ (un.frzs _ _ _ z)).1
          rw [ha] at e
          cases e
          exact y
    have more : ∀ p ∈ cs, ∃ m : Array Value, t.heap.get? p.2 = some { cls := .none, data := .fields m } := fun p hp => by
      obtain ⟨m, y⟩ := un.tbls _ _ (isTab p hp)
      exact ⟨_, ok2 _ _ y⟩
    refine ⟨rfl, ⟨fun b o e => ?_, fun b o e => ?_⟩, o1, b1⟩
    · by_cases hb : b ∈ cs.map (·.2)
      · obtain ⟨p, hp, rfl⟩ := List.mem_map.mp hb
        obtain ⟨m, y⟩ := more p hp
        rw [tabs p hp] at e
        cases e
        refine .inr (.inl ⟨((codes p hp).tab (tabs p hp)).isCodeTable, rfl, #[], m, rfl, ?_⟩)
        rw [Array.empty_append]
        exact y
      · exact .inl (keep e hb)
    · by_cases hb : b ∈ cs.map (·.2)
      · obtain ⟨p, hp, rfl⟩ := List.mem_map.mp hb
        exact ⟨_, (more p hp).choose_spec⟩
      · exact ⟨_, keep e hb⟩
/-- the walk of a law's row: what the head tells, then the law at its caller's -/
theorem walk_at2 {l : PySem.W.OpenLaw} {n : Nat} {q : Program} {loose : List Str} {XP : (Str → Option Value) → Heap → Prop} {YP : World → Heap → Prop} {d : DefRec} {CX : World → CXT} {x : Str} (hn : l.most = some n) (hn2 : n ≤ sizeLine) (hdf : d.params.defaults = [])
    (F : ∀ (w : World) (mg : Str → Option Value) (fa : Addr) (h : Heap), YP w h → h.Ns mainGlobals mg → mg d.name = some (.ref fa) → ∃ (K : PySem.W.Frag) (fd : FuncData) (cs : List (Addr × Addr)) (sp : Sp), K.In h ∧ (∀ p ∈ cs, h.get? p.2 = some { cls := .none, data := .fields #[] }) ∧ (∀ p ∈ cs, K.lookup p.2 = none) ∧ (∀ p ∈ cs, PySem.W.CodeHd h p.1 p.2) ∧
      (∀ (t : Shared) (u : Value), BindsTo t fd ⟨[u], []⟩ [(x, u)]) ∧ (∀ (H : Hp) (a : Addr) (ns : List Int), ns.length ≤ n → (∀ p ∈ cs, H p.2 = some (.tbl #[])) → SqL K H a (ns.map V.int) → sp [.ref a] H (fun v _ => v = .bl true) fun _ _ _ => False) ∧
      ∀ base : Heap, K.In base → base.Ns mainGlobals mg → (∀ p ∈ cs, LamX.TabB base mg p.1 p.2) → OkAt l.prog w K mg base (CX w) callerA fa fd [x] sp)
    (hCX : ∀ (w : World) (H : Hp) (s : Shared) (e : Value) (t : Shared), CX w [] H s (fun _ _ _ => False) e t → False) : PySem.W.WalkO q loose XP YP l.row.toRowW d [] (fun f vs => PySem.call f vs) := by
  refine Att.attach_callB hn hdf fun w s0 st mg mb fa o pm cd doc a vs ns G Y ho hd hcd hmg hobj hints hlen _ hg => ?_
  obtain ⟨K, fd, cs, sp, inK, tabs, tabK, codes, bind, hsp, ok⟩ := F w mg fa _ Y G.T.g hmg
  exact top_run2 inK G.T.g G.T.b G.T.builtins G.T.nolimit hg tabs tabK codes G.T.bmain hobj hints (Nat.le_trans hlen hn2) ok bind (fun H h1 h2 => hsp H a ns hlen h1 h2) fun H e t => hCX w H st e t
end Gd

namespace K02
open PySem PySem.Spec PyProof.Rows L2 Tr Sq Dk Exs K02H
theorem code_of {K : PySem.W.Frag} {p : Str × Option Str} {x qual : Str} {pa : Arguments} {bd : List Stmt} {sc : Scope} {fd : FuncData} (F : FunD K x qual pa bd sc [] [] (He.fAd K p) fd) : fd.code = .ref (He.cT K p).1 := by
  obtain ⟨oc, od, dV, kV, doc, pm, an, cdv, ct, osl, rfl, lk, hcd, _, _⟩ := F.ex
  obtain ⟨c, rfl⟩ := He.codeIn_ref hcd
  exact congrArg Value.ref (He.codeOf_eq lk rfl).symm
theorem facts {P : Program} {w : World} {K : PySem.W.Frag} {h : Heap} {mg : Str → Option Value} (X : K.In h) (G : h.Ns mainGlobals mg) (c : He.SaysX fa fn [] tf ex w h K) :
    ∃ fd : FuncData, (∀ (s : Shared) (v : Value), BindsTo s fd ⟨[v], []⟩ [("script", v)]) ∧ mg ("law" : Str) = some (.ref (He.fAd K ("law", none))) ∧ ∀ base : Heap, (∀ q ∈ tf, LamX.TabB base mg (He.cT K q).1 (He.cT K q).2) → Gd.OkAt P w K mg base CX0 callerA (He.fAd K ("law", none)) fd ["script"] (spLaw K (He.cT K ("_law_ways_right", none)).2 (He.cT K ("_law_refused_right", none)).2) := by
  have d := c.t.d
  obtain ⟨x0, ne12⟩ := He.ba c.more
  obtain ⟨x0, no2⟩ := He.ba x0
  obtain ⟨x0, x3⟩ := He.ba x0
  obtain ⟨x1, x2⟩ := He.ba x0
  have e1 := errB_ok x1
  have e2 := errB_ok x2
  have e3 := errB_ok x3
  have ne12 := of_decide_eq_true ne12
  have no2 := He.eqO_ok no2
  have g_is_name : mg "is_name" = some (.ref (He.ga K "is_name")) := He.glo_ok X G (d.fact 0 (f := .glo "is_name") rfl)
  have g_is_integer : mg "is_integer" = some (.ref (He.ga K "is_integer")) := He.glo_ok X G (d.fact 1 (f := .glo "is_integer") rfl)
  have g_is_number : mg "is_number" = some (.ref (He.ga K "is_number")) := He.glo_ok X G (d.fact 2 (f := .glo "is_number") rfl)
  have g_is_listed : mg "is_listed" = some (.ref (He.ga K "is_listed")) := He.glo_ok X G (d.fact 3 (f := .glo "is_listed") rfl)
  have g_is_pair : mg "is_pair" = some (.ref (He.ga K "is_pair")) := He.glo_ok X G (d.fact 4 (f := .glo "is_pair") rfl)
  have g_has_just : mg "has_just" = some (.ref (He.ga K "has_just")) := He.glo_ok X G (d.fact 5 (f := .glo "has_just") rfl)
  have g_is_table : mg "is_table" = some (.ref (He.ga K "is_table")) := He.glo_ok X G (d.fact 6 (f := .glo "is_table") rfl)
  have g_check_houses : mg "check_houses" = some (.ref (He.ga K "check_houses")) := He.glo_ok X G (d.fact 7 (f := .glo "check_houses") rfl)
  have g_checked_paths : mg "checked_paths" = some (.ref (He.ga K "checked_paths")) := He.glo_ok X G (d.fact 8 (f := .glo "checked_paths") rfl)
  have g_joined_groups : mg "joined_groups" = some (.ref (He.ga K "joined_groups")) := He.glo_ok X G (d.fact 9 (f := .glo "joined_groups") rfl)
  have g_near_houses : mg "near_houses" = some (.ref (He.ga K "near_houses")) := He.glo_ok X G (d.fact 10 (f := .glo "near_houses") rfl)
  have g_path_between : mg "path_between" = some (.ref (He.ga K "path_between")) := He.glo_ok X G (d.fact 11 (f := .glo "path_between") rfl)
  have g_is_house : mg "is_house" = some (.ref (He.ga K "is_house")) := He.glo_ok X G (d.fact 12 (f := .glo "is_house") rfl)
  have g_ask_house : mg "ask_house" = some (.ref (He.ga K "ask_house")) := He.glo_ok X G (d.fact 13 (f := .glo "ask_house") rfl)
  have g_rooted : mg "rooted" = some (.ref (He.ga K "rooted")) := He.glo_ok X G (d.fact 14 (f := .glo "rooted") rfl)
  have g_steps_towards : mg "steps_towards" = some (.ref (He.ga K "steps_towards")) := He.glo_ok X G (d.fact 15 (f := .glo "steps_towards") rfl)
  have g_signs_from : mg "signs_from" = some (.ref (He.ga K "signs_from")) := He.glo_ok X G (d.fact 16 (f := .glo "signs_from") rfl)
  have g_ask_path : mg "ask_path" = some (.ref (He.ga K "ask_path")) := He.glo_ok X G (d.fact 17 (f := .glo "ask_path") rfl)
  have g_way : mg "way" = some (.ref (He.ga K "way")) := He.glo_ok X G (d.fact 18 (f := .glo "way") rfl)
  have g_beyond : mg "beyond" = some (.ref (He.ga K "beyond")) := He.glo_ok X G (d.fact 19 (f := .glo "beyond") rfl)
  have g_is_letters : mg "is_letters" = some (.ref (He.ga K "is_letters")) := He.glo_ok X G (d.fact 20 (f := .glo "is_letters") rfl)
  have g_ask_letters : mg "ask_letters" = some (.ref (He.ga K "ask_letters")) := He.glo_ok X G (d.fact 21 (f := .glo "ask_letters") rfl)
  have g_letters_beyond : mg "letters_beyond" = some (.ref (He.ga K "letters_beyond")) := He.glo_ok X G (d.fact 22 (f := .glo "letters_beyond") rfl)
  have g__law_start : mg "_law_start" = some (.ref (He.ga K "_law_start")) := He.glo_ok X G (d.fact 23 (f := .glo "_law_start") rfl)
  have g__law_draw : mg "_law_draw" = some (.ref (He.ga K "_law_draw")) := He.glo_ok X G (d.fact 24 (f := .glo "_law_draw") rfl)
  have g__law_pick : mg "_law_pick" = some (.ref (He.ga K "_law_pick")) := He.glo_ok X G (d.fact 25 (f := .glo "_law_pick") rfl)
  have g__law_mixed : mg "_law_mixed" = some (.ref (He.ga K "_law_mixed")) := He.glo_ok X G (d.fact 26 (f := .glo "_law_mixed") rfl)
  have g__law_same : mg "_law_same" = some (.ref (He.ga K "_law_same")) := He.glo_ok X G (d.fact 27 (f := .glo "_law_same") rfl)
  have g__law_v_names : mg "_law_v_names" = some (.ref (He.ga K "_law_v_names")) := He.glo_ok X G (d.fact 28 (f := .glo "_law_v_names") rfl)
  have g__law_v_paths : mg "_law_v_paths" = some (.ref (He.ga K "_law_v_paths")) := He.glo_ok X G (d.fact 29 (f := .glo "_law_v_paths") rfl)
  have g__law_v_village : mg "_law_v_village" = some (.ref (He.ga K "_law_v_village")) := He.glo_ok X G (d.fact 30 (f := .glo "_law_v_village") rfl)
  have g__law_v_beside : mg "_law_v_beside" = some (.ref (He.ga K "_law_v_beside")) := He.glo_ok X G (d.fact 31 (f := .glo "_law_v_beside") rfl)
  have g__law_v_way : mg "_law_v_way" = some (.ref (He.ga K "_law_v_way")) := He.glo_ok X G (d.fact 32 (f := .glo "_law_v_way") rfl)
  have g__law_v_beyond : mg "_law_v_beyond" = some (.ref (He.ga K "_law_v_beyond")) := He.glo_ok X G (d.fact 33 (f := .glo "_law_v_beyond") rfl)
  have g__law_met : mg "_law_met" = some (.ref (He.ga K "_law_met")) := He.glo_ok X G (d.fact 34 (f := .glo "_law_met") rfl)
  have g__law_ways_right : mg "_law_ways_right" = some (.ref (He.ga K "_law_ways_right")) := He.glo_ok X G (d.fact 35 (f := .glo "_law_ways_right") rfl)
  have g__law_bent : mg "_law_bent" = some (.ref (He.ga K "_law_bent")) := He.glo_ok X G (d.fact 36 (f := .glo "_law_bent") rfl)
  have g__law_refused_right : mg "_law_refused_right" = some (.ref (He.ga K "_law_refused_right")) := He.glo_ok X G (d.fact 37 (f := .glo "_law_refused_right") rfl)
  have g_law : mg "law" = some (.ref (He.ga K "law")) := He.glo_ok X G (d.fact 38 (f := .glo "law") rfl)
  have g_NoHouse : mg "NoHouse" = some (.ref (He.ga K "NoHouse")) := He.glo_ok X G (d.fact 39 (f := .glo "NoHouse") rfl)
  have g_NoPath : mg "NoPath" = some (.ref (He.ga K "NoPath")) := He.glo_ok X G (d.fact 40 (f := .glo "NoPath") rfl)
  have g_BadLetters : mg "BadLetters" = some (.ref (He.ga K "BadLetters")) := He.glo_ok X G (d.fact 41 (f := .glo "BadLetters") rfl)
  have g_Village : mg "Village" = some (.ref (He.ga K "Village")) := He.glo_ok X G (d.fact 42 (f := .glo "Village") rfl)
  have n_int : mg "int" = none := He.free_ok X G (d.fact 43 (f := .free "int") rfl)
  have n_bool : mg "bool" = none := He.free_ok X G (d.fact 44 (f := .free "bool") rfl)
  have n_str : mg "str" = none := He.free_ok X G (d.fact 45 (f := .free "str") rfl)
  have n_isinstance : mg "isinstance" = none := He.free_ok X G (d.fact 46 (f := .free "isinstance") rfl)
  have n_list : mg "list" = none := He.free_ok X G (d.fact 47 (f := .free "list") rfl)
  have n_tuple : mg "tuple" = none := He.free_ok X G (d.fact 48 (f := .free "tuple") rfl)
  have n_len : mg "len" = none := He.free_ok X G (d.fact 49 (f := .free "len") rfl)
  have n_all : mg "all" = none := He.free_ok X G (d.fact 50 (f := .free "all") rfl)
  have n_any : mg "any" = none := He.free_ok X G (d.fact 51 (f := .free "any") rfl)
  have n_zip : mg "zip" = none := He.free_ok X G (d.fact 52 (f := .free "zip") rfl)
  have n_enumerate : mg "enumerate" = none := He.free_ok X G (d.fact 53 (f := .free "enumerate") rfl)
  have n_range : mg "range" = none := He.free_ok X G (d.fact 54 (f := .free "range") rfl)
  have n_max : mg "max" = none := He.free_ok X G (d.fact 55 (f := .free "max") rfl)
  have n_sorted : mg "sorted" = none := He.free_ok X G (d.fact 56 (f := .free "sorted") rfl)
  have n_dict : mg "dict" = none := He.free_ok X G (d.fact 57 (f := .free "dict") rfl)
  have n_sum : mg "sum" = none := He.free_ok X G (d.fact 58 (f := .free "sum") rfl)
  have n_repr : mg "repr" = none := He.free_ok X G (d.fact 59 (f := .free "repr") rfl)
  have i_ln := He.int_ok X G (d.fact 60 (f := .int "LONGEST_NAME" 12) rfl)
  have i_sm := He.str_ok X G (d.fact 61 (f := .str "SMALL_LETTERS" "abcdefghijklmnopqrstuvwxyz") rfl)
  have i_fi := He.str_ok X G (d.fact 62 (f := .str "FIGURES" "0123456789") rfl)
  have v_cl := He.cls_ok (d.fact 63 (f := .cls "Village") rfl)
  have v_n1 := He.noat_ok (d.fact 64 (f := .noat "Village" "_houses") rfl)
  have v_n2 := He.noat_ok (d.fact 65 (f := .noat "Village" "_paths") rfl)
  have v_n3 := He.noat_ok (d.fact 66 (f := .noat "Village" "_near") rfl)
  have v_m_houses := He.meth_ok (d.fact 67 (f := .meth "Village" "houses") rfl)
  have v_m_near := He.meth_ok (d.fact 68 (f := .meth "Village" "near") rfl)
  have v_mk := He.mkr_ok (d.fact 69 (f := .mkr "Village") rfl)
  have no_1 := He.exm_ok (d.fact 70 (f := .exm "NoPath" "NoHouse" false) rfl)
  have no_2 := He.exm_ok (d.fact 71 (f := .exm "BadLetters" "NoHouse" false) rfl)
  have no_3 := He.exm_ok (d.fact 72 (f := .exm "BadLetters" "NoPath" false) rfl)
  obtain ⟨d_is_name, F_is_name⟩ := d.def_ 0 (d := dd "is_name" 13) rfl
  obtain ⟨d_is_integer, F_is_integer⟩ := d.def_ 1 (d := dd "is_integer" 14) rfl
  obtain ⟨d_is_number, F_is_number⟩ := d.def_ 2 (d := dd "is_number" 15) rfl
  obtain ⟨d_is_listed, F_is_listed⟩ := d.def_ 3 (d := dd "is_listed" 16) rfl
  obtain ⟨d_is_pair, F_is_pair⟩ := d.def_ 4 (d := dd "is_pair" 17) rfl
  obtain ⟨d_has_just, F_has_just⟩ := d.def_ 5 (d := dd "has_just" 18) rfl
  obtain ⟨d_is_table, F_is_table⟩ := d.def_ 6 (d := dd "is_table" 19) rfl
  obtain ⟨d_check_houses, F_check_houses⟩ := d.def_ 7 (d := dd "check_houses" 22) rfl
  obtain ⟨d_checked_paths, F_checked_paths⟩ := d.def_ 8 (d := dd "checked_paths" 23) rfl
  obtain ⟨d_joined_groups, F_joined_groups⟩ := d.def_ 9 (d := dd "joined_groups" 24) rfl
  obtain ⟨d_near_houses, F_near_houses⟩ := d.def_ 10 (d := dd "near_houses" 25) rfl
  obtain ⟨d_path_between, F_path_between⟩ := d.def_ 11 (d := dd "path_between" 26) rfl
  obtain ⟨d_is_house, F_is_house⟩ := d.def_ 12 (d := dd "is_house" 27) rfl
  obtain ⟨d_ask_house, F_ask_house⟩ := d.def_ 13 (d := dd "ask_house" 28) rfl
  obtain ⟨d_rooted, F_rooted⟩ := d.def_ 14 (d := dd "rooted" 30) rfl
  obtain ⟨d_steps_towards, F_steps_towards⟩ := d.def_ 15 (d := dd "steps_towards" 31) rfl
  obtain ⟨d_signs_from, F_signs_from⟩ := d.def_ 16 (d := dd "signs_from" 32) rfl
  obtain ⟨d_ask_path, F_ask_path⟩ := d.def_ 17 (d := dd "ask_path" 33) rfl
  obtain ⟨d_way, F_way⟩ := d.def_ 18 (d := dd "way" 34) rfl
  obtain ⟨d_beyond, F_beyond⟩ := d.def_ 19 (d := dd "beyond" 35) rfl
  obtain ⟨d_is_letters, F_is_letters⟩ := d.def_ 20 (d := dd "is_letters" 37) rfl
  obtain ⟨d_ask_letters, F_ask_letters⟩ := d.def_ 21 (d := dd "ask_letters" 38) rfl
  obtain ⟨d_letters_beyond, F_letters_beyond⟩ := d.def_ 22 (d := dd "letters_beyond" 39) rfl
  obtain ⟨d__law_start, F__law_start⟩ := d.def_ 23 (d := dd "_law_start" 41) rfl
  obtain ⟨d__law_draw, F__law_draw⟩ := d.def_ 24 (d := dd "_law_draw" 42) rfl
  obtain ⟨d__law_pick, F__law_pick⟩ := d.def_ 25 (d := dd "_law_pick" 43) rfl
  obtain ⟨d__law_mixed, F__law_mixed⟩ := d.def_ 26 (d := dd "_law_mixed" 44) rfl
  obtain ⟨d__law_same, F__law_same⟩ := d.def_ 27 (d := dd "_law_same" 45) rfl
  obtain ⟨d__law_v_names, F__law_v_names⟩ := d.def_ 28 (d := dd "_law_v_names" 46) rfl
  obtain ⟨d__law_v_paths, F__law_v_paths⟩ := d.def_ 29 (d := dd "_law_v_paths" 47) rfl
  obtain ⟨d__law_v_village, F__law_v_village⟩ := d.def_ 30 (d := dd "_law_v_village" 48) rfl
  obtain ⟨d__law_v_beside, F__law_v_beside⟩ := d.def_ 31 (d := dd "_law_v_beside" 49) rfl
  obtain ⟨d__law_v_way, F__law_v_way⟩ := d.def_ 32 (d := dd "_law_v_way" 50) rfl
  obtain ⟨d__law_v_beyond, F__law_v_beyond⟩ := d.def_ 33 (d := dd "_law_v_beyond" 51) rfl
  obtain ⟨d__law_met, F__law_met⟩ := d.def_ 34 (d := dd "_law_met" 52) rfl
  obtain ⟨d__law_ways_right, F__law_ways_right⟩ := d.def_ 35 (d := dd "_law_ways_right" 53) rfl
  obtain ⟨d__law_bent, F__law_bent⟩ := d.def_ 36 (d := dd "_law_bent" 54) rfl
  obtain ⟨d__law_refused_right, F__law_refused_right⟩ := d.def_ 37 (d := dd "_law_refused_right" 55) rfl
  obtain ⟨d_law, F_law⟩ := d.def_ 38 (d := dd "law" 56) rfl
  obtain ⟨d_e1, F_e1⟩ := d.def_ 39 (d := di "NoHouse" "NoHouse.__init__" 5) rfl
  obtain ⟨d_e2, F_e2⟩ := d.def_ 40 (d := di "NoPath" "NoPath.__init__" 6) rfl
  obtain ⟨d_e3, F_e3⟩ := d.def_ 41 (d := di "BadLetters" "BadLetters.__init__" 3) rfl
  obtain ⟨d_vi, F_vi⟩ := d.def_ 42 (d := dm "__init__" "Village.__init__" 0) rfl
  obtain ⟨d_v_houses, F_v_houses⟩ := d.def_ 43 (d := dm "houses" "Village.houses" 1) rfl
  obtain ⟨d_v_near, F_v_near⟩ := d.def_ 44 (d := dm "near" "Village.near" 3) rfl
  have b_is_name : L2.Binds K d_is_name ["thing"] [] := F_is_name.bindsN fun _ _ _ _ _ _ us hl => match us, hl with | [_], _ => rfl
  have b_is_integer : L2.Binds K d_is_integer ["thing"] [] := F_is_integer.bindsN fun _ _ _ _ _ _ us hl => match us, hl with | [_], _ => rfl
  have b_is_number : L2.Binds K d_is_number ["thing"] [] := F_is_number.bindsN fun _ _ _ _ _ _ us hl => match us, hl with | [_], _ => rfl
  have b_is_listed : L2.Binds K d_is_listed ["thing"] [] := F_is_listed.bindsN fun _ _ _ _ _ _ us hl => match us, hl with | [_], _ => rfl
  have b_is_pair : L2.Binds K d_is_pair ["thing"] [] := F_is_pair.bindsN fun _ _ _ _ _ _ us hl => match us, hl with | [_], _ => rfl
  have b_has_just : L2.Binds K d_has_just ["thing", "keys"] [] := F_has_just.bindsN fun _ _ _ _ _ _ us hl => match us, hl with | [_, _], _ => rfl
  have b_is_table : L2.Binds K d_is_table ["thing", "keys"] [] := F_is_table.bindsN fun _ _ _ _ _ _ us hl => match us, hl with | [_, _], _ => rfl
  have b_check_houses : L2.Binds K d_check_houses ["houses"] [] := F_check_houses.bindsN fun _ _ _ _ _ _ us hl => match us, hl with | [_], _ => rfl
  have b_checked_paths : L2.Binds K d_checked_paths ["houses", "paths"] [] := F_checked_paths.bindsN fun _ _ _ _ _ _ us hl => match us, hl with | [_, _], _ => rfl
  have b_joined_groups : L2.Binds K d_joined_groups ["group", "one", "other"] [] := F_joined_groups.bindsN fun _ _ _ _ _ _ us hl => match us, hl with | [_, _, _], _ => rfl
  have b_near_houses : L2.Binds K d_near_houses ["houses", "paths"] [] := F_near_houses.bindsN fun _ _ _ _ _ _ us hl => match us, hl with | [_, _], _ => rfl
  have b_path_between : L2.Binds K d_path_between ["one", "other"] [] := F_path_between.bindsN fun _ _ _ _ _ _ us hl => match us, hl with | [_, _], _ => rfl
  have b_is_house : L2.Binds K d_is_house ["village", "thing"] [] := F_is_house.bindsN fun _ _ _ _ _ _ us hl => match us, hl with | [_, _], _ => rfl
  have b_ask_house : L2.Binds K d_ask_house ["village", "thing"] [] := F_ask_house.bindsN fun _ _ _ _ _ _ us hl => match us, hl with | [_, _], _ => rfl
  have b_rooted : L2.Binds K d_rooted ["village", "root"] [] := F_rooted.bindsN fun _ _ _ _ _ _ us hl => match us, hl with | [_, _], _ => rfl
  have b_steps_towards : L2.Binds K d_steps_towards ["village", "root"] [] := F_steps_towards.bindsN fun _ _ _ _ _ _ us hl => match us, hl with | [_, _], _ => rfl
  have b_signs_from : L2.Binds K d_signs_from ["village", "house"] [] := F_signs_from.bindsN fun _ _ _ _ _ _ us hl => match us, hl with | [_, _], _ => rfl
  have b_ask_path : L2.Binds K d_ask_path ["village", "house", "other"] [] := F_ask_path.bindsN fun _ _ _ _ _ _ us hl => match us, hl with | [_, _, _], _ => rfl
  have b_way : L2.Binds K d_way ["village", "one", "other"] [] := F_way.bindsN fun _ _ _ _ _ _ us hl => match us, hl with | [_, _, _], _ => rfl
  have b_beyond : L2.Binds K d_beyond ["village", "house", "other"] [] := F_beyond.bindsN fun _ _ _ _ _ _ us hl => match us, hl with | [_, _, _], _ => rfl
  have b_is_letters : L2.Binds K d_is_letters ["village", "thing"] [] := F_is_letters.bindsN fun _ _ _ _ _ _ us hl => match us, hl with | [_, _], _ => rfl
  have b_ask_letters : L2.Binds K d_ask_letters ["village", "letters"] [] := F_ask_letters.bindsN fun _ _ _ _ _ _ us hl => match us, hl with | [_, _], _ => rfl
  have b_letters_beyond : L2.Binds K d_letters_beyond ["village", "letters", "house", "other"] [] := F_letters_beyond.bindsN fun _ _ _ _ _ _ us hl => match us, hl with | [_, _, _, _], _ => rfl
  have b__law_start : L2.Binds K d__law_start ["script"] [] := F__law_start.bindsN fun _ _ _ _ _ _ us hl => match us, hl with | [_], _ => rfl
  have b__law_draw : L2.Binds K d__law_draw ["stream", "many"] [] := F__law_draw.bindsN fun _ _ _ _ _ _ us hl => match us, hl with | [_, _], _ => rfl
  have b__law_pick : L2.Binds K d__law_pick ["stream", "some"] [] := F__law_pick.bindsN fun _ _ _ _ _ _ us hl => match us, hl with | [_, _], _ => rfl
  have b__law_mixed : L2.Binds K d__law_mixed ["stream", "some"] [] := F__law_mixed.bindsN fun _ _ _ _ _ _ us hl => match us, hl with | [_, _], _ => rfl
  have b__law_same : L2.Binds K d__law_same ["found", "due"] [] := F__law_same.bindsN fun _ _ _ _ _ _ us hl => match us, hl with | [_, _], _ => rfl
  have b__law_v_names : L2.Binds K d__law_v_names ["stream", "many"] [] := F__law_v_names.bindsN fun _ _ _ _ _ _ us hl => match us, hl with | [_, _], _ => rfl
  have b__law_v_paths : L2.Binds K d__law_v_paths ["stream", "houses"] [] := F__law_v_paths.bindsN fun _ _ _ _ _ _ us hl => match us, hl with | [_, _], _ => rfl
  have b__law_v_village : L2.Binds K d__law_v_village ["stream", "most"] [] := F__law_v_village.bindsN fun _ _ _ _ _ _ us hl => match us, hl with | [_, _], _ => rfl
  have b__law_v_beside : L2.Binds K d__law_v_beside ["paths", "house"] [] := F__law_v_beside.bindsN fun _ _ _ _ _ _ us hl => match us, hl with | [_, _], _ => rfl
  have b__law_v_way : L2.Binds K d__law_v_way ["paths", "one", "other"] [] := F__law_v_way.bindsN fun _ _ _ _ _ _ us hl => match us, hl with | [_, _, _], _ => rfl
  have b__law_v_beyond : L2.Binds K d__law_v_beyond ["houses", "paths", "house", "other"] [] := F__law_v_beyond.bindsN fun _ _ _ _ _ _ us hl => match us, hl with | [_, _, _, _], _ => rfl
  have b__law_ways_right : L2.Binds K d__law_ways_right ["village", "houses", "paths", "letters"] [] := F__law_ways_right.bindsN fun _ _ _ _ _ _ us hl => match us, hl with | [_, _, _, _], _ => rfl
  have b__law_bent : L2.Binds K d__law_bent ["stream", "given"] [] := F__law_bent.bindsN fun _ _ _ _ _ _ us hl => match us, hl with | [_, _], _ => rfl
  have b__law_refused_right : L2.Binds K d__law_refused_right ["stream", "village", "houses", "letters"] [] := F__law_refused_right.bindsN fun _ _ _ _ _ _ us hl => match us, hl with | [_, _, _, _], _ => rfl
  have bL := FunD.bindsA (ps := ["script"]) F_law fun _ _ _ _ _ _ us hl => match us, hl with | [_], _ => rfl
  refine ⟨d_law, fun s v => bL s [v] rfl, g_law, fun base TB => ?_⟩
  have b_e1 : L2.Binds K d_e1 ["self", "thing"] [] := F_e1.bindsN fun _ _ _ _ _ _ us hl => match us, hl with | [_, _], _ => rfl
  have b_e2 : L2.Binds K d_e2 ["self", "one", "other"] [] := F_e2.bindsN fun _ _ _ _ _ _ us hl => match us, hl with | [_, _, _], _ => rfl
  have b_e3 : L2.Binds K d_e3 ["self", "thing"] [] := F_e3.bindsN fun _ _ _ _ _ _ us hl => match us, hl with | [_, _], _ => rfl
  have b_vi : L2.Binds K d_vi ["self", "houses", "paths"] [] := F_vi.bindsN fun _ _ _ _ _ _ us hl => match us, hl with | [_, _, _], _ => rfl
  have b_v_houses : L2.Binds K d_v_houses ["self"] [] := F_v_houses.bindsN fun _ _ _ _ _ _ us hl => match us, hl with | [_], _ => rfl
  have b_v_near : L2.Binds K d_v_near ["self"] [] := F_v_near.bindsN fun _ _ _ _ _ _ us hl => match us, hl with | [_], _ => rfl
  have T1 : Err P w K mg base "NoHouse" "thing" (He.ga K "NoHouse") (He.fAd K ("NoHouse", some "__init__")) := ⟨e1, g_NoHouse, d_e1, Exs.ok_init e1 F_e1 rfl ⟨rfl, rfl, rfl, by decide +kernel, rfl, by decide +kernel, by decide +kernel⟩ rfl rfl (by decide) (by decide), b_e1⟩
  have T2 : Err2 P w K mg base "NoPath" "one" "other" (He.ga K "NoPath") (He.fAd K ("NoPath", some "__init__")) := ⟨e2, no2, by decide, g_NoPath, d_e2, Exs.ok_init2 e2.oc e2.no no2 F_e2 rfl ⟨rfl, rfl, rfl, by decide +kernel, rfl, by decide +kernel, by decide +kernel⟩ rfl rfl rfl (by decide) (by decide) (by decide) (by decide), b_e2⟩
  have T3 : Err P w K mg base "BadLetters" "thing" (He.ga K "BadLetters") (He.fAd K ("BadLetters", some "__init__")) := ⟨e3, g_BadLetters, d_e3, Exs.ok_init e3 F_e3 rfl ⟨rfl, rfl, rfl, by decide +kernel, rfl, by decide +kernel, by decide +kernel⟩ rfl rfl (by decide) (by decide), b_e3⟩
  have o_draw := ok_draw (P := P) (w := w) (base := base) F__law_draw n_int
  have o_pick := ok_pick (P := P) (w := w) (base := base) F__law_pick F__law_draw n_int g__law_draw n_len
  have o_mixed := ok_mixed (P := P) (w := w) (base := base) F__law_mixed F__law_draw n_int g__law_draw n_len n_list n_range
  have o_names := ok_names F__law_v_names o_mixed b__law_mixed F__law_mixed.kp g__law_mixed
  have o_paths := ok_paths F__law_v_paths o_draw b__law_draw F__law_draw.kp g__law_draw o_mixed b__law_mixed F__law_mixed.kp g__law_mixed n_range n_len n_max
  have o_vill := ok_vill F__law_v_village o_draw b__law_draw F__law_draw.kp g__law_draw o_mixed b__law_mixed F__law_mixed.kp g__law_mixed o_names b__law_v_names F__law_v_names.kp g__law_v_names o_paths b__law_v_paths F__law_v_paths.kp g__law_v_paths
  have o_bes := ok_bes (P := P) (w := w) (base := base) F__law_v_beside n_sorted
  have o_way := ok_way F__law_v_way o_bes b__law_v_beside F__law_v_beside.kp g__law_v_beside
  have o_lst := ok_isLst (P := P) (w := w) (base := base) F_is_listed n_list n_tuple n_isinstance
  have o_name := ok_isName (P := P) (w := w) (base := base) F_is_name n_isinstance n_str n_len n_all i_ln i_sm i_fi
  have o_check := ok_check F_check_houses o_name b_is_name F_is_name.kp g_is_name o_lst b_is_listed F_is_listed.kp g_is_listed n_len n_enumerate
  have o_pair := ok_isPair F_is_pair o_lst b_is_listed F_is_listed.kp g_is_listed n_len
  have o_btw := ok_between (P := P) (w := w) (mg := mg) (base := base) F_path_between
  have o_join := ok_joined (P := P) (w := w) (mg := mg) (base := base) F_joined_groups
  have o_near := ok_near (P := P) (w := w) (mg := mg) (base := base) F_near_houses
  have o_pc := ok_pathsC F_checked_paths o_lst b_is_listed F_is_listed.kp g_is_listed o_pair b_is_pair F_is_pair.kp g_is_pair o_join b_joined_groups F_joined_groups.kp g_joined_groups o_btw b_path_between F_path_between.kp g_path_between n_isinstance n_str n_enumerate n_all n_sorted
  have o_vi := ok_init F_vi o_check b_check_houses F_check_houses.kp g_check_houses o_pc b_checked_paths F_checked_paths.kp g_checked_paths o_near b_near_houses F_near_houses.kp g_near_houses n_sorted
  have vc : VC P w K mg base (He.ga K "Village") := ⟨v_cl, v_n1, v_n2, v_n3, ⟨_, _, v_m_houses, ok_houses F_v_houses n_list, b_v_houses⟩, ⟨_, _, v_m_near, ok_nearM F_v_near, b_v_near⟩⟩
  have o_ish := ok_isHouse F_is_house vc n_isinstance n_str
  have o_rt := ok_rooted F_rooted vc
  have o_st := ok_steps F_steps_towards o_rt b_rooted F_rooted.kp g_rooted
  have o_sf := ok_signs F_signs_from o_rt b_rooted F_rooted.kp g_rooted
  have o_ah := ok_askH F_ask_house T1 o_ish b_is_house F_is_house.kp g_is_house
  have o_ap := ok_askP F_ask_path vc T2 o_ah b_ask_house F_ask_house.kp g_ask_house
  have o_wy := ok_wayOf F_way o_ah b_ask_house F_ask_house.kp g_ask_house o_st b_steps_towards F_steps_towards.kp g_steps_towards
  have o_be := ok_beyOf F_beyond vc o_ap b_ask_path F_ask_path.kp g_ask_path o_sf b_signs_from F_signs_from.kp g_signs_from
  have o_num := ok_isNum (P := P) (w := w) (base := base) F_is_number F_is_integer n_int n_bool n_isinstance g_is_integer
  have o_hj := ok_hasJ (P := P) (w := w) (base := base) F_has_just n_isinstance n_dict n_len n_all
  have o_it := ok_isTab F_is_table o_hj b_has_just F_has_just.kp g_has_just o_num b_is_number F_is_number.kp g_is_number n_all
  have o_il := ok_isLet F_is_letters vc o_it b_is_table F_is_table.kp g_is_table n_any
  have o_al := ok_askL F_ask_letters T3 o_il b_is_letters F_is_letters.kp g_is_letters
  have o_lb := ok_letB F_letters_beyond o_al b_ask_letters F_ask_letters.kp g_ask_letters o_be b_beyond F_beyond.kp g_beyond n_sum
  have o_same := ok_same (P := P) (w := w) (base := base) F__law_same g__law_same n_int n_bool n_list n_tuple n_dict n_isinstance n_len n_all n_zip
  have o_vb := ok_beyond F__law_v_beyond o_way b__law_v_way F__law_v_way.kp g__law_v_way n_sorted
  have o_bent := ok_bentK F__law_bent o_pick b__law_pick F__law_pick.kp g__law_pick n_list n_dict
  have ew : EnvW P w K mg base (He.ga K "Village") (He.ga K "NoHouse") (He.ga K "NoPath") (He.ga K "BadLetters") := {
    way := ⟨_, _, g_way, o_wy, F_way.kp, b_way⟩
    bey := ⟨_, _, g_beyond, o_be, F_beyond.kp, b_beyond⟩
    letb := ⟨_, _, g_letters_beyond, o_lb, F_letters_beyond.kp, b_letters_beyond⟩
    same := ⟨_, _, g__law_same, o_same, F__law_same.kp, b__law_same⟩
    vway := ⟨_, _, g__law_v_way, o_way, F__law_v_way.kp, b__law_v_way⟩
    vbes := ⟨_, _, g__law_v_beside, o_bes, F__law_v_beside.kp, b__law_v_beside⟩
    vbey := ⟨_, _, g__law_v_beyond, o_vb, F__law_v_beyond.kp, b__law_v_beyond⟩
    met := ⟨_, _, g__law_met, F__law_met⟩
    e1 := ⟨_, T1⟩, e2 := ⟨_, T2⟩, e3 := ⟨_, T3⟩, no1 := no_1, no2 := no_2, no3 := no_3, gSum := n_sum }
  have o_ways := ok_ways F__law_ways_right (code_of F__law_ways_right) (TB (("_law_ways_right" : Str), none) (by simp [tf])) ew
  have o_ref := ok_ref F__law_refused_right (code_of F__law_refused_right) (TB (("_law_refused_right" : Str), none) (by simp [tf])) ⟨ew, ⟨_, _, g__law_bent, o_bent, F__law_bent.kp, b__law_bent⟩, ⟨_, _, g_is_letters, o_il, F_is_letters.kp, b_is_letters⟩, n_range⟩
  exact ok_law F_law (code_of F_law) ne12 ⟨rfl, by decide, by decide⟩ rfl {
    start := ⟨_, _, g__law_start, ok_start F__law_start n_list, F__law_start.kp, b__law_start⟩
    vill := ⟨_, _, g__law_v_village, o_vill, F__law_v_village.kp, b__law_v_village⟩
    draw := ⟨_, _, g__law_draw, o_draw, F__law_draw.kp, b__law_draw⟩
    pick := ⟨_, _, g__law_pick, o_pick, F__law_pick.kp, b__law_pick⟩
    mixed := ⟨_, _, g__law_mixed, o_mixed, F__law_mixed.kp, b__law_mixed⟩
    same := ⟨_, _, g__law_same, o_same, F__law_same.kp, b__law_same⟩
    isl := ⟨_, _, g_is_letters, o_il, F_is_letters.kp, b_is_letters⟩
    ways := ⟨_, _, g__law_ways_right, o_ways, F__law_ways_right.kp, b__law_ways_right⟩
    refd := ⟨_, _, g__law_refused_right, o_ref, F__law_refused_right.kp, b__law_refused_right⟩
    mkv := ⟨_, _, g_Village, v_mk, o_vi, b_vi⟩
    vc := vc
    gRange := n_range, gDict := n_dict, gAny := n_any, gAll := n_all, gRepr := n_repr }
end K02
open PySem PySem.W PySem.Calls PyProof.Rows
theorem PySem.Challenge.cw_letterround_k02_whole_ways_holds : PySem.Challenge.rw_letterround_k02_whole_ways.Holds := by
  w_on; o_law
  refine HandSHeadRun.head_any (r := OpenLaw.row PySem.Challenge.rw_letterround_k02_whole_ways) (q := view (OpenLaw.row PySem.Challenge.rw_letterround_k02_whole_ways).prog [56]) (H := K02H.hk) (ob := K02H.ob) (M := 40000) (loose := K02H.loose) (d := HandSHeadRun.topDef (OpenLaw.row PySem.Challenge.rw_letterround_k02_whole_ways).prog 56) (kwd := []) K02H.ob_eq
    ?op ?fe K02H.run (by kernel_rfl) (by kernel_rfl) (by kernel_rfl) (by rfl) (by first | assumption | decide +kernel) (by decide +kernel) ⟨rfl, rfl, rfl, rfl, rfl, by decide +kernel⟩ ?hw ?hc
  case op => kernel_rfl
  case fe =>
    intro s
    rfl
  case hw => w_witness2
  case hc =>
    refine Gd.walk_at2 (l := PySem.Challenge.rw_letterround_k02_whole_ways) (n := 63) (x := "script") (CX := fun _ => L2.CX0) rfl (by decide) (by kernel_rfl) ?F (fun _ _ _ _ _ z => z)
    intro w mg fa h Y G hmg0
    obtain ⟨K, KX, c⟩ := Y
    have hmg : mg ("law" : PySem.Str) = some (.ref fa) := by
      have e : (HandSHeadRun.topDef (OpenLaw.row PySem.Challenge.rw_letterround_k02_whole_ways).prog 56).name = ("law" : PySem.Str) := by kernel_rfl
      rw [← e]
      exact hmg0
    obtain ⟨fd, hb, hl, hF⟩ := K02.facts (P := (PySem.Challenge.rw_letterround_k02_whole_ways).prog) (w := w) KX G c
    have e := hmg.symm.trans hl
    cases e
    have tm : ∀ p ∈ K02H.tf.map (He.cT K), ∃ q ∈ K02H.tf, p = He.cT K q := fun p hp => by
      obtain ⟨q, hq, rfl⟩ := List.mem_map.mp hp
      exact ⟨q, hq, rfl⟩
    refine ⟨K, fd, K02H.tf.map (He.cT K), K02.spLaw K (He.cT K ("_law_ways_right", none)).2 (He.cT K ("_law_refused_right", none)).2, KX, fun p hp => ?_, fun p hp => ?_, fun p hp => ?_, hb, fun H a ns hl hH hS => ⟨a, ns, rfl, hS, hl, ?_, ?_, fun _ => rfl⟩, fun base _ _ hT => hF base fun q hq => hT _ (List.mem_map.mpr ⟨q, hq, rfl⟩)⟩
    · obtain ⟨q, hq, rfl⟩ := tm p hp
      exact c.empty _ hq
    · obtain ⟨q, hq, rfl⟩ := tm p hp
      exact c.out _ hq
    · obtain ⟨q, hq, rfl⟩ := tm p hp
      exact codeHd_of_K KX (c.hd _ hq)
    · exact hH _ (List.mem_map.mpr ⟨("_law_ways_right", none), by simp [K02H.tf], rfl⟩)
    · exact hH _ (List.mem_map.mpr ⟨("_law_refused_right", none), by simp [K02H.tf], rfl⟩)

