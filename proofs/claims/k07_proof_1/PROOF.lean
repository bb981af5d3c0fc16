import PyProof.Rows.All
import Wide.All
import OpenK.AllK
import Wide.FinOn
import KE.KStateDown
import HandS.ForMost
import HandS.Lambda
import HandS.HeadWalk
import HandS.Head2
import HandS.HeadHook4
import HandS.Style
import HandS.IsInst
import HandS.WordsExc
import HandS.ExcOwn
import HandS.Star
import HandS.NoneIn
import HandS.DictComp
import HandS.ListItems
import HandS.SetFor
import HandS.Evl
import PySem.Challenge.RW_letterround_k07_villages_of_villages
import KE.GoesEnum
import KE.GoesZip
import KE.GoesMore
import HandS.Walk
import HandS.ExcInit
import HandS.ExcField
import HandS.TryMany
import HandS.Defaults
import HandS.HeadHook1
import HandS.Codes
import HandS.Base
import HandS.Call
import HandS.List
import HandS.Keys
import KE.KIsAll
import HandS.Dict
import HandS.Iter
import HandS.Comp
import PyProof.CompUse
import HandS.Sort
import HandS.SortOrd
import HandS.SortRule
import PyProof.Rows.SortKeyStr
import PyProof.DictKinds
import HandS.DeepEq
import PyProof.FString5
import HandS.Conv
import HandS.TupLen
import HandS.DictTup
import HandS.Finally
import KE.KDictItemsList
import KE.KDictPairs
import KE.DataFind
import PyProof.InstEq
import HandS.OwnEq
import PyProof.InstSpecial
import KE.KLam
import KE.KDictCopyH
import HandS.TupSets
import HandS.SetKeys
import PyProof.Rows.SetFrom
import PyProof.Rows.SetObj
import PyProof.WalkInts
import HandS.EndBits
import HandS.EndTab
import PyProof.ReprRoads
import PyProof.ReprText
import PyProof.StrBlockL
import KE.KxText
import KE.KDictZip
import KE.KItemsList
set_option Elab.async false
set_option linter.all false
set_option maxRecDepth 100000
set_option maxHeartbeats 4000000
namespace K07
open PySem PySem.Spec PyProof.Rows L2
abbrev FnP (K : PySem.W.Frag) (x : Str) (st : Stmt) (f : Addr) (fd : FuncData) : Prop := FunD K x x (defArgs st) (defBody st) (defScope st) [] [] f fd
def top (i : Nat) : Stmt := PySem.Challenge.pw_letterround_k07_villages_of_villages.main.body.getD i (.Pass ⟨0, 0, 0, 0⟩)
abbrev sDraw : Stmt := top 37
/-- the stream at p, its cells at c, at most n draws so far -/
def StrN (H : Hp) (p c : Addr) (n L : Nat) : Prop := ∃ (cells : List Int) (a k m : Int), H p = some (.lst [.ref c, .int a, .int k, .int m]) ∧ H c = some (.lst (cells.map V.int)) ∧ cells.length = L ∧ L ≤ 63 ∧ 0 ≤ a ∧ 0 ≤ k ∧ k ≤ n ∧ 0 ≤ m ∧ m < 2147483647
def StrAt (H : Hp) (p c : Addr) (n : Nat) : Prop := ∃ L, StrN H p c n L
theorem str_ne {H : Hp} {p c : Addr} {n L : Nat} (h : StrN H p c n L) : p ≠ c := by
  obtain ⟨cells, a, k, m, h1, h2, _⟩ := h
  refine ne_of h1 h2 fun z => ?_
  injection z with z
  cases cells with
  | nil => cases z
  | cons i r =>
    rw [List.map_cons] at z
    injection z with z1 z2
    cases z1
theorem StrN.set {H : Hp} {p c : Addr} {n' L : Nat} {cells : List Int} {a k m : Int} (h2 : H c = some (.lst (cells.map V.int))) (hne : p ≠ c) (hL : cells.length = L) (hL' : L ≤ 63) (ha : 0 ≤ a) (hk : 0 ≤ k) (hk' : k ≤ n') (hm : 0 ≤ m) (hm' : m < 2147483647) :
    StrN (upd H p (.lst [.ref c, .int a, .int k, .int m])) p c n' L := ⟨cells, a, k, m, upd_same, by rw [upd_ne hne.symm]; exact h2, hL, hL', ha, hk, hk', hm, hm'⟩
theorem StrN.keep {H H' : Hp} {p c : Addr} {n L : Nat} (h : StrN H p c n L) (e : ∀ b o, H b = some o → H' b = some o) : StrN H' p c n L := by
  obtain ⟨cells, a, k, m, h1, h2, r⟩ := h
  exact ⟨cells, a, k, m, e _ _ h1, e _ _ h2, r⟩
theorem StrAt.keep {H H' : Hp} {p c : Addr} {n : Nat} (h : StrAt H p c n) (e : ∀ b o, H b = some o → H' b = some o) : StrAt H' p c n := by
  obtain ⟨L, h⟩ := h
  exact ⟨L, h.keep e⟩
theorem StrAt.new {H : Hp} {p c q : Addr} {n : Nat} {o : HO} (h : StrAt H p c n) (hq : H q = none) : StrAt (upd H q o) p c n := h.keep fun b u e => by
  rw [upd_ne (ne_of_none e hq)]
  exact e
theorem StrAt.mono {H : Hp} {p c : Addr} {n n' : Nat} (h : StrAt H p c n) (hn : n ≤ n') : StrAt H p c n' := by
  obtain ⟨L, cells, a, k, m, h1, h2, h3, h4, h5, h6, h7, h8⟩ := h
  exact ⟨L, cells, a, k, m, h1, h2, h3, h4, h5, h6, by omega, h8⟩
/-- all but the stream stays -/
def Kp (p c : Addr) (H H' : Hp) : Prop := ∀ b o, H b = some o → b ≠ p → b ≠ c → H' b = some o
theorem Kp.refl {p c : Addr} (H : Hp) : Kp p c H H := fun _ _ e _ _ => e
theorem Kp.trans {p c : Addr} {H H1 H2 : Hp} (a : Kp p c H H1) (b : Kp p c H1 H2) : Kp p c H H2 := fun x o e h1 h2 => b x o (a x o e h1 h2) h1 h2
theorem Kp.new {p c q : Addr} {o : HO} {H H' : Hp} (a : Kp p c H H') (h : H' q = none) : Kp p c H (upd H' q o) := fun x u e h1 h2 => by
  have := a x u e h1 h2
  rw [upd_ne (ne_of_none this h)]
  exact this
theorem Kp.stream {p c : Addr} {o : HO} {H H' : Hp} (a : Kp p c H H') : Kp p c H (upd H' p o) := fun x u e h1 h2 => by
  rw [upd_ne h1]
  exact a x u e h1 h2
theorem Kp.cells {p c : Addr} {o : HO} {H H' : Hp} (a : Kp p c H H') : Kp p c H (upd H' c o) := fun x u e h1 h2 => by
  rw [upd_ne h2]
  exact a x u e h1 h2
theorem StrAt.ne {H : Hp} {p c q : Addr} {n : Nat} (h : StrAt H p c n) (hq : H q = none) : q ≠ p ∧ q ≠ c := by
  obtain ⟨L, cells, a, k, m, h1, h2, r⟩ := h
  exact ⟨(ne_of_none h1 hq).symm, (ne_of_none h2 hq).symm⟩
theorem StrAt.upd {H : Hp} {p c q : Addr} {n : Nat} {o : HO} (h : StrAt H p c n) (h1 : q ≠ p) (h2 : q ≠ c) : StrAt (L2.upd H q o) p c n := by
  obtain ⟨L, cells, a, k, m, e1, e2, r⟩ := h
  exact ⟨L, cells, a, k, m, by rw [upd_ne h1.symm]; exact e1, by rw [upd_ne h2.symm]; exact e2, r⟩
theorem Kp.mut {p c q : Addr} {o : HO} {H H' : Hp} (a : Kp p c H H') (h : H q = none) : Kp p c H (L2.upd H' q o) := fun x u e h1 h2 => by
  rw [upd_ne (ne_of_none e h)]
  exact a x u e h1 h2
theorem seq_nat {n j : Nat} (hj : j < n) : seqIndex? (j : Int) n = some j := (ixN_seq (Evl.ixN_nat hj)).1
/-- len of a list or tuple -/
abbrev rLn (K : PySem.W.Frag) : List V → Hp → VK → Prop := fun xs H Q => ∃ p ys, xs = [.ref p] ∧ (SqL K H p ys ∨ SqT K H p ys) ∧ Q (.int ys.length) H
def spDraw : Sp := fun vs H Q _ => ∃ (p c : Addr) (n : Nat) (many : Int), vs = [.ref p, .int many] ∧ StrAt H p c n ∧ n ≤ 1000000000 ∧ 1 ≤ many ∧ many < 1073741824 ∧
  ∀ (d : Int) (H' : Hp), 0 ≤ d → d < many → Kp p c H H' → StrAt H' p c (n + 1) → Q (.int d) H'
theorem dpa_ints {K : PySem.W.Frag} {H : Hp} : ∀ ns : List Int, DpAll K H (ns.map V.int) (ns.map PyData.int)
  | [] => .nil
  | n :: r => .cons (.int n) (dpa_ints r)
theorem dp_ints {K : PySem.W.Frag} {H : Hp} {a : Addr} {ns : List Int} (h : SqL K H a (ns.map V.int)) : Dp K H (.ref a) (.list (ns.map PyData.int)) := .lst h (dpa_ints ns)
theorem lay_ints : ∀ ns : List Int, PyData.canLayAll0 (ns.map PyData.int) = true
  | [] => by simp [PyData.canLayAll0]
  | n :: r => by simp [PyData.canLayAll0, PyData.canLay0, lay_ints r]
theorem depth_ints : ∀ ns : List Int, PyData.depthAll (ns.map PyData.int) = 0
  | [] => by simp [PyData.depthAll]
  | n :: r => by simp [PyData.depthAll, PyData.depth, depth_ints r]
theorem shaped_ints (ns : List Int) : SeqAt.shaped (.list (ns.map PyData.int)) = true := by
  unfold SeqAt.shaped
  simp [PyData.canLay0, PyData.depth, lay_ints, depth_ints]
theorem eqv_nil_ints : ∀ ns : List Int, PyData.eqv (.list (ns.map PyData.int)) (.list []) = ns.isEmpty
  | [] => by simp [PyData.eqv, PyData.eqvAll]
  | n :: r => by simp [PyData.eqv, PyData.eqvAll]
section
variable {P : Program} {w : World} {K : PySem.W.Frag} {mg : Str → Option Value} {base : Heap}
theorem scDraw : FnScope ["stream", "many", "cell", "digit", "mixed"] ["stream", "many"] (defScope sDraw) := ⟨rfl, rfl, rfl, by decide +kernel, rfl, by decide +kernel, by decide +kernel⟩
theorem ok_draw {f : Addr} {fd : FuncData} (F : FnP K "_law_draw" sDraw f fd) (gI : mg "int" = none) : FnOk P w K mg base CX0 1 f fd ["stream", "many"] spDraw := by
  refine F.ok scDraw (fun vs H Q E h => ?_) (fun cdv A outer s H vs Q E hr h => ?_)
  · obtain ⟨p, c, n, many, rfl, _⟩ := h
    rfl
  · obtain ⟨p, c, n, many, rfl, hS, hn, hm1, hm2, k⟩ := h
    refine ⟨_, PSs.nox (pss_cons (ps_asg (pe_op op_add (pe_ix ix_list (pv 0) pe_int (fun _ _ => rfl)) pe_int) (pg_sub (pv 0) pe_int set_list))
      (Evl.pss_cut (ps_while PassesOwn.never (PW.pt (pw_and (pt_cmpR op_eq (pe_ix ix_list (pv 0) pe_int (fun _ _ => rfl)) pe_int (nomark _)) (pw_and1 (pt_cmpR (op_neD hr.units) (pe_ix ix_list (pv 0) pe_int (fun _ _ => rfl)) (pe_lst pa_nil) (nomark _)))))
        (pss_cons (ps_set (i := 2) scDraw.nd rfl (.inl rfl) (pe_bm PySem.F.plainAttrs_list PySem.F.slot_list_pop PySem.F.type_list_pop mt_popAt (pe_ix ix_list (pv 0) pe_int (fun _ _ => rfl)) (pa_cons pe_int pa_nil)))
        (pss_cons (ps_asg (pe_op op_mod (pe_callTy call_int1 rfl gI (by decide +kernel) (pa_cons (pe_op op_add (pe_op op_add (pe_op op_mul (pe_ix ix_list (pv 0) pe_int (fun _ _ => rfl)) pe_int) (pv 2)) pe_int) pa_nil)) pe_int) (pg_sub (pv 0) pe_int set_list))
        (pss_one (ps_asg (pe_ifExp (pt_cmpR op_ge (pv 2) (pe_op op_pow pe_int pe_int) (nomark _)) (pv 2) pe_int) (pg_sub (pv 0) pe_int set_list))))))
      (pss_cons (ps_if (pt_cmpR op_gt (pe_ix ix_list (pv 0) pe_int (fun _ _ => rfl)) pe_int (nomark _))
        (pss_cons (ps_set (i := 3) scDraw.nd rfl (.inl rfl) (pe_op op_mod (pe_callTy call_int1 rfl gI (by decide +kernel) (pa_cons (pe_ix ix_list (pv 0) pe_int (fun _ _ => rfl)) pa_nil)) (pv 1)))
        (pss_cons (ps_asg (pe_op op_fdiv (pe_ix ix_list (pv 0) pe_int (fun _ _ => rfl)) (pv 1)) (pg_sub (pv 0) pe_int set_list))
        (pss_one (ps_ret (pv 3))))) pss_nil)
      (pss_cons (ps_set (i := 4) scDraw.nd rfl (.inl rfl) (pe_op op_mod (pe_callTy call_int1 rfl gI (by decide +kernel) (pa_cons (pe_op op_pow (pe_op op_add (pe_op op_add (pe_ix ix_list (pv 0) pe_int (fun _ _ => rfl)) (pe_op op_mul pe_int (pe_ix ix_list (pv 0) pe_int (fun _ _ => rfl)))) pe_int) pe_int) pa_nil)) pe_int))
      (pss_one (ps_ret (pe_op op_mod (pe_op op_mod (pe_callTy call_int1 rfl gI (by decide +kernel) (pa_cons (pe_op op_pow (pe_op op_add (pe_op op_add (pe_op op_mul (pv 4) pe_int) (pe_op op_mul pe_int (pe_ix ix_list (pv 0) pe_int (fun _ _ => rfl)))) pe_int) pe_int) pa_nil)) pe_int) (pv 1)))))))), ?_⟩
    obtain ⟨L, hS⟩ := hS
    have hpc := str_ne hS
    obtain ⟨cells, a, kk, m, h1, h2, hL, hL6, ha, hk0, hk, hm0, hm⟩ := hS
    refine ⟨_, rfl, p, _, _, _, rfl, rfl, SqL.of h1, rfl, _, _, rfl, rfl, _, rfl, p, _, _, 2, rfl, rfl, h1, rfl, ?_⟩
    show tSeq _ _ _ _ (upd H p (.lst [.ref c, .int a, .int (kk + 1), .int m]))
    have S1 : StrN (upd H p (.lst [.ref c, .int a, .int (kk + 1), .int m])) p c (n + 1) L := StrN.set h2 hpc hL hL6 ha (by omega) (by omega) hm0 hm
    have K1 : Kp p c H (upd H p (.lst [.ref c, .int a, .int (kk + 1), .int m])) := (Kp.refl H).stream
    generalize upd H p (.lst [.ref c, .int a, .int (kk + 1), .int m]) = H1 at S1 K1
    refine ⟨fun σ H' => ∃ v2 v3 v4, σ = [some (.ref p), some (.int many), v2, v3, v4] ∧ Kp p c H H' ∧ ∃ L, StrN H' p c (n + 1) L, ⟨fun L σ H' => ∃ v2 v3 v4, σ = [some (.ref p), some (.int many), v2, v3, v4] ∧ Kp p c H H' ∧ StrN H' p c (n + 1) L, ⟨L, none, none, none, rfl, K1, S1⟩, ?_⟩, ?_⟩
    · rintro L' σ H' ⟨v2, v3, v4, rfl, K2, S2⟩
      obtain ⟨cells', a', k', m', g1, g2, gL, gL6, ga, gk0, gk, gm0, gm⟩ := id S2
      refine ⟨_, rfl, p, _, _, _, rfl, rfl, SqL.of g1, rfl, rfl, _, rfl, ?_⟩
      refine ite2 (fun hz => ?_) (fun hz => ⟨v2, v3, v4, rfl, K2, L', S2⟩)
      refine ⟨_, rfl, p, _, _, _, rfl, rfl, SqL.of g1, rfl, Nat.zero_le _, fun q hq => ?_⟩
      have nqp : p ≠ q := ne_of_none g1 hq
      have nqc : c ≠ q := ne_of_none g2 hq
      have S3 : StrN (upd H' q (.lst [])) p c (n + 1) L' := S2.keep fun b u e => by rw [upd_ne (ne_of_none e hq)]; exact e
      have K3 : Kp p c H (upd H' q (.lst [])) := K2.new hq
      refine ⟨_, _, dp_ints (ns := cells') (SqL.of (by rw [upd_ne nqc]; exact g2)), dp_ints (ns := []) (SqL.of upd_same), shaped_ints _, shaped_ints _, _, rfl, ?_⟩
      rw [show (List.map PyData.int ([] : List Int)) = [] from rfl, eqv_nil_ints]
      have g1' : upd H' q (.lst []) p = some (.lst [.ref c, .int a', .int k', .int m']) := by rw [upd_ne nqp]; exact g1
      have g2' : upd H' q (.lst []) c = some (.lst (cells'.map V.int)) := by rw [upd_ne nqc]; exact g2
      generalize upd H' q (.lst []) = H3 at S3 K3 g1' g2'
      cases cells' with
      | nil => exact iteF ⟨v2, v3, v4, rfl, K3, L', S3⟩
      | cons z r =>
        refine iteT ⟨fun σ' H' => ∃ v2 v3 v4, σ' = [some (.ref p), some (.int many), v2, v3, v4] ∧ Kp p c H H' ∧ StrN H' p c (n + 1) r.length, fun σ' H' q => ⟨r.length, by rw [← gL]; exact Nat.lt_succ_self _, q⟩, ?_⟩
        refine ⟨_, rfl, p, _, _, _, rfl, rfl, SqL.of g1', rfl, .inl ⟨rfl, _, SqL.of g2'⟩, c, _, 0, 0, .int z, rfl, rfl, g2', by decide, by decide, by unfold seqIndex?; simp, rfl, ?_⟩
        have hr63 : r.length ≤ 63 := by
          rw [List.length_cons] at gL
          omega
        have g1c : upd H3 c (.lst (r.map V.int)) p = some (.lst [.ref c, .int a', .int k', .int m']) := by rw [upd_ne hpc]; exact g1'
        have g2c : upd H3 c (.lst (r.map V.int)) c = some (.lst (r.map V.int)) := upd_same
        have K4 : Kp p c H (upd H3 c (.lst (r.map V.int))) := K3.cells
        show tSeq _ _ _ _ (upd H3 c (.lst (r.map V.int)))
        generalize upd H3 c (.lst (r.map V.int)) = H4 at g1c g2c K4
        refine ⟨_, rfl, p, _, _, _, rfl, rfl, SqL.of g1c, rfl, _, _, rfl, rfl, .inr (by decide), _, rfl, _, _, rfl, rfl, _, _, rfl, rfl, .inl ⟨_, rfl, _, _, rfl, rfl, by show (0 : Int) < 2147483647; decide, ?_⟩⟩
        have hmm := Int.emod_nonneg (m' * 8191 + z + 3) (b := 2147483647) (by decide)
        have hmm2 := Int.emod_lt_of_pos (m' * 8191 + z + 3) (b := 2147483647) (by decide)
        refine ⟨_, rfl, p, _, _, 3, rfl, rfl, g1c, rfl, ?_⟩
        dsimp only [List.set]
        have g1d : upd H4 p (.lst [.ref c, .int a', .int k', .int ((m' * 8191 + z + 3) % 2147483647)]) p = some (.lst [.ref c, .int a', .int k', .int ((m' * 8191 + z + 3) % 2147483647)]) := upd_same
        have g2d : upd H4 p (.lst [.ref c, .int a', .int k', .int ((m' * 8191 + z + 3) % 2147483647)]) c = some (.lst (r.map V.int)) := by rw [upd_ne hpc.symm]; exact g2c
        have K5 : Kp p c H (upd H4 p (.lst [.ref c, .int a', .int k', .int ((m' * 8191 + z + 3) % 2147483647)])) := K4.stream
        generalize upd H4 p (.lst [.ref c, .int a', .int k', .int ((m' * 8191 + z + 3) % 2147483647)]) = H5 at g1d g2d K5
        refine ⟨_, rfl, _, _, rfl, rfl, ⟨by decide, by decide, by decide⟩, _, _, rfl, rfl, _, rfl, ?_⟩
        refine ite2 (fun hge => ⟨_, rfl, _, rfl, p, _, _, 1, rfl, rfl, g1d, rfl, ?_⟩) (fun _ => ⟨_, rfl, p, _, _, 1, rfl, rfl, g1d, rfl, ?_⟩)
        · have hz0 : 0 ≤ z := by
            have := of_decide_eq_true hge
            have e : (10 : Int) ^ (18 : Int).toNat = 1000000000000000000 := by decide
            rw [e] at this
            omega
          exact ⟨_, _, _, rfl, K5.stream, StrN.set g2d hpc rfl hr63 hz0 gk0 gk hmm hmm2⟩
        · exact ⟨_, _, _, rfl, K5.stream, StrN.set g2d hpc rfl hr63 (Int.le_refl 0) gk0 gk hmm hmm2⟩
    · rintro σ H' ⟨v2, v3, v4, rfl, K2, L', S2⟩
      obtain ⟨cells', a', k', m', g1, g2, gL, gL6, ga, gk0, gk, gm0, gm⟩ := id S2
      refine ⟨_, rfl, p, _, _, _, rfl, rfl, SqL.of g1, rfl, _, _, rfl, rfl, _, rfl, ?_⟩
      refine ite2 (fun hz => ?_) (fun hz => ?_)
      · have hpos : 0 < a' := of_decide_eq_true hz
        refine ⟨_, rfl, p, _, _, _, rfl, rfl, SqL.of g1, rfl, .inl ⟨_, rfl, _, rfl, _, _, rfl, rfl, by show (0 : Int) < many; omega, ?_⟩⟩
        refine ⟨_, rfl, p, _, _, _, rfl, rfl, SqL.of g1, rfl, _, rfl, _, _, rfl, rfl, ⟨by omega, by omega⟩, _, rfl, p, _, _, 1, rfl, rfl, g1, rfl, ?_⟩
        refine ⟨_, rfl, ?_⟩
        refine k _ _ (Int.emod_nonneg _ (by omega)) (Int.emod_lt_of_pos _ (by omega)) K2.stream ⟨L', StrN.set g2 hpc gL gL6 (Int.ediv_nonneg (by omega) (by omega)) gk0 gk gm0 gm⟩
      · have b1 : 0 ≤ m' + 7919 * k' + 104729 := by omega
        have b2 : m' + 7919 * k' + 104729 < 2 ^ 60 := by omega
        refine ⟨_, rfl, p, _, _, _, rfl, rfl, SqL.of g1, rfl, _, rfl, p, _, _, _, rfl, rfl, SqL.of g1, rfl, _, _, rfl, rfl, .inl (by decide), _, _, rfl, rfl, _, _, rfl, rfl, _, _, rfl, rfl, ⟨by decide, by decide, by omega⟩, .inl ⟨_, rfl, _, _, rfl, rfl, by show (0 : Int) < 2147483629; decide, ?_⟩⟩
        have hmm := Int.emod_nonneg ((m' + 7919 * k' + 104729) ^ (5 : Int).toNat) (b := 2147483629) (by decide)
        have hmm2 := Int.emod_lt_of_pos ((m' + 7919 * k' + 104729) ^ (5 : Int).toNat) (b := 2147483629) (by decide)
        dsimp only [gName]
        generalize (m' + 7919 * k' + 104729) ^ (5 : Int).toNat % 2147483629 = mx at hmm hmm2 ⊢
        refine ⟨_, rfl, _, _, rfl, rfl, .inr (by decide), _, rfl, p, _, _, _, rfl, rfl, SqL.of g1, rfl, _, _, rfl, rfl, .inl (by decide), _, _, rfl, rfl, _, _, rfl, rfl, _, _, rfl, rfl, ⟨by decide, by decide, by omega⟩, .inl ⟨_, rfl, _, _, rfl, rfl, by show (0 : Int) < 1000000007; decide, _, rfl, _, _, rfl, rfl, by show (0 : Int) < many; omega, ?_⟩⟩
        exact k _ _ (Int.emod_nonneg _ (by omega)) (Int.emod_lt_of_pos _ (by omega)) K2 ⟨L', S2⟩

/-! ### _law_start, _law_pick, _law_mixed -/
abbrev sStart : Stmt := top 36
def spStart (K : PySem.W.Frag) : Sp := fun vs H Q _ => ∃ (a : Addr) (ns : List Int), vs = [.ref a] ∧ SqL K H a (ns.map V.int) ∧ ns.length ≤ 63 ∧
  ∀ (p c : Addr) (H' : Hp), H p = none → H c = none → (∀ b o, H b = some o → H' b = some o) → StrAt H' p c 0 → Q (.ref p) H'
theorem scStart : FnScope ["script"] ["script"] (defScope sStart) := ⟨rfl, rfl, rfl, by decide +kernel, rfl, by decide +kernel, by decide +kernel⟩
theorem ok_start {f : Addr} {fd : FuncData} (F : FnP K "_law_start" sStart f fd) (gL : mg "list" = none) : FnOk P w K mg base CX0 1 f fd ["script"] (spStart K) := by
  refine F.ok scStart (fun vs H Q E h => ?_) (fun cdv A outer s H vs Q E hr h => ?_)
  · obtain ⟨a, ns, rfl, _⟩ := h
    rfl
  · obtain ⟨a, ns, rfl, hS, hl, k⟩ := h
    refine ⟨_, PSs.nox (pss_one (ps_ret (pe_lst (pa_cons (pe_callTy call_list_of rfl gL (by decide +kernel) (pa_cons (pv 0) pa_nil)) (pa_cons pe_int (pa_cons pe_int (pa_cons pe_int pa_nil))))))), ?_⟩
    refine ⟨_, rfl, a, _, rfl, .inl hS, fun c hc => ⟨by show 4 ≤ sizeLine; decide, fun p hp => ?_⟩⟩
    have hpc : p ≠ c := fun e => by
      rw [e, upd_same] at hp
      cases hp
    refine k p c _ (by rw [upd_ne hpc] at hp; exact hp) hc (fun b o e => ?_) ⟨ns.length, ns, 0, 0, 11, upd_same, by rw [upd_ne hpc.symm]; exact upd_same, rfl, hl, Int.le_refl _, Int.le_refl _, Int.le_refl _, by decide, by decide⟩
    have hbc := ne_of_none e hc
    have hbp : b ≠ p := fun z => by
      rw [z] at e
      rw [upd_ne hpc, e] at hp
      cases hp
    rw [upd_ne hbp, upd_ne hbc]
    exact e

abbrev sPick : Stmt := top 38
/-- some: a list | a tuple that is no part of the stream -/
def spPick (K : PySem.W.Frag) : Sp := fun vs H Q _ => ∃ (p c l : Addr) (n : Nat) (xs : List V), vs = [.ref p, .ref l] ∧ StrAt H p c n ∧ n ≤ 1000000000 ∧ l ≠ p ∧ l ≠ c ∧ (H l = some (.lst xs) ∨ H l = some (.tup xs)) ∧ 1 ≤ xs.length ∧ xs.length < 1000000 ∧
  ∀ (x : V) (j : Nat) (H' : Hp), xs[j]? = some x → Kp p c H H' → StrAt H' p c (n + 1) → Q x H'
theorem scPick : FnScope ["stream", "some"] ["stream", "some"] (defScope sPick) := ⟨rfl, rfl, rfl, by decide +kernel, rfl, by decide +kernel, by decide +kernel⟩
theorem ok_pick {f fD : Addr} {fd fdD : FuncData} (F : FnP K "_law_pick" sPick f fd) (FD : FnP K "_law_draw" sDraw fD fdD) (gI : mg "int" = none) (gD : mg "_law_draw" = some (.ref fD)) (gL : mg "len" = none) : FnOk P w K mg base CX0 2 f fd ["stream", "some"] (spPick K) := by
  have GD : FnOk P w K mg base CX0 1 fD fdD ["stream", "many"] spDraw := ok_draw FD gI
  have bD : Binds K fdD ["stream", "many"] [] := FD.bindsN fun _ _ _ _ _ _ us hl => match us, hl with | [_, _], _ => rfl
  refine F.ok scPick (fun vs H Q E h => ?_) (fun cdv A outer s H vs Q E hr h => ?_)
  · obtain ⟨p, c, l, n, xs, rfl, _⟩ := h
    rfl
  · obtain ⟨p, c, l, n, xs, rfl, hS, hn, hlp, hlc, hl, h1, h2, k⟩ := h
    refine ⟨_, PSs.nox (pss_one (ps_ret (pe_ix ix_seq (pv 1) (pe_call GD hr rfl gD FD.kp bD .nil pass0 (pa_cons (pv 0) (pa_cons (pe_callB call_len_seq (by rfl) gL PySem.boot_len (pa_cons (pv 1) pa_nil)) pa_nil))) (fun _ _ => rfl)))), ?_⟩
    refine ⟨_, rfl, _, rfl, _, rfl, l, xs, rfl, hl.imp SqL.of SqT.of, p, c, n, (xs.length : Int), rfl, hS, hn, by omega, by omega, fun d H' d0 d1 hK hS' => ?_⟩
    obtain ⟨j, rfl⟩ : ∃ j : Nat, d = (j : Int) := ⟨d.toNat, by omega⟩
    have hj : j < xs.length := by omega
    have ex : xs[j]? = some xs[j] := List.getElem?_eq_getElem hj
    rcases hl with hl | hl
    · exact .inl ⟨l, xs, (j : Int), _, rfl, rfl, SqL.of (hK l _ hl hlp hlc), atI_nat ex, k _ j _ ex hK hS'⟩
    · exact .inr (.inl ⟨l, xs, (j : Int), _, rfl, rfl, SqT.of (hK l _ hl hlp hlc), atI_nat ex, k _ j _ ex hK hS'⟩)

abbrev sMixed : Stmt := top 39
def spMixed (K : PySem.W.Frag) : Sp := fun vs H Q _ => ∃ (p c l : Addr) (n : Nat) (xs : List V), vs = [.ref p, .ref l] ∧ StrAt H p c n ∧ n + xs.length ≤ 1000000000 ∧ (SqL K H l xs ∨ SqT K H l xs) ∧ xs.length ≤ 1000 ∧
  ∀ (q : Addr) (ys : List V) (H' : Hp), H q = none → H' q = some (.lst ys) → ys.Perm xs → Kp p c H H' → StrAt H' p c (n + xs.length) → Q (.ref q) H'
theorem perm_erase {α : Type} {l : List α} {j : Nat} {x : α} (h : l[j]? = some x) : (x :: l.eraseIdx j).Perm l := by
  induction l generalizing j with
  | nil => simp at h
  | cons a r ih =>
    cases j with
    | zero =>
      simp only [List.getElem?_cons_zero, Option.some.injEq] at h
      subst h
      simp
    | succ j =>
      simp only [List.getElem?_cons_succ] at h
      rw [List.eraseIdx_cons_succ]
      exact (List.Perm.swap a x _).trans ((ih h).cons a)
theorem scMixed : FnScope ["stream", "some", "left", "k"] ["stream", "some"] (defScope sMixed) := ⟨rfl, rfl, rfl, by decide +kernel, rfl, by decide +kernel, by decide +kernel⟩
theorem ok_mixed {f fD : Addr} {fd fdD : FuncData} (F : FnP K "_law_mixed" sMixed f fd) (FD : FnP K "_law_draw" sDraw fD fdD) (gI : mg "int" = none) (gD : mg "_law_draw" = some (.ref fD)) (gL : mg "len" = none) (gLi : mg "list" = none) (gR : mg "range" = none) : FnOk P w K mg base CX0 2 f fd ["stream", "some"] (spMixed K) := by
  have GD : FnOk P w K mg base CX0 1 fD fdD ["stream", "many"] spDraw := ok_draw FD gI
  have bD : Binds K fdD ["stream", "many"] [] := FD.bindsN fun _ _ _ _ _ _ us hl => match us, hl with | [_, _], _ => rfl
  refine F.ok scMixed (fun vs H Q E h => ?_) (fun cdv A outer s H vs Q E hr h => ?_)
  · obtain ⟨p, c, l, n, xs, rfl, _⟩ := h
    rfl
  · obtain ⟨p, c, l, n, xs, rfl, hS, hn, hl, hx, k⟩ := h
    refine' ⟨_, PSs.nox (pss_cons (ps_set (i := 2) scMixed.nd rfl (.inr rfl) (pe_callTy call_list_of rfl gLi (by decide +kernel) (pa_cons (pv 1) pa_nil)))
      (pss_one (ps_ret ?lc))), ?rd⟩
    case lc =>
      refine pe_lc (own := [("k", 3)]) (g := gName 3) (tt := tYes) (te := tBM K "list" rPopAt (tVar 2) (tCons (tCall spDraw [] E0 (tCons (tVar 0) (tCons (tCB (rLn K) (tCons (tVar 2) tNil)) tNil))) tNil)) rfl scMixed.nd (pi_range1 rfl gR (pa_cons (pe_callB call_len_seq (by rfl) gL PySem.boot_len (pa_cons (pv 2) pa_nil)) pa_nil))
        (blkOk_by (own := [("k", 3)]) (N := ["stream", "some", "left", "k"]) (sc := defScope sMixed) (by decide +kernel)) (fun _ _ _ _ _ => pg_name (i := 3) scMixed.nd rfl (.inl rfl)) (fun _ _ _ _ _ => pts_nil) ?_
      intro _ _ _ _ _
      exact pe_bm PySem.F.plainAttrs_list PySem.F.slot_list_pop PySem.F.type_list_pop mt_popAt (pv 2) (pa_cons (pe_call GD hr rfl gD FD.kp bD .nil pass0 (pa_cons (pv 0) (pa_cons (pe_callB call_len_seq (by rfl) gL PySem.boot_len (pa_cons (pv 2) pa_nil)) pa_nil))) pa_nil)
    refine ⟨_, rfl, l, xs, rfl, hl, fun t ht => ?_⟩
    have S1 : StrAt (upd H t (.lst xs)) p c n := hS.new ht
    refine ⟨_, rfl, t, xs, rfl, .inl (SqL.of upd_same), _, rfl, by omega, by omega, fun D hD => ?_⟩
    have hDt : t ≠ D := ne_of_none upd_same hD
    have hDH : H D = none := by rw [upd_ne hDt.symm] at hD; exact hD
    refine lc_range (lo := 0) (n := ((xs.length : Nat) : Int).toNat) (fun i H' => ∃ (left acc : List V), H' t = some (.lst left) ∧ H' D = some (.lst acc) ∧ left.length + i = xs.length ∧ acc.length = i ∧ (acc ++ left).Perm xs ∧ Kp p c H H' ∧ StrAt H' p c (n + i)) ?_ ?_ ?_
    · exact ⟨xs, [], by rw [upd_ne hDt]; exact upd_same, upd_same, by omega, rfl, List.Perm.refl _, ((Kp.refl H).new ht).new hD, S1.new hD⟩
    · rintro i H1 hi ⟨left, acc, e1, e2, e3, e4, e5, e6, e7⟩
      have hil : i < xs.length := by omega
      refine ⟨rfl, _, rfl, .inl ⟨rfl, _, SqL.of e1⟩, ?_⟩
      refine ⟨_, rfl, _, rfl, t, left, rfl, .inl (SqL.of e1), p, c, n + i, (left.length : Int), rfl, e7, by omega, by omega, by omega, fun d H2 d0 d1 hK hS2 => ?_⟩
      obtain ⟨S7a, S7b⟩ := hS.ne ht
      obtain ⟨S8a, S8b⟩ := hS.ne hDH
      obtain ⟨j, rfl⟩ : ∃ j : Nat, d = (j : Int) := ⟨d.toNat, by omega⟩
      have hj : j < left.length := by omega
      have ex : left[j]? = some left[j] := List.getElem?_eq_getElem hj
      have f1 := hK t _ e1 S7a S7b
      have f2 := hK D _ e2 S8a S8b
      refine ⟨t, left, (j : Int), j, left[j], rfl, rfl, f1, by omega, by omega, seq_nat hj, ex, ?_⟩
      refine ⟨acc, by rw [upd_ne hDt.symm]; exact f2, Nat.lt_of_lt_of_le (show acc.length < 1000 by omega) (by decide), left.eraseIdx j, acc ++ [left[j]], ?_, upd_same, ?_, ?_, ?_, ?_, ?_⟩
      · rw [upd_ne hDt]
        exact upd_same
      · rw [List.length_eraseIdx_of_lt hj]
        omega
      · rw [List.length_append, e4]
        rfl
      · refine List.Perm.trans ?_ e5
        rw [List.append_assoc]
        exact (perm_erase ex).append_left acc
      · exact ((e6.trans hK).mut ht).mut hDH
      · exact (hS2.upd S7a S7b).upd S8a S8b
    · rintro H1 ⟨left, acc, e1, e2, e3, e4, e5, e6, e7⟩
      have h0 : left = [] := by
        have : left.length = 0 := by omega
        exact List.length_eq_zero_iff.mp this
      subst h0
      have e8 : ((xs.length : Nat) : Int).toNat = xs.length := by omega
      rw [e8] at e7
      exact k D acc H1 hDH e2 (by rw [List.append_nil] at e5; exact e5) e6 e7
end
end K07

namespace Sq
open PySem PySem.Spec PyProof.Rows L2
/-! ### a list or a tuple, by a flag: t true for a tuple -/
def SqK (K : PySem.W.Frag) (H : Hp) (t : Bool) (a : Addr) (xs : List V) : Prop := match t with
  | true => SqT K H a xs
  | false => SqL K H a xs
def IsSq (t : Bool) (h : Heap) (a : Addr) (its : Array Value) : Prop := match t with
  | true => h.IsTuple a its
  | false => h.IsList a its
def IsIt (t : Bool) (h : Heap) (it a : Addr) (i : Nat) : Prop := match t with
  | true => h.IsTupleIter it a i
  | false => h.IsListIter it a i
def itObj (t : Bool) (a : Addr) : Obj := match t with
  | true => { cls := .type "tuple_iterator", data := .fields #[.ref a, .int 0 0] }
  | false => { cls := .type "list_iterator", data := .fields #[.ref a, .int 0 0] }
theorem itObj_it {t : Bool} {h : Heap} {it a : Addr} (e : h.get? it = some (itObj t a)) : IsIt t h it a 0 := by
  cases t <;> exact ⟨_, e, rfl, rfl⟩
theorem IsIt.at_ {t : Bool} {h h' : Heap} {it a : Addr} {i : Nat} (x : IsIt t h it a i) (k : ∀ o, h.get? it = some o → h'.get? it = some o) : IsIt t h' it a i := by
  cases t with
  | true => exact Heap.IsTupleIter.at x k
  | false => exact Heap.IsListIter.at x k
theorem IsIt.obj {t : Bool} {h : Heap} {it a : Addr} {i : Nat} (x : IsIt t h it a i) : ∃ o, h.get? it = some o ∧ ∀ v, o.data ≠ .cell v := by
  cases t <;> (obtain ⟨o, h1, _, h2⟩ := x; exact ⟨o, h1, fun v q => by rw [h2] at q; cases q⟩)
theorem draws {t : Bool} {prog : Program} {w : World} {A : Around} (hh : A.handled = none) (it a : Addr) (hne : a ≠ it) (its : Array Value) :
    Draws prog w A it [it, a] its.size (fun i v => its[i]? = some v) (fun i h => IsIt t h it a i ∧ IsSq t h a its) := by
  cases t with
  | true => exact Draws.tuple hh it a hne its
  | false => exact Draws.list hh it a hne its
theorem begins (t : Bool) (a : Addr) (its : Array Value) : Begins (.ref a) (itObj t a) fun h => IsSq t h a its := by
  cases t with
  | true => exact begins_tuple a its
  | false => exact begins_list a its
section
variable {X : Cx} {pins : List (Addr × Obj)} {σ : L2.St} {H : Hp} {s : Shared} {a : Addr} {xs ys : List V} {t : Bool}
theorem sq_get (I : Inv X pins σ H s) (h : SqK X.K H t a xs) : ∃ its : List Value, Vals xs its ∧ IsSq t s.heap a its.toArray := by
  cases t with
  | true =>
    obtain ⟨its, r, p, _⟩ := I.tuple h
    exact ⟨its, r, p⟩
  | false =>
    obtain ⟨its, r, p, _⟩ := I.list h
    exact ⟨its, r, p.isList⟩
theorem sq_inj (I : Inv X pins σ H s) (h : SqK X.K H t a xs) (h' : SqK X.K H t a ys) : xs = ys := by
  cases t with
  | true => exact I.tuple_inj h h'
  | false => exact I.list_inj h h'
theorem sq_live (I : Inv X pins σ H s) (h : SqK X.K H t a xs) : a < s.heap.objs.size := by
  obtain ⟨its, _, q⟩ := sq_get I h
  cases t <;> (obtain ⟨o, e, _⟩ := q; exact Heap.lt_size e)
end
theorem keepSq {t : Bool} {h h' : Heap} {a : Addr} {its : Array Value} (x : IsSq t h a its) (k : ∀ o, h.get? a = some o → h'.get? a = some o) : IsSq t h' a its := by
  cases t with
  | true =>
    obtain ⟨o, e, r⟩ := x
    exact ⟨o, k o e, r⟩
  | false =>
    obtain ⟨o, e, r⟩ := x
    exact ⟨o, k o e, r⟩
/-! ### enumerate of either -/
def ItE (K : PySem.W.Frag) (t : Bool) (a : Addr) : It :=
  ⟨fun i H => ∃ (xs : List V) (x : V), SqK K H t a xs ∧ xs[i]? = some x, fun i H v H' => ∃ T x, v = .ref T ∧ H T = none ∧ H' = upd H T (.tup [.int (i : Nat), x]) ∧ ∀ xs, SqK K H t a xs → xs[i]? = some x, fun i H => ∃ xs : List V, SqK K H t a xs ∧ xs.length = i⟩
theorem turnE {P : Program} {w : World} {K : PySem.W.Frag} {elts : List Expr} {kk : Nat} {tpos : Pos} (t : Bool) (a e it : Addr) (hne : e ≠ it) (hea : e ≠ a) (hia : a ≠ it) :
    Turn P w K (.Tuple elts kk tpos) (ItE K t a) [e, it] e (fun i h => (∃ old, IsEnum h e it (0 + (i : Int)) old) ∧ IsIt t h it a i) where
  mem := by simp
  obj := fun i h st b hb => by
    obtain ⟨⟨old, he⟩, hi⟩ := st
    rcases List.mem_cons.mp hb with z | z
    · rw [z]
      exact ⟨_, he, fun v q => nomatch q⟩
    · rw [List.mem_singleton.mp z]
      exact hi.obj
  keep := fun i h h' st k => by
    obtain ⟨⟨old, he⟩, hi⟩ := st
    exact ⟨⟨old, k e (by simp) _ he⟩, hi.at_ fun o q => k it (by simp) o q⟩
  item := by
    intro X hP hw hK hc i pins s σ H E I hf st hg
    subst hP hw hK
    obtain ⟨he, hi⟩ := st
    obtain ⟨xs, x, hq, hx⟩ := hg
    obtain ⟨its, rv, hsq⟩ := sq_get I hq
    obtain ⟨u, hu, ru⟩ := rv.get hx
    have hlt : i < its.toArray.size := by simpa using (List.getElem?_eq_some_iff.mp hu).1
    have hal := sq_live I hq
    have WT := WalksT.enumFrom (prog := X.prog) (w := X.w) (A := X.A) 0 (draws (t := t) (A := X.A.in1) (I.ok.hd hc) it a hia its.toArray) e hne (by simp [hne, hea]) (by simp)
    refine WT.item i s _ _ hlt ⟨he, hi, hsq⟩ fun T vals h' tk hv hT htup hmid hk => ?_
    refine ⟨_, rfl, WT.go elts kk tpos i T _ _ _ hmid fun h'' st' hk2 => ?_⟩
    obtain ⟨tok, y, hy, rfl⟩ := hv
    have ey : y = u := by
      have q : its.toArray[i]? = some u := by simpa using hu
      exact Option.some.inj (hy.symm.trans q)
    subst ey
    have tw := WT.apart i T _ hmid
    have new : ObjOk X.prog X.w (upd H T (.tup [.int (i : Nat), x])) h'' T (.tup [.int (i : Nat), x]) := by
      obtain ⟨o, ho, hcl, n, hd⟩ := htup
      refine ⟨by show 2 ≤ sizeLine; decide, [.int (0 + (i : Int)) tok, y], .cons ⟨tok, by rw [Int.zero_add]⟩ (.cons ru .nil), ⟨o, hk2 T o tw ho, hcl, n, hd⟩⟩
    have I1 : Inv X pins σ (upd H T (.tup [.int (i : Nat), x])) { s with heap := h'', toks := tk } := I.turnedNew (ch := [e, it]) (fun b o hb q => hk2 b o hb (hk b o hb q)) hf hT new
    have hn : H T = none := I.hok.fresh hT
    refine ⟨.ref T, _, I1, rfl, ⟨T, x, rfl, hn, rfl, fun zs hz => by rw [sq_inj I hz hq]; exact hx⟩, ⟨?_, st'.2.1⟩, fun b hb => ?_⟩
    · exact st'.1
    · have hbs : b < s.heap.objs.size := by
        rcases List.mem_cons.mp hb with z | z
        · obtain ⟨old, q⟩ := he
          rw [z]
          exact Heap.lt_size q
        · obtain ⟨o, q, _⟩ := hi.obj
          rw [List.mem_singleton.mp z]
          exact Heap.lt_size q
      rw [upd_ne (Nat.ne_of_lt (Nat.lt_of_lt_of_le hbs hT))]
      exact (hf b hb).1
  done := by
    intro X hP hw hK hc i pins s σ H E I hf st hg
    subst hP hw hK
    obtain ⟨he, hi⟩ := st
    obtain ⟨xs, hq, hx⟩ := hg
    obtain ⟨its, rv, hsq⟩ := sq_get I hq
    have hl := rv.length
    have en : its.toArray.size = i := by
      rw [List.size_toArray]
      omega
    have WT := WalksT.enumFrom (prog := X.prog) (w := X.w) (A := X.A) 0 (draws (t := t) (A := X.A.in1) (I.ok.hd hc) it a hia its.toArray) e hne (by simp [hne, hea]) (by simp)
    refine WT.done s _ _ (by rw [en]; exact ⟨he, hi, hsq⟩) fun h' tk hk => ⟨rfl, I.turnedL (ch := [e, it]) (fun b o hb q => hk b o hb q) hf⟩
  self := fun A i s Q E st h => let ⟨⟨_, he⟩, _⟩ := st; wpAny_pyIter_enum he h
theorem meets_enum {v : Value} {o : Obj} {H : Heap → Prop} (B : Begins v o H) :
    Meets (Builtin.«enumerate.__new__» ⟨[.type "enumerate", v], []⟩) (fun _ R s => H s.heap ∧
      R (.ok (.ret (.ref (s.heap.push o).objs.size))) { s with heap := (s.heap.push o).push { cls := .type "enumerate", data := .fields #[.none, .bool false, .ref s.heap.objs.size, rawInt 0, .none, .none] } }) :=
  .of_wp fun prog w A R s h => by
    obtain ⟨hp, g, d, tk, os⟩ := s
    obtain ⟨h1, h2⟩ := h
    have sub := sub_enumerate
    have it1 : ∀ {A' : Around} {E : Value → Shared → Prop} {Q : Value → Shared → Prop}, Q (.ref hp.objs.size) ⟨hp.push o, g, d, tk, os⟩ → wpAny (model prog w) A' (pyIter v) Q E ⟨hp, g, d, tk, os⟩ :=
      fun q => B.iter prog w _ _ ⟨hp, g, d, tk, os⟩ _ h1 q
    wp_walk using it1
    refine wpAny_stack_any fun st => wpAny_pure ?_
    split
    · rename_i c _ _ _ _ _
      cases (c == Value.type "enumerate") <;> (wp_walk using it1; exact ⟨_, rfl, h2⟩)
    · wp_walk using it1
      exact ⟨_, rfl, h2⟩
theorem call_enum {prog : Program} {w : World} {A : Around} {E : Value → Shared → Prop} {s : Shared} {v : Value} {o : Obj} {H : Heap → Prop} {Q : Value → Shared → Prop} (B : Begins v o H) (h1 : H s.heap)
    (h : ∀ h', IsEnum h' (s.heap.objs.size + 1) s.heap.objs.size 0 .none → h'.get? s.heap.objs.size = some o → (∀ b u, s.heap.get? b = some u → h'.get? b = some u) → Q (.ref (s.heap.objs.size + 1)) { s with heap := h' }) :
    wpAny (model prog w) A (call (.type "enumerate") [v]) Q E s := by
  refine callType_new F.called_enumerate (by decide) (F.typeCall_enumerate_1 _) (F.newCall_enumerate_1 _) (fun obj => F.args_object_init_2 obj _) F.entry_enumerate_new (meets_enum B) ⟨h1, ?_⟩
  have hz : (s.heap.push o).objs.size = s.heap.objs.size + 1 := Heap.size_push ..
  rw [hz]
  have he : IsEnum ((s.heap.push o).push { cls := .type "enumerate", data := .fields #[.none, .bool false, .ref s.heap.objs.size, rawInt 0, .none, .none] }) (s.heap.objs.size + 1) s.heap.objs.size 0 .none := by
    have q := Heap.get?_push_size (s.heap.push o) (o := { cls := .type "enumerate", data := .fields #[.none, .bool false, .ref s.heap.objs.size, rawInt 0, .none, .none] }) rfl
    rw [hz] at q
    exact q
  exact ⟨⟨_, he, rfl⟩, h _ he (Heap.get?_push_of_some _ (Heap.get?_push_size _ B.free)) fun b u x => Heap.get?_push_of_some _ (Heap.get?_push_of_some _ x)⟩
/-- enumerate(e), e a list or a tuple -/
def iEnumA (K : PySem.W.Frag) (ta : TA) : TI := fun σ H R => ta σ H fun vs H1 => ∃ t a xs, vs = [.ref a] ∧ SqK K H1 t a xs ∧ R (ItE K t a) H1
theorem pi_enumA {X : Cx} {e : Expr} {ta : TA} {p pos tpos : Pos} {elts : List Expr} {kk : Nat} (hg : Gl X "enumerate") (hm : X.mg "enumerate" = none) (ha : PA X [e] ta) (hs : starEach [e] X.env = [(false, eval e X.env)] := by rfl) :
    PI X (.Tuple elts kk tpos) (.Call (.Name "enumerate" p) [e] [] pos) (iEnumA X.K ta) := by
  refine ⟨fun pins s σ H R I h => ?_⟩
  refine Call_ (ld_blt I hg hm boot_enumerate (PyProof.Rows.callWith_type1 (thn (ha.run pos pins s σ H _ I h) fun us s1 hh => ?_) hs rfl))
  obtain ⟨vs, H1, I1, r1, t, a, xs, rfl, hq, q⟩ := hh
  cases r1 with
  | cons r rr =>
    cases rr
    cases r
    obtain ⟨its, rv, hsq⟩ := sq_get I1 hq
    have hal := sq_live I1 hq
    refine call_enum (begins t a its.toArray) hsq fun h' he hit hk => wpAny_pyIter_enum he ?_
    have I2 : Inv X pins σ H1 { s1 with heap := h' } := I1.kept (t' := s1.toks) hk
    have n1 : s1.heap.objs.size + 1 ≠ s1.heap.objs.size := Nat.succ_ne_self _
    have n2 : s1.heap.objs.size + 1 ≠ a := Nat.ne_of_gt (Nat.lt_succ_of_lt hal)
    refine ⟨s1.heap.objs.size + 1, _, _, _, H1, rfl, I2, turnE t a (s1.heap.objs.size + 1) s1.heap.objs.size n1 n2 (Nat.ne_of_lt hal), ⟨⟨.none, he⟩, itObj_it hit⟩, fun b hb => ?_, q⟩
    have hle : s1.heap.objs.size ≤ b := by
      rcases List.mem_cons.mp hb with z | z
      · rw [z]
        exact Nat.le_succ _
      · rw [List.mem_singleton.mp z]
        exact Nat.le_refl _
    exact I1.fpOk hle (I1.hok.fresh hle)
theorem walk_enumA {K : PySem.W.Frag} {t : Bool} {a : Addr} {xs : List V} : Walk (ItE K t a) xs.length (fun H => SqK K H t a xs) (YPair (fun i => some (.int (i : Nat))) (fun i => xs[i]?)) where
  goes := fun i _ hi q => ⟨xs, xs[i], q, by simp [hi]⟩
  stops := fun _ q => ⟨xs, q, rfl⟩
  yields := fun i H v H' _ q y => by
    obtain ⟨T, x, h1, h2, h3, h4⟩ := y
    exact ⟨T, .int (i : Nat), x, h1, h2, h3, rfl, h4 xs q⟩
/-! ### zip of two, each a list or a tuple -/
def ItZ (K : PySem.W.Frag) (t1 t2 : Bool) (a b : Addr) : It :=
  ⟨fun i H => ∃ (xs ys : List V) (x y : V), SqK K H t1 a xs ∧ SqK K H t2 b ys ∧ xs[i]? = some x ∧ ys[i]? = some y,
   fun i H v H' => ∃ T x y, v = .ref T ∧ H T = none ∧ H' = upd H T (.tup [x, y]) ∧ (∀ xs, SqK K H t1 a xs → xs[i]? = some x) ∧ ∀ ys, SqK K H t2 b ys → ys[i]? = some y,
   fun i H => ∃ xs ys : List V, SqK K H t1 a xs ∧ SqK K H t2 b ys ∧ min xs.length ys.length = i⟩
def stZ (t1 t2 : Bool) (z TI TO i1 i2 a b : Addr) (i : Nat) (h : Heap) : Prop :=
  IsZip h z TI TO .none ∧ IsTupOf2 h TI (.ref i1) (.ref i2) ∧ (∃ a1 a2, IsTupOf2 h TO a1 a2) ∧ IsIt t1 h i1 a i ∧ IsIt t2 h i2 b i
theorem turnZ {P : Program} {w : World} {K : PySem.W.Frag} {elts : List Expr} {kk : Nat} {tpos : Pos} {t1 t2 : Bool} {z TI TO i1 i2 a b : Addr} (S : ZipSep2 z TI TO i1 i2 [i1, a] [i2, b]) (h1a : a ≠ i1) (h2b : b ≠ i2) (hTa : TI ≠ a) (hTb : TI ≠ b) :
    Turn P w K (.Tuple elts kk tpos) (ItZ K t1 t2 a b) [z, TI, TO, i1, i2] z (stZ t1 t2 z TI TO i1 i2 a b) where
  mem := by simp
  obj := fun i h st c hc => by
    obtain ⟨hz, hTI, ⟨x, y, hTO⟩, d1, d2⟩ := st
    simp only [List.mem_cons, List.not_mem_nil, or_false] at hc
    rcases hc with q | q | q | q | q
    · rw [q]
      exact ⟨_, hz, fun v q => nomatch q⟩
    · rw [q]
      exact ⟨_, hTI, fun v q => nomatch q⟩
    · rw [q]
      exact ⟨_, hTO, fun v q => nomatch q⟩
    · rw [q]
      exact d1.obj
    · rw [q]
      exact d2.obj
  keep := fun i h h' st k => by
    obtain ⟨hz, hTI, ⟨x, y, hTO⟩, d1, d2⟩ := st
    exact ⟨k z (by simp) _ hz, k TI (by simp) _ hTI, ⟨x, y, k TO (by simp) _ hTO⟩, d1.at_ fun o q => k i1 (by simp) o q, d2.at_ fun o q => k i2 (by simp) o q⟩
  item := by
    intro X hP hw hK hc i pins s σ H E I hf st hg
    subst hP hw hK
    obtain ⟨xs, ys, x, y, hqx, hqy, hx, hy⟩ := hg
    obtain ⟨its, rv, hsq⟩ := sq_get I hqx
    obtain ⟨jts, rw', hsr⟩ := sq_get I hqy
    obtain ⟨u, hu, ru⟩ := rv.get hx
    obtain ⟨v, hv, rv2⟩ := rw'.get hy
    have hu' : its.toArray[i]? = some u := by simpa using hu
    have hv' : jts.toArray[i]? = some v := by simpa using hv
    have hlt : i < min its.toArray.size jts.toArray.size := by
      have q1 := (Array.getElem?_eq_some_iff.mp hu').1
      have q2 := (Array.getElem?_eq_some_iff.mp hv').1
      omega
    have WT := WalksT.zipD2 (prog := X.prog) (w := X.w) (A := X.A) S (draws (t := t1) (A := X.A.in1) (I.ok.hd hc) i1 a h1a its.toArray) (draws (t := t2) (A := X.A.in1) (I.ok.hd hc) i2 b h2b jts.toArray)
    obtain ⟨s1, s2, s3, s4, s5⟩ := id st
    refine WT.item i s _ _ hlt ⟨s1, s2, s3, ⟨s4, hsq⟩, ⟨s5, hsr⟩⟩ fun T vals h' tk hvals hT htup hmid hk => ?_
    refine ⟨_, rfl, WT.go elts kk tpos i T _ _ _ hmid fun h'' st' hk2 => ?_⟩
    obtain ⟨x1, y1, e1, e2, rfl⟩ := hvals
    have ex1 : x1 = u := Option.some.inj (e1.symm.trans hu')
    have ey1 : y1 = v := Option.some.inj (e2.symm.trans hv')
    subst ex1 ey1
    have tw := WT.apart i T _ hmid
    have new : ObjOk X.prog X.w (upd H T (.tup [x, y])) h'' T (.tup [x, y]) := by
      obtain ⟨o, ho, hcl, n, hd⟩ := htup
      exact ⟨by show 2 ≤ sizeLine; decide, [x1, y1], .cons ru (.cons rv2 .nil), ⟨o, hk2 T o tw ho, hcl, n, hd⟩⟩
    have sub : ∀ c, c ∈ [z, TO, i1, i2] → c ∈ [z, TI, TO, i1, i2] := fun c hc => by
      simp only [List.mem_cons, List.not_mem_nil, or_false] at hc ⊢
      rcases hc with q | q | q | q
      · exact .inl q
      · exact .inr (.inr (.inl q))
      · exact .inr (.inr (.inr (.inl q)))
      · exact .inr (.inr (.inr (.inr q)))
    have I1 : Inv X pins σ (upd H T (.tup [x, y])) { s with heap := h'', toks := tk } := I.turnedNew (ch := [z, TI, TO, i1, i2]) (fun c o hc q => hk2 c o (fun m => hc (sub c m)) (hk c o (fun m => hc (sub c m)) q)) hf hT new
    have hn : H T = none := I.hok.fresh hT
    obtain ⟨r1, r2, r3, ⟨r4, _⟩, ⟨r5, _⟩⟩ := st'
    refine ⟨.ref T, _, I1, rfl, ⟨T, x, y, rfl, hn, rfl, fun zs hz => by rw [sq_inj I hz hqx]; exact hx, fun zs hz => by rw [sq_inj I hz hqy]; exact hy⟩, ⟨r1, r2, r3, r4, r5⟩, fun c hc => ?_⟩
    have hcs : c < s.heap.objs.size := by
      obtain ⟨a1, a2, s3⟩ := s3
      obtain ⟨o4, q4, _⟩ := s4.obj
      obtain ⟨o5, q5, _⟩ := s5.obj
      simp only [List.mem_cons, List.not_mem_nil, or_false] at hc
      rcases hc with q | q | q | q | q <;> rw [q]
      · exact Heap.lt_size s1
      · exact Heap.lt_size s2
      · exact Heap.lt_size s3
      · exact Heap.lt_size q4
      · exact Heap.lt_size q5
    rw [upd_ne (Nat.ne_of_lt (Nat.lt_of_lt_of_le hcs hT))]
    exact (hf c hc).1
  done := by
    intro X hP hw hK hc i pins s σ H E I hf st hg
    subst hP hw hK
    obtain ⟨xs, ys, hqx, hqy, hend⟩ := hg
    obtain ⟨its, rv, hsq⟩ := sq_get I hqx
    obtain ⟨jts, rw', hsr⟩ := sq_get I hqy
    have l1 := rv.length
    have l2 := rw'.length
    have en : min its.toArray.size jts.toArray.size = i := by
      rw [List.size_toArray, List.size_toArray, ← l1, ← l2]
      exact hend
    have WT := WalksT.zipD2 (prog := X.prog) (w := X.w) (A := X.A) S (draws (t := t1) (A := X.A.in1) (I.ok.hd hc) i1 a h1a its.toArray) (draws (t := t2) (A := X.A.in1) (I.ok.hd hc) i2 b h2b jts.toArray)
    obtain ⟨s1, s2, s3, s4, s5⟩ := id st
    refine WT.done s _ _ (by rw [en]; exact ⟨s1, s2, s3, ⟨s4, hsq⟩, ⟨s5, hsr⟩⟩) fun h' tk hk => ⟨rfl, I.turnedL (ch := [z, TI, TO, i1, i2]) (fun c o hb q => hk c o (fun m => hb ?_) q) hf⟩
    simp only [List.mem_cons, List.not_mem_nil, or_false] at m ⊢
    rcases m with q | q | q | q
    · exact .inl q
    · exact .inr (.inr (.inl q))
    · exact .inr (.inr (.inr (.inl q)))
    · exact .inr (.inr (.inr (.inr q)))
  self := fun A i s Q E st h => wpAny_pyIter_zip st.1 h
/-- zip(e, f), each a list or a tuple -/
def iZip2 (K : PySem.W.Frag) (ta : TA) : TI := fun σ H R => ta σ H fun vs H1 => ∃ t1 t2 a b xs ys, vs = [.ref a, .ref b] ∧ SqK K H1 t1 a xs ∧ SqK K H1 t2 b ys ∧ R (ItZ K t1 t2 a b) H1
theorem pi_zip2 {X : Cx} {e f : Expr} {ta : TA} {p pos tpos : Pos} {elts : List Expr} {kk : Nat} (hg : Gl X "zip") (hm : X.mg "zip" = none) (ha : PA X [e, f] ta) (hs : starEach [e, f] X.env = (false, eval e X.env) :: starEach [f] X.env := by rfl) (hp2 : (backTo pos (starEach [f] X.env)).any (·.1) = false := by rfl) :
    PI X (.Tuple elts kk tpos) (.Call (.Name "zip" p) [e, f] [] pos) (iZip2 X.K ta) := by
  refine ⟨fun pins s σ H R I h => ?_⟩
  refine Call_ (ld_blt I hg hm PyProof.Rows.boot_zip (PyProof.Rows.callWith_type1 (thn (ha.run pos pins s σ H _ I h) fun us s1 hh => ?_) hs hp2))
  obtain ⟨vs, H1, I1, r1, t1, t2, a, b, xs, ys, rfl, hqx, hqy, q⟩ := hh
  cases r1 with
  | cons r rr =>
    cases rr with
    | cons r' rr =>
      cases rr
      cases r
      cases r'
      obtain ⟨its, rv, p1⟩ := sq_get I1 hqx
      obtain ⟨jts, rw', p2⟩ := sq_get I1 hqy
      have la := sq_live I1 hqx
      have lb := sq_live I1 hqy
      refine zip_begins2 (begins t1 a its.toArray) (begins t2 b jts.toArray) p1 p2 fun h' hz hTI hTO d1 d2 hsz hk => wpAny_pyIter_zip hz ?_
      have I2 : Inv X pins σ H1 { s1 with heap := h' } := I1.kept (t' := s1.toks) hk
      refine ⟨s1.heap.objs.size + 4, _, _, _, H1, rfl, I2, turnZ (t1 := t1) (t2 := t2) (TI := s1.heap.objs.size + 2) (TO := s1.heap.objs.size + 3) (i1 := s1.heap.objs.size) (i2 := s1.heap.objs.size + 1) (a := a) (b := b)
        (zip_sep2 (fun c hc => by rw [List.mem_singleton.mp hc]; exact la) (fun c hc => by rw [List.mem_singleton.mp hc]; exact lb)) (Nat.ne_of_lt la) (Nat.ne_of_lt (Nat.lt_succ_of_lt lb)) (Nat.ne_of_gt (Nat.lt_of_lt_of_le la (Nat.le_add_right _ _))) (Nat.ne_of_gt (Nat.lt_of_lt_of_le lb (Nat.le_add_right _ _))),
        ⟨hz, hTI, ⟨_, _, hTO⟩, itObj_it d1, itObj_it d2⟩, fun c hc => ?_, q⟩
      have hle : s1.heap.objs.size ≤ c := by
        simp only [List.mem_cons, List.not_mem_nil, or_false] at hc
        rcases hc with z | z | z | z | z <;> rw [z] <;> first | exact Nat.le_refl _ | exact Nat.le_add_right _ _
      exact I1.fpOk hle (I1.hok.fresh hle)
theorem walk_zip2 {K : PySem.W.Frag} {t1 t2 : Bool} {a b : Addr} {xs ys : List V} {n : Nat} (hn : n = min xs.length ys.length) : Walk (ItZ K t1 t2 a b) n (fun H => SqK K H t1 a xs ∧ SqK K H t2 b ys) (YPair (fun i => xs[i]?) (fun i => ys[i]?)) where
  goes := fun i _ hi q => ⟨xs, ys, xs[i]'(by omega), ys[i]'(by omega), q.1, q.2, by simp, by simp⟩
  stops := fun _ q => ⟨xs, ys, q.1, q.2, hn.symm⟩
  yields := fun i H v H' _ q y => by
    obtain ⟨T, x, y, h1, h2, h3, h4, h5⟩ := y
    exact ⟨T, x, y, h1, h2, h3, h4 xs q.1, h5 ys q.2⟩
end Sq

namespace Exs
open PySem PySem.Spec PyProof.Rows L2
/-! ### an own error class beneath ValueError, whose __init__ keeps one thing -/
def clsB (K : PySem.W.Frag) (C : Addr) : Bool := match K.lookup C with
  | some ⟨.type t, _, .cls cd, sl⟩ => (match cd.mro, sl.toList with
    | .ref D :: bm, [_, _, _, _, some (.builtin n), _] => decide (t = "type") && (decide (D = C) && (decide (n = "ValueError.__new__") && (!cd.hasDel && (cd.hasDict && PySem.HandSPX.refsVE bm))))
    | _, _ => false)
  | _ => false
theorem clsB_ok {K : PySem.W.Frag} {C : Addr} (h : clsB K C = true) :
    ∃ nm q N bs bm sn sub ab col dd k0 k1 k2 k3 k5, K.lookup C = some (excClassObj nm q C N bs bm true sn sub ab col dd k0 k1 k2 k3 k5 "ValueError.__new__") ∧ PySem.HandSPX.refsVE bm = true := by
  unfold clsB at h
  split at h
  · rename_i t dd cd sl hl
    split at h
    · rename_i D bm k0 k1 k2 k3 n k5 hm hs
      simp only [Bool.and_eq_true, decide_eq_true_eq, Bool.not_eq_true'] at h
      obtain ⟨rfl, rfl, rfl, h1, h2, h3⟩ := h
      obtain ⟨nm, bs, mro, ns, qn, hd, sn, sub, ab, col, del⟩ := cd
      dsimp only at hm h1 h2
      subst hm h1 h2
      have es : sl = #[k0, k1, k2, k3, some (.builtin "ValueError.__new__"), k5] := by
        obtain ⟨l⟩ := sl
        dsimp only at hs
        rw [hs]
      subst es
      exact ⟨nm, qn, ns, bs, bm, sn, sub, ab, col, dd, k0, k1, k2, k3, k5, hl, h3⟩
    · cases h
  · cases h
def errB (K : PySem.W.Frag) (C fI : Addr) (f : Str) : Bool := clsB K C && (He.eqO (PySem.W.findIn K (.ref C) "__setattr__") (some (some (.builtin "object.__setattr__"))) && (decide (PySem.W.subIn K (.ref C) (.type "BaseException") = some true) &&
  (decide (PySem.W.typeIn K (.ref C) = some (.type "type")) && (PySem.W.keepIn K (.ref C) && (xfB K C && (He.eqO (PySem.W.findIn K (.ref C) f) (some none) && (He.eqO (PySem.W.findIn K (.ref C) "__init__") (some (some (.ref fI))) &&
  (decide (PySem.W.typeIn K (.ref fI) = some (.type "function")) && decide (PySem.W.exmOne K (.ref C) (.ref C) = some true)))))))))
structure ErrC (K : PySem.W.Frag) (C fI : Addr) (f : Str) : Prop where
  oc : OexC K C
  xf : XfC K C
  no : PySem.W.findIn K (.ref C) f = some none
  iC : PySem.W.findIn K (.ref C) "__init__" = some (some (.ref fI))
  tI : PySem.W.typeIn K (.ref fI) = some (.type "function")
  me : PySem.W.exmOne K (.ref C) (.ref C) = some true
theorem errB_ok {K : PySem.W.Frag} {C fI : Addr} {f : Str} (h : errB K C fI f = true) : ErrC K C fI f := by
  obtain ⟨h1, h⟩ := He.ba h
  obtain ⟨h2, h⟩ := He.ba h
  obtain ⟨h3, h⟩ := He.ba h
  obtain ⟨h4, h⟩ := He.ba h
  obtain ⟨h5, h⟩ := He.ba h
  obtain ⟨h6, h⟩ := He.ba h
  obtain ⟨h7, h⟩ := He.ba h
  obtain ⟨h8, h⟩ := He.ba h
  obtain ⟨h9, h0⟩ := He.ba h
  exact ⟨⟨clsB_ok h1, He.eqO_ok h2, of_decide_eq_true h3, of_decide_eq_true h4, h5⟩, xfB_ok h6, He.eqO_ok h7, He.eqO_ok h8, of_decide_eq_true h9, of_decide_eq_true h0⟩
/-- what __init__ does: the thing under its name -/
def spInit (C : Addr) (f : Str) : Sp := fun vs H Q _ => ∃ (a : Addr) (v : V), vs = [.ref a, v] ∧ H a = some (exo a C none) ∧ ∀ dx, H dx = none → dx ≠ a → Q .non (upd (upd H dx (exd dx [(f, v)])) a (exo a C (some dx)))
/-- self.f = f, the block of such an __init__, wherever it stands -/
abbrev initB (f : Str) (p1 p2 p3 p4 : Pos) : List Stmt := [.Assign [.Attribute (.Name "self" p1) f p2] (.Name f p3) p4]
section
variable {P : Program} {w : World} {K : PySem.W.Frag} {mg : Str → Option Value} {base : Heap}
theorem ok_init {x f : Str} {C fI : Addr} {fd : FuncData} {pa : Arguments} {bd : List Stmt} {sc : Scope} {p1 p2 p3 p4 : Pos} (T : ErrC K C fI f) (F : FunD K "__init__" x pa bd sc [] [] fI fd) (hb : bd = initB f p1 p2 p3 p4)
    (S : FnScope ["self", f] ["self", f] sc) (v0 : sc.names.lookup ("self" : Str) = some NameKind.local) (v1 : sc.names.lookup f = some NameKind.local) (hd : (f == ("__debug__" : Str)) = false) (hc : (f == ("__classdict__" : Str)) = false) :
    FnOk P w K mg base CX0 1 fI fd ["self", f] (spInit C f) := by
  subst hb
  refine F.ok S (fun vs H Q E h => ?_) (fun cdv A outer s H vs Q E hr h => ?_)
  · obtain ⟨a, v, rfl, _⟩ := h
    rfl
  · obtain ⟨a, v, rfl, ha, k⟩ := h
    refine ⟨_, PSs.nox (pss_one (ps_ost (pe_var (i := 0) rfl (.inl v0)) (pe_var (i := 1) rfl (.inl v1) hd hc))), ?_⟩
    exact ⟨_, rfl, _, rfl, a, C, rfl, T.oc, T.no, .inl ⟨ha, fun dx n ne => k dx n ne⟩⟩
/-- all that a raise of such an error asks -/
structure Err (P : Program) (w : World) (K : PySem.W.Frag) (mg : Str → Option Value) (base : Heap) (x f : Str) (C fI : Addr) : Prop where
  c : ErrC K C fI f
  g : mg x = some (.ref C)
  fn : ∃ fd, FnOk P w K mg base CX0 1 fI fd ["self", f] (spInit C f) ∧ L2.Binds K fd ["self", f] []
end
/-- what the making of such an error of v asks -/
def RaiseP (C : Addr) (f : Str) (W : XK) (v : V) (H1 : Hp) : Prop := [v].length ≤ 1000 ∧ ∀ a, H1 a = none → spInit C f (.ref a :: ([v] ++ [])) (upd H1 a (exo a C none))
  (fun u H2 => u = .non ∧ ∃ (d : Addr) (fs : List (Str × V)), H2 a = some (exo a C (some d)) ∧ H2 d = some (exd d fs) ∧ H1 d = none ∧ W (.ref C) (some d) (upd (del H2 a) d (.xd fs))) (fun _ _ _ => False)
theorem raiseP {C : Addr} {f : Str} {W : XK} {v : V} {H1 : Hp} (h : ∀ d, H1 d = none → W (.ref C) (some d) (upd H1 d (.xd [(f, v)]))) : RaiseP C f W v H1 := by
  refine ⟨by show 1 ≤ 1000; decide, fun a ha => ⟨a, v, rfl, upd_same, fun dx hdx ne => ⟨rfl, dx, [(f, v)], upd_same, ?_, ?_, ?_⟩⟩⟩
  · rw [upd_ne ne]
    exact upd_same
  · rw [upd_ne ne] at hdx
    exact hdx
  · have hd1 : H1 dx = none := by
      rw [upd_ne ne] at hdx
      exact hdx
    have e : upd (del (upd (upd (upd H1 a (exo a C none)) dx (exd dx [(f, v)])) a (exo a C (some dx))) a) dx (.xd [(f, v)]) = upd H1 dx (.xd [(f, v)]) := by
      funext b
      by_cases hb : b = dx
      · rw [hb, upd_same, upd_same]
      · rw [upd_ne hb, upd_ne hb]
        by_cases hba : b = a
        · rw [hba, del_same, ha]
        · rw [del_ne hba, upd_ne hba, upd_ne hb, upd_ne hba]
    rw [e]
    exact h dx hd1
/-- raise x(e) -/
def tRaise1 (C : Addr) (f : Str) (W : WX) (te : TE) : TS := fun _ σ H => te σ H fun v H1 => RaiseP C f (fun cls d H' => W cls d σ H') v H1
section
variable {X : Cx}
theorem ps_raise1 {x f : Str} {C fI : Addr} {e : Expr} {te : TE} {W : WX} {p pos pos2 : Pos} (hc : X.calm = true) (T : Err X.prog X.w X.K X.mg X.base x f C fI) (hr : Room 2 X.A) (tk : Takes X W) (hg : Gl X x) (he : PE X e te)
    (hdb : (x == ("__debug__" : Str)) = false := by decide) (hs : starEach [e] X.env = (false, eval e X.env) :: starEach [] X.env := by rfl) (hpl : (backTo pos (starEach [] X.env)).any (·.1) = false := by rfl) :
    PS X (.Raise (some (.Call (.Name x p) [e] [] pos)) none pos2) (tRaise1 C f W te) := by
  obtain ⟨fd, F, b⟩ := T.fn
  have base := ps_raise (pos := pos2) hc tk (pmk_oex (p := p) (pos := pos) T.c.oc T.c.iC T.c.tI F hr b .nil pass0 hg T.g (pa_cons he pa_nil hs) hdb hs hpl)
  exact ⟨fun pins s σ H D I h => base.run pins s σ H D I h⟩
end
end Exs
namespace Exs
open PySem PySem.Spec PyProof.Rows L2
/-! ### try with several clauses, each «except X as n» -/
abbrev Suite : Type := Addr → Value → Option Addr → TS
/-- behind a suite its name's slot i is empty -/
def EndsAs (i : Nat) (D : Ends) : Ends := { nx := fun σ H => D.nx (σ.set i none) H, rt := D.rt, bk := fun σ H => D.bk (σ.set i none) H, ct := fun σ H => D.ct (σ.set i none) H }
def wClauses (K : PySem.W.Frag) (nN : Nat) (Wout : WX) (D : Ends) : List (Value × Nat × Suite) → WX
  | [] => Wout
  | (c, i, ts) :: r => fun cls d σ H => ∃ b, PySem.W.exmOne K cls c = some b ∧ (b = true → ∀ a, H a = none → σ.length = nN → ts a cls d (EndsAs i D) (σ.set i (some (.ref a))) H) ∧ (b = false → wClauses K nN Wout D r cls d σ H)
inductive Clauses (X : Cx) : List ExceptHandler → List (Value × Nat × Suite) → Prop
  | nil : Clauses X [] []
  | cons {x n : Str} {c : Value} {i : Nat} {ts : Suite} {st : Stmt} {sts : List Stmt} {p1 p2 : Pos} {hs : List ExceptHandler} {l : List (Value × Nat × Suite)} (hc : Names X x c) (hi : X.N[i]? = some n) (hn : X.env.kindOf n = some .local)
      (go : ∀ (a : Addr) (oe : Obj) (cls : Value) (d : Option Addr) (pn : List (Addr × Obj)), Zc cls d oe → (∃ vs, oe.data = .fields vs) → PSs (X.suite a ((a, oe) :: pn)) (st :: sts) (ts a cls d)) (r : Clauses X hs l) :
      Clauses X (.ExceptHandler (some (.Name x p1)) (some n) (st :: sts) p2 :: hs) ((c, i, ts) :: l)
section
variable {X : Cx} {body : List Stmt} {h0 : ExceptHandler} {hs : List ExceptHandler} {l : List (Value × Nat × Suite)} {pos : Pos} {tb : WX → TS} {Wout : WX}
theorem ps_try_clauses (es : X.stack = X.env :: X.outer) (ef : X.env.frame = some X.env.locals) (hN : X.N.Nodup) (tk : Takes X Wout)
    (hb : ∀ (W : WX) (pn : List (Addr × Obj)) (xe : Value → Shared → Prop), Takes (X.tr pn xe) W → PassesOwn (model X.prog X.w) X.A X.env xe → PSs (X.tr pn xe) body (tb W))
    (cl : Clauses X (h0 :: hs) l) : PS X (.Try body (h0 :: hs) [] [] pos) (fun D σ H => tb (wClauses X.K X.N.length Wout D l) D σ H) := by
  refine ⟨fun pins s σ H D I h => ?_⟩
  have ok := I.ok
  have frs0 : X.A.frames = some (X.env :: X.outer) := by rw [ok.frames, es]
  refine wpAny_Try_except ?_
  refine wpAny_mono ((hb (wClauses X.K X.N.length Wout D l) (X.pn ++ pins) (fun e s1 => wpAny (model X.prog X.w) X.A (noteFrame e X.env) (fun _ s2 => wpAny (model X.prog X.w) X.A (setFlight e none) (fun _ s3 =>
    wpAny (model X.prog X.w) X.A (handleBy e X.env (h0 :: hs)) (SP X pins D) X.xe s3) X.xe s2) X.xe s1) (fun u s' xx => ?_) PassesOwn.looking).run [] s σ H D (I.toTry _) h) (fun f s1 q => ?_) (fun e s1 q => q)
  · obtain ⟨a, B, sI, pins1, σ1, H1, cls, d, rfl, J0, nb, up, sky, na, os, ag, wish⟩ := xx
    have J : Inv X pins σ1 H1 sI := J0.ofTry ok
    rw [es] at sky
    refine (show wpAny (model X.prog X.w) X.A (noteFrame (.ref a) X.env) _ _ _ from Sky.land Zc.steady frs0 ef sky fun h3 fl3 up3 => ?_)
    have J3 : Inv X pins σ1 H1 { s' with heap := h3 } := J.landed nb fl3.1 (up.trans up3) os ag
    obtain ⟨oe3, vs3, he3, hz3, hd3⟩ := fl3.there
    have apart : a ∉ frs (X.env :: X.outer) := fun hm => by
      obtain ⟨_, o2, e2, no⟩ := fl3.2.2.1.mem hm
      rw [he3] at e2
      cases e2
      exact no _ hd3
    have aL : a ≠ X.env.locals := fun z => apart (List.mem_filterMap.mpr ⟨X.env, List.mem_cons_self, by rw [ef, z]⟩)
    have aF : a ∉ X.fs := fun hm => by
      obtain ⟨e, he, q⟩ := List.mem_filterMap.mp hm
      exact apart (List.mem_filterMap.mpr ⟨e, List.mem_cons_of_mem _ he, q⟩)
    have S3 := J3.suite he3 hd3 na aL aF
    have steps : ∀ {hs2 : List ExceptHandler} {l2 : List (Value × Nat × Suite)}, Clauses X hs2 l2 → wClauses X.K X.N.length Wout D l2 cls d σ1 H1 →
        wpAny (model X.prog X.w) X.A (handleBy (.ref a) X.env hs2) (SP X pins D) X.xe { s' with heap := h3 } := by
      intro hs2 l2 hk
      induction hk with
      | nil =>
        intro wish2
        refine wpAny_handleBy_nil ?_
        obtain ⟨k1, k2, k3, oe, vs, T, oT, ts2, he, hz, hd, f1, hr⟩ := id fl3
        unfold PySem.passOn
        refine wpAny_bind (wpAny_field he hd f1 ?_)
        have isT : ¬ ((Value.ref T == Value.none) = true) := by simp
        rw [if_neg isT]
        have out : wpAny (model X.prog X.w) X.A (setFlight (.ref a) X.env.frame) (fun _ s4 => wpAny (model X.prog X.w) X.A (throw (.ref a) : Sem Flow) (SP X pins D) X.xe s4) X.xe { s' with heap := h3 } := by
          rw [ef]
          refine HandSPX.setFlight_upZ fl3 fun h4 held up4 => wpAny_throw (tk _ _ ⟨a, B, sI, pins, σ1, H1, cls, d, rfl, J, nb, (up.trans up3).trans up4, ?_, na, os, ag, wish2⟩)
          rw [es]
          exact .inr (.inr held)
        first | exact wpAny_bind (wpAny_pure (wpAny_bind out)) | exact wpAny_bind out
      | @cons x n c i ts st sts p1 p2 hs3 l3 hc hi hn go r ih =>
        intro wish2
        obtain ⟨b, hb1, yes, no⟩ := wish2
        have hloc : Loc X.env.scope n := .inl hn
        refine wpAny_handleBy_cons (codeAny_handlers_test ?_) (by intro q; cases q)
        have ofCls : PySem.W.Looks (model X.prog X.w) h3 (typeOf (.ref a)) cls := fun A Q E s k q => wpAny_typeOf_ref (k _ _ he3) (by rw [hz3.1]; exact q)
        have meets := PySem.W.exm_one (M := model X.prog X.w) J3.kIn ofCls hb1
        have asks : ∀ {Q : Value → Shared → Prop} {E : Value → Shared → Prop}, Q c { s' with heap := h3 } → wpAny (model X.prog X.w) (X.A.mark (some (.ref a))) (eval (.Name x p1) X.env) Q E { s' with heap := h3 } := fun {Q E} q => by
          obtain ⟨g1, g2, g3 | ⟨g3, g4, g5⟩⟩ := hc
          · exact ld_glob (X := X.suite a ((a, oe3) :: (X.pn ++ pins))) S3 g1 g3 q g2
          · exact ld_blt (X := X.suite a ((a, oe3) :: (X.pn ++ pins))) S3 g1 g3 g4 q g5 g2
        refine asks (meets.here ?_)
        cases b with
        | true =>
          refine codeAny_handlers_suite_as (HandSPX.lands_againZ fl3 fun h4 fl4 up4 => ?_)
          have J4 : Inv X pins σ1 H1 { s' with heap := h4 } := J.landed nb fl4.1 ((up.trans up3).trans up4) os ag
          obtain ⟨oe4, vs4, he4, hz4, hd4⟩ := fl4.there
          refine store_ok (X := X.suite a ((a, oe4) :: (X.pn ++ pins))) (v := .ref a) (J4.suite he4 hd4 na aL aF) hN hi hloc rfl (fun s5 S5 => ?_) (.inr hn)
          refine wpAny_mono ((go a oe4 cls d (X.pn ++ pins) hz4 ⟨_, hd4⟩).run [] s5 _ H1 _ S5 (yes rfl a na J.len)) (fun f s6 q6 => ?_) (fun _ _ z => False.elim z)
          have away : ∀ {σ6 : L2.St} {H6 : Hp} {Q : Shared → Prop}, Inv (X.suite a ((a, oe4) :: (X.pn ++ pins))) [] σ6 H6 s6 → (∀ s7, Inv X pins (σ6.set i none) H6 s7 → Q s7) →
              wpAny (model X.prog X.w) X.A (do bindName X.env n .none; unbindBehindTheSuite X.env n p2) (fun _ s7 => Q s7) X.xe s6 := fun S6 q => gone_ok (S6.unsuite ok) hN hi hn q
          cases f with
          | next =>
            obtain ⟨σ6, H6, S6, q7⟩ := q6
            exact away S6 fun s7 J7 => ⟨_, _, J7, q7⟩
          | brk =>
            obtain ⟨σ6, H6, S6, q7⟩ := q6
            exact away S6 fun s7 J7 => ⟨_, _, J7, q7⟩
          | cont =>
            obtain ⟨σ6, H6, S6, q7⟩ := q6
            exact away S6 fun s7 J7 => ⟨_, _, J7, q7⟩
          | ret u =>
            obtain ⟨v6, σ6, H6, S6, r6, q7⟩ := q6
            exact away S6 fun s7 J7 => ⟨_, _, _, J7, r6, q7⟩
        | false => exact (show wpAny _ X.A (handleBy (.ref a) X.env hs3) _ _ _ from ih (no rfl))
    exact steps cl wish
  · cases f with
    | next =>
      obtain ⟨σ2, H2, J2, q2⟩ := q
      exact wpAny_execs_nil ⟨σ2, H2, J2.ofTry ok, q2⟩
    | brk =>
      obtain ⟨σ2, H2, J2, q2⟩ := q
      exact ⟨σ2, H2, J2.ofTry ok, q2⟩
    | cont =>
      obtain ⟨σ2, H2, J2, q2⟩ := q
      exact ⟨σ2, H2, J2.ofTry ok, q2⟩
    | ret u =>
      obtain ⟨v, σ2, H2, J2, r2, q2⟩ := q
      exact ⟨v, σ2, H2, J2.ofTry ok, r2, q2⟩
end
end Exs

namespace K07H
open PySem PySem.Spec PyProof.Rows L2 Exs K07
/-! ### the head -/
def meth (i : Nat) : Stmt := (C8.clsBody (top 20)).getD i (.Pass ⟨0, 0, 0, 0⟩)
def iniS (i : Nat) : Stmt := (C8.clsBody (top i)).getD 0 (.Pass ⟨0, 0, 0, 0⟩)
def dd (x : Str) (i : Nat) : He.DefD := ⟨(x, none), x, x, defArgs (top i), defBody (top i), defScope (top i), [], []⟩
def di (C q : Str) (i : Nat) : He.DefD := ⟨(C, some "__init__"), "__init__", q, defArgs (iniS i), defBody (iniS i), defScope (iniS i), [], []⟩
def dm (m q : Str) (i : Nat) : He.DefD := ⟨("Village", some m), m, q, defArgs (meth i), defBody (meth i), defScope (meth i), [], []⟩
def fn : List He.DefD := [dd "is_name" 15, dd "is_listed" 16, dd "is_pair" 17, dd "has_just" 18, dd "check_houses" 21, dd "checked_paths" 22, dd "joined_groups" 23, dd "near_houses" 24, dd "path_between" 25, dd "is_house" 26, dd "ask_house" 27, dd "check_some" 29, dd "part_of" 30, dd "built_on" 31, dd "joined_by" 32, dd "is_renaming" 33, dd "renamed" 34, dd "_law_start" 36, dd "_law_draw" 37, dd "_law_pick" 38, dd "_law_mixed" 39, dd "_law_same" 40, dd "_law_v_names" 41, dd "_law_v_paths" 42, dd "_law_v_village" 43, dd "_law_v_beside" 44, dd "_law_v_way" 45, dd "_law_met" 46, dd "_law_parts_right" 47, dd "_law_built_right" 48, dd "_law_joined_right" 49, dd "_law_names_right" 50, dd "law" 51, di "BadSome" "BadSome.__init__" 6, di "NotJoined" "NotJoined.__init__" 9, di "NoHouse" "NoHouse.__init__" 8, di "BadName" "BadName.__init__" 3, di "CommonHouse" "CommonHouse.__init__" 7, di "BadNames" "BadNames.__init__" 4, di "BadHouses" "BadHouses.__init__" 2, di "BadPaths" "BadPaths.__init__" 5, dm "__init__" "Village.__init__" 0, dm "houses" "Village.houses" 1, dm "paths" "Village.paths" 2, dm "near" "Village.near" 3, dm "__len__" "Village.__len__" 4, dm "__eq__" "Village.__eq__" 5]
def fa : List He.Fa := [.glo "is_name", .glo "is_listed", .glo "is_pair", .glo "has_just", .glo "check_houses", .glo "checked_paths", .glo "joined_groups", .glo "near_houses", .glo "path_between", .glo "is_house", .glo "ask_house", .glo "check_some", .glo "part_of", .glo "built_on", .glo "joined_by", .glo "is_renaming", .glo "renamed", .glo "_law_start", .glo "_law_draw", .glo "_law_pick", .glo "_law_mixed", .glo "_law_same", .glo "_law_v_names", .glo "_law_v_paths", .glo "_law_v_village", .glo "_law_v_beside", .glo "_law_v_way", .glo "_law_met", .glo "_law_parts_right", .glo "_law_built_right", .glo "_law_joined_right", .glo "_law_names_right", .glo "law", .glo "BadSome", .glo "NotJoined", .glo "NoHouse", .glo "BadName", .glo "CommonHouse", .glo "BadNames", .glo "BadHouses", .glo "BadPaths", .glo "Village", .free "int", .free "bool", .free "str", .free "isinstance", .free "list", .free "tuple", .free "len", .free "all", .free "any", .free "zip", .free "enumerate", .free "range", .free "max", .free "min", .free "sorted", .free "dict", .free "repr", .free "set", .int "LONGEST_NAME" 12, .str "SMALL_LETTERS" "abcdefghijklmnopqrstuvwxyz", .str "FIGURES" "0123456789", .cls "Village", .noat "Village" "_houses", .noat "Village" "_paths", .noat "Village" "_near", .meth "Village" "houses", .meth "Village" "paths", .meth "Village" "near", .meth "Village" "__len__", .meth "Village" "__eq__", .mkr "Village", .exm "NotJoined" "BadSome" false, .exm "NoHouse" "BadSome" false, .exm "NoHouse" "NotJoined" false, .exm "BadName" "BadSome" false, .exm "BadName" "NotJoined" false, .exm "BadName" "NoHouse" false, .exm "CommonHouse" "BadSome" false, .exm "CommonHouse" "NotJoined" false, .exm "CommonHouse" "NoHouse" false, .exm "CommonHouse" "BadName" false, .exm "BadNames" "BadSome" false, .exm "BadNames" "NotJoined" false, .exm "BadNames" "NoHouse" false, .exm "BadNames" "BadName" false, .exm "BadNames" "CommonHouse" false]
def tyn : List String := ["NoneType", "int", "bool", "str", "list", "tuple", "dict"]
def tf : List He.Defn := [("_law_parts_right", none), ("_law_built_right", none), ("_law_joined_right", none), ("_law_names_right", none)]
def ex (K : PySem.W.Frag) : Bool := errB K (He.ga K "BadSome") (He.fAd K ("BadSome", some "__init__")) "index" && errB K (He.ga K "NotJoined") (He.fAd K ("NotJoined", some "__init__")) "house" && errB K (He.ga K "NoHouse") (He.fAd K ("NoHouse", some "__init__")) "thing" && errB K (He.ga K "BadName") (He.fAd K ("BadName", some "__init__")) "thing" && errB K (He.ga K "CommonHouse") (He.fAd K ("CommonHouse", some "__init__")) "name" && errB K (He.ga K "BadNames") (He.fAd K ("BadNames", some "__init__")) "thing" && errB K (He.ga K "BadHouses") (He.fAd K ("BadHouses", some "__init__")) "index" && errB K (He.ga K "BadPaths") (He.fAd K ("BadPaths", some "__init__")) "index" && He.eqO (PySem.W.findIn K (.ref (He.ga K "Village")) "__class__") (some (some (.builtin "object.__class__"))) && He.eqO (PySem.W.specialIn K (.builtin "object.__class__") "__get__") (some (some (.builtin "getset_descriptor.__get__"))) && decide (PySem.W.takesIn K (.builtin "object.__class__") = some true) && decide (PySem.W.mroIn K (He.ga K "Village") (.type "object") = some true) && tyn.all (fun n => PySem.W.notFirst K (He.ga K "Village") (.type n)) && tyn.all (fun n => decide (PySem.W.kitOne K (.type n) (.ref (He.ga K "Village")) = some false)) && decide ((He.cT K ("_law_parts_right", none)).2 ≠ (He.cT K ("_law_built_right", none)).2) && decide ((He.cT K ("_law_parts_right", none)).2 ≠ (He.cT K ("_law_joined_right", none)).2) && decide ((He.cT K ("_law_parts_right", none)).2 ≠ (He.cT K ("_law_names_right", none)).2) && decide ((He.cT K ("_law_built_right", none)).2 ≠ (He.cT K ("_law_joined_right", none)).2) && decide ((He.cT K ("_law_built_right", none)).2 ≠ (He.cT K ("_law_names_right", none)).2) && decide ((He.cT K ("_law_joined_right", none)).2 ≠ (He.cT K ("_law_names_right", none)).2)
abbrev R : PySem.W.OpenRow := PySem.W.OpenLaw.row PySem.Challenge.rw_letterround_k07_villages_of_villages
abbrev hk : PySem.W.Hook := He.hookX 4 fa fn [] tf ex
def ob (s : PySem.W.SharedT) : He.AlX := He.obsX 4 fa fn [] tf ex (HandSHeadRun.getT s)
theorem ob_eq (s : PySem.W.SharedT) : ob s = hk.obs s.abs := He.obsX_eq (HandSHeadRun.getT_eq s)
def loose0 : List Str := ["SMALL_LETTERS", "FIGURES", "LONGEST_NAME", "PostError", "BadHouses", "BadPaths", "NoHouse", "NotJoined", "BadSome", "BadName", "CommonHouse", "BadNames", "OwnThing", "Village", "is_name"]
def loose1 : List Str := ["is_listed", "is_pair", "has_just", "check_houses", "checked_paths", "joined_groups", "near_houses", "path_between", "is_house", "ask_house", "check_some", "part_of", "built_on", "joined_by", "is_renaming"]
def loose2 : List Str := ["renamed", "_law_start", "_law_draw", "_law_pick", "_law_mixed", "_law_same", "_law_v_names", "_law_v_paths", "_law_v_village", "_law_v_beside", "_law_v_way", "_law_met", "_law_parts_right", "_law_built_right", "_law_joined_right"]
def loose3 : List Str := ["_law_names_right"]
def loose : List Str := loose0 ++ loose1 ++ loose2 ++ loose3
theorem run (w : World) : HandSHeadRun.RunEq R (PySem.W.view R.prog [51]) hk ob 40000 loose w := by
  unfold HandSHeadRun.RunEq
  intro os
  kernel_rfl
end K07H

/-! Trees of names: one way to a root, from each house; law-independent, no machine. -/
namespace Tr
open PySem
abbrev Prs := List (Str × Str)
def Adj (ps : Prs) (x y : Str) : Prop := (x, y) ∈ ps ∨ (y, x) ∈ ps
theorem Adj.symm {ps : Prs} {x y : Str} (h : Adj ps x y) : Adj ps y x := Or.symm h
structure Tree (hs : List Str) (ps : Prs) : Prop where
  nd : hs.Nodup
  np : ps.Nodup
  once : ∀ a b, (a, b) ∈ ps → (b, a) ∉ ps
  ex : ∃ (par : Str → Option Str) (rk : Str → Nat) (top : Str), top ∈ hs ∧ par top = none ∧ (∀ x ∈ hs, x ≠ top → ∃ y, par x = some y) ∧
    (∀ x y, par x = some y → x ∈ hs ∧ y ∈ hs ∧ rk y < rk x) ∧ (∀ x y, Adj ps x y ↔ (par x = some y ∨ par y = some x))
theorem Tree.perm {hs hs' : List Str} {ps ps' : Prs} (T : Tree hs ps) (h : hs'.Perm hs) (p : ps'.Perm ps) : Tree hs' ps' := by
  obtain ⟨par, rk, top, h1, h2, h3, h4, h5⟩ := T.ex
  refine ⟨h.nodup_iff.mpr T.nd, p.nodup_iff.mpr T.np, fun a b e f => T.once a b (p.mem_iff.mp e) (p.mem_iff.mp f), par, rk, top, h.mem_iff.mpr h1, h2, fun x hx => h3 x (h.mem_iff.mp hx), fun x y e => ?_, fun x y => ?_⟩
  · obtain ⟨q1, q2, q3⟩ := h4 x y e
    exact ⟨h.mem_iff.mpr q1, h.mem_iff.mpr q2, q3⟩
  · rw [← h5]
    unfold Adj
    rw [p.mem_iff, p.mem_iff]
theorem Tree.mem {hs : List Str} {ps : Prs} (T : Tree hs ps) {x y : Str} (h : Adj ps x y) : x ∈ hs ∧ y ∈ hs := by
  obtain ⟨par, rk, top, h1, h2, h3, h4, h5⟩ := T.ex
  rcases (h5 x y).mp h with e | e
  · exact ⟨(h4 _ _ e).1, (h4 _ _ e).2.1⟩
  · exact ⟨(h4 _ _ e).2.1, (h4 _ _ e).1⟩
theorem Tree.irr {hs : List Str} {ps : Prs} (T : Tree hs ps) {x : Str} (h : Adj ps x x) : False := by
  obtain ⟨par, rk, top, h1, h2, h3, h4, h5⟩ := T.ex
  rcases (h5 x x).mp h with e | e <;> exact absurd (h4 _ _ e).2.2 (Nat.lt_irrefl _)
theorem Tree.sole (x : Str) : Tree [x] [] := by
  refine ⟨by simp, by simp, fun a b h => by simp at h, fun _ => none, fun _ => 0, x, by simp, rfl, fun y hy hn => ?_, fun y z e => (by cases e), fun y z => ?_⟩
  · simp only [List.mem_singleton] at hy
    exact absurd hy hn
  · simp [Adj]
/-- one house more, by a path to one that is there -/
theorem Tree.leaf {hs : List Str} {ps : Prs} (T : Tree hs ps) {a b : Str} (ha : a ∈ hs) (hb : b ∉ hs) {q : Str × Str} (hq : q = (a, b) ∨ q = (b, a)) : Tree (hs ++ [b]) (ps ++ [q]) := by
  have no : ∀ x, Adj ps x b → False := fun x h => hb (T.mem h).2
  have hab : a ≠ b := fun z => hb (z ▸ ha)
  obtain ⟨par, rk, top, h1, h2, h3, h4, h5⟩ := T.ex
  have adj : ∀ x y, Adj (ps ++ [q]) x y ↔ (Adj ps x y ∨ (x = a ∧ y = b) ∨ (x = b ∧ y = a)) := fun x y => by
    unfold Adj
    rcases hq with rfl | rfl <;> simp only [List.mem_append, List.mem_singleton, Prod.mk.injEq] <;> grind
  have pb : ∀ y, par b ≠ some y := fun y e => hb (h4 _ _ e).1
  have pb2 : ∀ y, par y ≠ some b := fun y e => hb (h4 _ _ e).2.1
  have mem1 : ∀ {x y}, (x, y) ∈ ps → x ∈ hs ∧ y ∈ hs := fun h => T.mem (.inl h)
  refine ⟨?_, ?_, fun x y e f => ?_, fun x => if x = b then some a else par x, fun x => if x = b then rk a + 1 else rk x, top, List.mem_append_left _ h1, ?_, fun x hx hn => ?_, fun x y e => ?_, fun x y => ?_⟩
  · rw [List.nodup_append]
    refine ⟨T.nd, by simp, fun x hx y hy => ?_⟩
    simp only [List.mem_singleton] at hy
    exact fun z => hb (by rw [← hy, ← z]; exact hx)
  · rw [List.nodup_append]
    refine ⟨T.np, by simp, fun x hx y hy => ?_⟩
    simp only [List.mem_singleton] at hy
    intro z
    subst z hy
    rcases hq with rfl | rfl
    · exact hb (mem1 hx).2
    · exact hb (mem1 hx).1
  · rcases List.mem_append.mp e with e1 | e1 <;> rcases List.mem_append.mp f with f1 | f1
    · exact T.once _ _ e1 f1
    · have m := mem1 e1
      simp only [List.mem_singleton] at f1
      rcases hq with z | z
      · rw [z] at f1; cases f1; exact hb m.1
      · rw [z] at f1; cases f1; exact hb m.2
    · have m := mem1 f1
      simp only [List.mem_singleton] at e1
      rcases hq with z | z
      · rw [z] at e1; cases e1; exact hb m.1
      · rw [z] at e1; cases e1; exact hb m.2
    · simp only [List.mem_singleton] at e1 f1
      rcases hq with z | z
      · rw [z] at e1 f1; cases e1; cases f1; exact hab rfl
      · rw [z] at e1 f1; cases e1; cases f1; exact hab rfl
  · show (if top = b then some a else par top) = none
    rw [if_neg (fun z : top = b => hb (by rw [← z]; exact h1))]
    exact h2
  · by_cases e : x = b
    · exact ⟨a, if_pos e⟩
    · rcases List.mem_append.mp hx with hx | hx
      · obtain ⟨y, hy⟩ := h3 x hx hn
        exact ⟨y, by show (if x = b then some a else par x) = some y; rw [if_neg e]; exact hy⟩
      · simp only [List.mem_singleton] at hx
        exact absurd hx e
  · have e : (if x = b then some a else par x) = some y := e
    show x ∈ hs ++ [b] ∧ y ∈ hs ++ [b] ∧ (if y = b then rk a + 1 else rk y) < (if x = b then rk a + 1 else rk x)
    by_cases ex : x = b
    · rw [if_pos ex] at e
      cases e
      rw [if_pos ex, if_neg hab]
      exact ⟨by rw [ex]; simp, List.mem_append_left _ ha, Nat.lt_succ_self _⟩
    · rw [if_neg ex] at e
      obtain ⟨q1, q2, q3⟩ := h4 _ _ e
      rw [if_neg ex, if_neg (fun z : y = b => hb (by rw [← z]; exact q2))]
      exact ⟨List.mem_append_left _ q1, List.mem_append_left _ q2, q3⟩
  · rw [adj]
    show _ ↔ ((if x = b then some a else par x) = some y ∨ (if y = b then some a else par y) = some x)
    rw [h5]
    by_cases ex : x = b <;> by_cases ey : y = b <;> simp only [ex, ey, if_true, if_false] <;> grind
/-- each path told in one of its two ways -/
theorem Tree.turn {hs : List Str} {ps : Prs} (T : Tree hs ps) (f : Str × Str → Str × Str) (hf : ∀ q, f q = q ∨ f q = (q.2, q.1)) : Tree hs (ps.map f) := by
  have one : ∀ q ∈ ps, ∀ r ∈ ps, (f q = f r ∨ f q = ((f r).2, (f r).1)) → q = r := fun q hq r hr e => by
    obtain ⟨a, b⟩ := q
    obtain ⟨c, d⟩ := r
    have n := T.once c d hr
    have key : (a, b) = (c, d) ∨ (a, b) = (d, c) := by
      rcases hf (a, b) with h1 | h1 <;> rcases hf (c, d) with h2 | h2 <;> rw [h1, h2] at e <;> simp only [Prod.mk.injEq] at e ⊢ <;> grind
    rcases key with h | h
    · exact h
    · rw [h] at hq
      exact absurd hq n
  have adj : ∀ x y, Adj (ps.map f) x y ↔ Adj ps x y := fun x y => by
    have k : ∀ q, f q = (x, y) ∨ f q = (y, x) ↔ q = (x, y) ∨ q = (y, x) := fun q => by
      obtain ⟨a, b⟩ := q
      rcases hf (a, b) with h1 | h1 <;> rw [h1] <;> simp only [Prod.mk.injEq] <;> grind
    unfold Adj
    simp only [List.mem_map]
    constructor
    · rintro (⟨q, hq, e⟩ | ⟨q, hq, e⟩)
      · rcases (k q).mp (.inl e) with h | h
        · exact .inl (h ▸ hq)
        · exact .inr (h ▸ hq)
      · rcases (k q).mp (.inr e) with h | h
        · exact .inl (h ▸ hq)
        · exact .inr (h ▸ hq)
    · rintro (h | h)
      · rcases (k _).mpr (.inl rfl) with e | e
        · exact .inl ⟨_, h, e⟩
        · exact .inr ⟨_, h, e⟩
      · rcases (k _).mpr (.inr rfl) with e | e
        · exact .inl ⟨_, h, e⟩
        · exact .inr ⟨_, h, e⟩
  obtain ⟨par, rk, top, h1, h2, h3, h4, h5⟩ := T.ex
  refine ⟨T.nd, ?_, fun a b e g => ?_, par, rk, top, h1, h2, h3, h4, fun x y => (adj x y).trans (h5 x y)⟩
  · refine List.pairwise_map.mpr (List.Pairwise.imp_of_mem (fun {q r} hq hr hn e => hn (one q hq r hr (.inl e))) T.np)
  · obtain ⟨q, hq, e1⟩ := List.mem_map.mp e
    obtain ⟨r, hr, e2⟩ := List.mem_map.mp g
    have := one q hq r hr (.inr (by rw [e1, e2]))
    subst this
    rw [e1] at e2
    cases e2
    exact T.irr ((adj a a).mp (.inl e))
/-! ### ways to a root -/
inductive Pth (f : Str → Option Str) (r : Str) : Str → List Str → Prop
  | nil : Pth f r r [r]
  | cons {x y : Str} {l : List Str} (h : f x = some y) (p : Pth f r y l) : Pth f r x (x :: l)
structure Rt (hs : List Str) (ps : Prs) (r : Str) (f : Str → Option Str) : Prop where
  none : f r = none
  adj : ∀ x y, f x = some y → Adj ps x y
  one : ∀ x y, Adj ps x y → f x = some y ∨ f y = some x
  way : ∀ x ∈ hs, ∃ l, Pth f r x l
theorem Pth.ne {f : Str → Option Str} {r x : Str} {l : List Str} (h : Pth f r x l) : l ≠ [] := by cases h <;> simp
theorem Pth.head {f : Str → Option Str} {r x : Str} {l : List Str} (h : Pth f r x l) : ∃ t, l = x :: t := by cases h <;> exact ⟨_, rfl⟩
theorem Pth.uniq {f : Str → Option Str} {r x : Str} {l : List Str} (hr : f r = Option.none) (h : Pth f r x l) : ∀ {m}, Pth f r x m → l = m := by
  induction h with
  | nil =>
    intro m h2
    cases h2 with
    | nil => rfl
    | cons e _ => rw [hr] at e; cases e
  | cons e p ih =>
    intro m h2
    cases h2 with
    | nil => rw [hr] at e; cases e
    | cons e2 p2 =>
      rw [e] at e2
      cases e2
      rw [ih p2]
/-- what stands further on the way has its own way -/
theorem Pth.tail {f : Str → Option Str} {r x : Str} {l : List Str} (h : Pth f r x l) : ∀ y ∈ l, ∃ m, Pth f r y m ∧ m.length ≤ l.length ∧ (y ≠ x → m.length < l.length) := by
  induction h with
  | nil =>
    intro y hy
    simp only [List.mem_singleton] at hy
    subst hy
    exact ⟨_, .nil, Nat.le_refl _, fun z => absurd rfl z⟩
  | cons e p ih =>
    rename_i x' y' l'
    intro y hy
    rcases List.mem_cons.mp hy with rfl | hy
    · exact ⟨_, .cons e p, Nat.le_refl _, fun z => absurd rfl z⟩
    · obtain ⟨m, q, h1, _⟩ := ih y hy
      exact ⟨m, q, by rw [List.length_cons]; omega, fun _ => by rw [List.length_cons]; omega⟩
theorem Pth.nodup {f : Str → Option Str} {r x : Str} {l : List Str} (hr : f r = Option.none) (h : Pth f r x l) : l.Nodup := by
  induction h with
  | nil => simp
  | cons e p ih =>
    rename_i x' y' l'
    refine List.nodup_cons.mpr ⟨fun hx => ?_, ih⟩
    obtain ⟨m, q, h1, _⟩ := p.tail _ hx
    have := q.uniq hr (.cons e p)
    rw [this, List.length_cons] at h1
    omega
theorem Rt.mem {hs : List Str} {ps : Prs} {r : Str} {f : Str → Option Str} (T : Tree hs ps) (R : Rt hs ps r f) {x : Str} {l : List Str} (h : Pth f r x l) (hr : r ∈ hs) : ∀ y ∈ l, y ∈ hs := by
  induction h with
  | nil => intro y hy; simp only [List.mem_singleton] at hy; rw [hy]; exact hr
  | cons e p ih =>
    intro y hy
    rcases List.mem_cons.mp hy with rfl | hy
    · exact (T.mem (R.adj _ _ e)).1
    · exact ih y hy
/-- so many unlike ones, all among these: no more -/
theorem nodup_le {α : Type} [DecidableEq α] : ∀ {l m : List α}, l.Nodup → (∀ x ∈ l, x ∈ m) → l.length ≤ m.length
  | [], _, _, _ => Nat.zero_le _
  | a :: r, m, h, k => by
    have hm : a ∈ m := k a List.mem_cons_self
    have h2 := nodup_le (m := m.erase a) (List.nodup_cons.mp h).2 (fun x hx => by
      have hne : x ≠ a := fun z => (List.nodup_cons.mp h).1 (z ▸ hx)
      exact (List.mem_erase_of_ne hne).mpr (k x (List.mem_cons_of_mem _ hx)))
    rw [List.length_erase_of_mem hm] at h2
    have : 0 < m.length := List.length_pos_of_mem hm
    rw [List.length_cons]
    omega
theorem Rt.len {hs : List Str} {ps : Prs} {r : Str} {f : Str → Option Str} (T : Tree hs ps) (R : Rt hs ps r f) {x : Str} {l : List Str} (h : Pth f r x l) (hr : r ∈ hs) : l.length ≤ hs.length := nodup_le (h.nodup R.none) (R.mem T h hr)
/-- the root moved to a neighbour -/
def mv (f : Str → Option Str) (r r' : Str) : Str → Option Str := fun x => if x = r' then Option.none else if x = r then some r' else f x
theorem Rt.move {hs : List Str} {ps : Prs} {r r' : Str} {f : Str → Option Str} (T : Tree hs ps) (R : Rt hs ps r f) (h : Adj ps r r') : Rt hs ps r' (mv f r r') := by
  have hne : r ≠ r' := fun z => T.irr (z ▸ h : Adj ps r r)
  have e1 : f r' = some r := by
    rcases R.one _ _ h with e | e
    · rw [R.none] at e; cases e
    · exact e
  have m1 : mv f r r' r' = Option.none := by simp [mv]
  have m2 : mv f r r' r = some r' := by simp [mv, hne]
  have m3 : ∀ x, x ≠ r → x ≠ r' → mv f r r' x = f x := fun x a b => by simp [mv, a, b]
  refine ⟨m1, fun x y e => ?_, fun x y a => ?_, fun x hx => ?_⟩
  · by_cases hx : x = r'
    · rw [hx, m1] at e; cases e
    · by_cases hx2 : x = r
      · rw [hx2, m2] at e
        cases e
        rw [hx2]; exact h
      · rw [m3 x hx2 hx] at e
        exact R.adj _ _ e
  · have key : ∀ x y, f x = some y → (mv f r r' x = some y ∨ mv f r r' y = some x) := fun x y e => by
      by_cases hx : x = r'
      · subst hx
        rw [e1] at e
        cases e
        exact .inr m2
      · have hxr : x ≠ r := fun z => by rw [z, R.none] at e; cases e
        rw [m3 x hxr hx]
        exact .inl e
    rcases R.one _ _ a with e | e
    · exact key x y e
    · exact (key y x e).symm
  · obtain ⟨l, p⟩ := R.way x hx
    clear hx
    induction p with
    | nil => exact ⟨_, .cons m2 .nil⟩
    | cons e p ih =>
      rename_i x' y' l'
      by_cases hx : x' = r'
      · subst hx
        exact ⟨_, .nil⟩
      · have hxr : x' ≠ r := fun z => by rw [z, R.none] at e; cases e
        obtain ⟨m, q⟩ := ih
        exact ⟨_, .cons (by rw [m3 x' hxr hx]; exact e) q⟩
theorem Tree.root {hs : List Str} {ps : Prs} (T : Tree hs ps) : ∀ {r : Str}, r ∈ hs → ∃ f, Rt hs ps r f := by
  obtain ⟨par, rk, top, h1, h2, h3, h4, h5⟩ := T.ex
  have R0 : Rt hs ps top par := by
    refine ⟨h2, fun x y e => (h5 x y).mpr (.inl e), fun x y a => (h5 x y).mp a, ?_⟩
    have key : ∀ n x, rk x ≤ n → x ∈ hs → ∃ l, Pth par top x l := by
      intro n
      induction n with
      | zero =>
        intro x hn hx
        by_cases e : x = top
        · subst e
          exact ⟨_, Pth.nil⟩
        · obtain ⟨y, hy⟩ := h3 x hx e
          have := (h4 _ _ hy).2.2
          omega
      | succ n ih =>
        intro x hn hx
        by_cases e : x = top
        · subst e
          exact ⟨_, Pth.nil⟩
        · obtain ⟨y, hy⟩ := h3 x hx e
          obtain ⟨q1, q2, q3⟩ := h4 _ _ hy
          obtain ⟨l, p⟩ := ih y (by omega) q2
          exact ⟨_, .cons hy p⟩
    exact fun x hx => key _ x (Nat.le_refl _) hx
  have key : ∀ n r, rk r ≤ n → r ∈ hs → ∃ f, Rt hs ps r f := by
    intro n
    induction n with
    | zero =>
      intro r hn hr
      by_cases e : r = top
      · exact ⟨par, e ▸ R0⟩
      · obtain ⟨y, hy⟩ := h3 r hr e
        have := (h4 _ _ hy).2.2
        omega
    | succ n ih =>
      intro r hn hr
      by_cases e : r = top
      · exact ⟨par, e ▸ R0⟩
      · obtain ⟨y, hy⟩ := h3 r hr e
        obtain ⟨q1, q2, q3⟩ := h4 _ _ hy
        obtain ⟨f, R⟩ := ih y (by omega) q2
        exact ⟨_, R.move T ((h5 y r).mpr (.inr hy))⟩
  exact fun {r} hr => key _ r (Nat.le_refl _) hr
/-- two such functions agree -/
theorem Rt.agree {hs : List Str} {ps : Prs} {r : Str} {f g : Str → Option Str} (T : Tree hs ps) (R : Rt hs ps r f) (S : Rt hs ps r g) : ∀ x ∈ hs, f x = g x := by
  intro x hx
  obtain ⟨l, p⟩ := R.way x hx
  induction p with
  | nil => rw [R.none, S.none]
  | cons e p ih =>
    rename_i x' y' l'
    have ha := R.adj _ _ e
    have hy := (T.mem ha).2
    rcases S.one _ _ ha with q | q
    · rw [e, q]
    · have := ih hy
      rw [q] at this
      -- f y' = some x', but f x' = some y'
      obtain ⟨m, p2⟩ := R.way y' hy
      have a1 := p2.uniq R.none p
      subst a1
      obtain ⟨n, p3, hl, _⟩ := (Pth.cons this (Pth.cons e p2)).tail x' (by simp)
      have a2 := (Pth.cons this (Pth.cons e p2)).uniq R.none p2
      have := congrArg List.length a2
      simp at this
      omega
/-! ### rows of houses, each beside the one before -/
def Row (ps : Prs) (l : List Str) : Prop := ∀ i a b, l[i]? = some a → l[i + 1]? = some b → Adj ps a b
theorem Row.tail {ps : Prs} {x : Str} {l : List Str} (h : Row ps (x :: l)) : Row ps l := fun i a b e1 e2 => h (i + 1) a b e1 e2
theorem Rt.away {hs : List Str} {ps : Prs} {r : Str} {f : Str → Option Str} (R : Rt hs ps r f) : ∀ (t : List Str) (u v : Str), f v = some u → (u :: v :: t).Nodup → Row ps (v :: t) → (v :: t).getLast? = some r → False := by
  intro t
  induction t with
  | nil =>
    intro u v e _ _ q
    simp only [List.getLast?_singleton, Option.some.injEq] at q
    rw [q, R.none] at e
    cases e
  | cons w t ih2 =>
    intro u v e hn ha q
    have a2 : Adj ps v w := ha 0 v w rfl rfl
    rcases R.one _ _ a2 with e2 | e2
    · rw [e] at e2
      cases e2
      exact (List.nodup_cons.mp hn).1 (by simp)
    · exact ih2 v w e2 (List.nodup_cons.mp hn).2 ha.tail (by rw [List.getLast?_cons_cons] at q; exact q)
/-- a simple row that ends at the root is the way -/
theorem Rt.row {hs : List Str} {ps : Prs} {r : Str} {f : Str → Option Str} (R : Rt hs ps r f) :
    ∀ (l : List Str) (x : Str), (x :: l).Nodup → Row ps (x :: l) → (x :: l).getLast? = some r → Pth f r x (x :: l) := by
  intro l
  induction l with
  | nil =>
    intro x _ _ h
    simp only [List.getLast?_singleton, Option.some.injEq] at h
    subst h
    exact .nil
  | cons y t ih =>
    intro x hn ha hl
    have hl' : (y :: t).getLast? = some r := by rw [List.getLast?_cons_cons] at hl; exact hl
    rcases R.one _ _ (ha 0 x y rfl rfl) with e | e
    · exact .cons e (ih y (List.nodup_cons.mp hn).2 ha.tail hl')
    · exact (R.away t x y e hn ha.tail hl').elim
theorem Pth.last {f : Str → Option Str} {r x : Str} {l : List Str} (h : Pth f r x l) : l.getLast? = some r := by
  induction h with
  | nil => rfl
  | cons e p ih =>
    obtain ⟨t, rfl⟩ := p.head
    rw [List.getLast?_cons_cons]
    exact ih
theorem Pth.next {f : Str → Option Str} {r x : Str} {l : List Str} (h : Pth f r x l) : ∀ i a b, l[i]? = some a → l[i + 1]? = some b → f a = some b := by
  induction h with
  | nil => intro i a b h1 h2; simp at h2
  | cons e p ih =>
    intro i a b h1 h2
    cases i with
    | zero =>
      obtain ⟨t, rfl⟩ := p.head
      simp at h1 h2
      rw [← h1, ← h2]
      exact e
    | succ i => exact ih i a b h1 h2
theorem Pth.row {hs : List Str} {ps : Prs} {r x : Str} {f : Str → Option Str} {l : List Str} (R : Rt hs ps r f) (h : Pth f r x l) : Row ps l := fun i a b e1 e2 => R.adj _ _ (h.next i a b e1 e2)
/-! ### groups: what hangs together by some of the paths -/
theorem merge {h : Str → Str} {u v : Str} (huv : u ≠ v) (x y : Str) : ((if h x = u then v else h x) = (if h y = u then v else h y)) ↔ (h x = h y ∨ ((h x = u ∨ h x = v) ∧ (h y = u ∨ h y = v))) := by
  by_cases a : h x = u <;> by_cases b : h y = u <;> grind
theorem Tree.groups {hs : List Str} {ps : Prs} (T : Tree hs ps) : ∃ I : Prs → (Str → Str) → Prop,
    (∀ g, (∀ x ∈ hs, ∀ y ∈ hs, g x = g y → x = y) → I [] g) ∧
    (∀ d g a b, I d g → (a, b) ∈ ps → (∀ q ∈ d, q ∈ ps) → (a, b) ∉ d → g a ≠ g b ∧ ∀ g', (∀ x ∈ hs, g' x = if g x = g b then g a else g x) → I (d ++ [(a, b)]) g') ∧
    (∀ d g, I d g → (∀ q ∈ ps, q ∈ d) → ∀ x ∈ hs, ∀ y ∈ hs, g x = g y) := by
  obtain ⟨par, rk, top, h1, h2, h3, h4, h5⟩ := T.ex
  let ch : Str × Str → Str := fun q => if par q.1 = some q.2 then q.1 else q.2
  have chOf : ∀ x p, par x = some p → ch (x, p) = x ∧ ch (p, x) = x := fun x p e => by
    refine ⟨by simp [ch, e], ?_⟩
    have : par p ≠ some x := fun z => by
      have a := (h4 _ _ e).2.2
      have b := (h4 _ _ z).2.2
      omega
    simp [ch, this]
  have inv : ∀ a b, (a, b) ∈ ps → ∃ c p, par c = some p ∧ ch (a, b) = c ∧ ((a = c ∧ b = p) ∨ (a = p ∧ b = c)) := fun a b e => by
    rcases (h5 a b).mp (.inl e) with q | q
    · exact ⟨a, b, q, (chOf _ _ q).1, .inl ⟨rfl, rfl⟩⟩
    · exact ⟨b, a, q, (chOf _ _ q).2, .inr ⟨rfl, rfl⟩⟩
  refine ⟨fun d g => ∃ rep : Str → Str, (∀ x ∈ hs, (∀ q ∈ d, ch q ≠ x) → rep x = x) ∧ (∀ q ∈ d, ∀ p, par (ch q) = some p → rep (ch q) = rep p) ∧ ∀ x ∈ hs, ∀ y ∈ hs, g x = g y ↔ rep x = rep y, ?_, ?_, ?_⟩
  · intro g hg
    exact ⟨id, fun _ _ _ => rfl, fun q hq => absurd hq (by simp), fun x hx y hy => ⟨hg x hx y hy, fun e => by rw [show x = y from e]⟩⟩
  · rintro d g a b ⟨rep, r1, r2, r3⟩ hab hd hn
    obtain ⟨c, p, hc, ec, hcp⟩ := inv a b hab
    obtain ⟨mc, mp, lt⟩ := h4 _ _ hc
    have fresh : ∀ q ∈ d, ch q ≠ c := fun q hq e => by
      obtain ⟨a', b'⟩ := q
      obtain ⟨c', p', hc', ec', hcp'⟩ := inv a' b' (hd _ hq)
      have : c' = c := by rw [← ec', e]
      subst this
      rw [hc] at hc'
      cases hc'
      rcases hcp with ⟨rfl, rfl⟩ | ⟨rfl, rfl⟩ <;> rcases hcp' with ⟨rfl, rfl⟩ | ⟨rfl, rfl⟩
      · exact hn hq
      · exact T.once _ _ hab (hd _ hq)
      · exact T.once _ _ hab (hd _ hq)
      · exact hn hq
    have rkle : ∀ n x, rk x ≤ n → x ∈ hs → rk (rep x) ≤ rk x := by
      intro n
      induction n with
      | zero =>
        intro x hx hm
        by_cases e : ∀ q ∈ d, ch q ≠ x
        · rw [r1 x hm e]; exact Nat.le_refl _
        · obtain ⟨q, hq⟩ := Classical.not_forall.mp e
          obtain ⟨hq, hx2⟩ := Classical.not_imp.mp hq
          have hx2 : ch q = x := Classical.not_not.mp hx2
          obtain ⟨a', b'⟩ := q
          obtain ⟨c', p', hc', ec', _⟩ := inv a' b' (hd _ hq)
          rw [hx2] at ec'
          subst ec'
          have := (h4 _ _ hc').2.2
          omega
      | succ n ih =>
        intro x hx hm
        by_cases e : ∀ q ∈ d, ch q ≠ x
        · rw [r1 x hm e]; exact Nat.le_refl _
        · obtain ⟨q, hq⟩ := Classical.not_forall.mp e
          obtain ⟨hq, hx2⟩ := Classical.not_imp.mp hq
          have hx2 : ch q = x := Classical.not_not.mp hx2
          have e3 := r2 q hq
          obtain ⟨a', b'⟩ := q
          obtain ⟨c', p', hc', ec', _⟩ := inv a' b' (hd _ hq)
          rw [hx2] at ec' e3
          subst ec'
          rw [e3 p' hc']
          have := h4 _ _ hc'
          have := ih p' (by omega) this.2.1
          omega
    have rc : rep c = c := r1 c mc fresh
    have rp : rep p ≠ c := fun z => by
      have := rkle _ p (Nat.le_refl _) mp
      rw [z] at this
      omega
    have ma := T.mem (.inl hab)
    have hne : rep a ≠ rep b := by
      rcases hcp with ⟨rfl, rfl⟩ | ⟨rfl, rfl⟩
      · rw [rc]; exact fun z => rp z.symm
      · rw [rc]; exact rp
    have gne : g a ≠ g b := fun z => hne ((r3 _ ma.1 _ ma.2).mp z)
    refine ⟨gne, fun g' hg' => ⟨fun x => if rep x = c then rep p else rep x, fun x hx hq => ?_, fun q hq p' hp' => ?_, fun x hx y hy => ?_⟩⟩
    · have e1 := r1 x hx (fun q hq2 => hq q (List.mem_append_left _ hq2))
      have e2 : ch (a, b) ≠ x := hq _ (by simp)
      rw [ec] at e2
      show (if rep x = c then rep p else rep x) = x
      rw [e1, if_neg (fun z => e2 z.symm)]
    · show (if rep (ch q) = c then rep p else rep (ch q)) = (if rep p' = c then rep p else rep p')
      rcases List.mem_append.mp hq with hq | hq
      · rw [r2 q hq p' hp']
      · simp only [List.mem_singleton] at hq
        subst hq
        rw [ec] at hp' ⊢
        rw [hc] at hp'
        cases hp'
        rw [rc, if_pos rfl, if_neg rp]
    · rw [hg' x hx, hg' y hy, merge (Ne.symm gne), show ((if rep x = c then rep p else rep x) = (if rep y = c then rep p else rep y)) ↔ _ from merge (h := rep) (Ne.symm rp) x y]
      rw [r3 x hx y hy, r3 x hx b ma.2, r3 x hx a ma.1, r3 y hy b ma.2, r3 y hy a ma.1]
      rcases hcp with ⟨rfl, rfl⟩ | ⟨rfl, rfl⟩
      · rw [rc]
        constructor
        · rintro (e | ⟨e1, e2⟩)
          · exact .inl e
          · exact .inr ⟨e1.symm, e2.symm⟩
        · rintro (e | ⟨e1, e2⟩)
          · exact .inl e
          · exact .inr ⟨e1.symm, e2.symm⟩
      · rw [rc]
  · rintro d g ⟨rep, r1, r2, r3⟩ hall x hx y hy
    have key : ∀ n z, rk z ≤ n → z ∈ hs → rep z = rep top := by
      intro n
      induction n with
      | zero =>
        intro z hz hm
        by_cases e : z = top
        · rw [e]
        · obtain ⟨p, hp⟩ := h3 z hm e
          have := (h4 _ _ hp).2.2
          omega
      | succ n ih =>
        intro z hz hm
        by_cases e : z = top
        · rw [e]
        · obtain ⟨p, hp⟩ := h3 z hm e
          obtain ⟨_, mp, lt⟩ := h4 _ _ hp
          have e2 : rep z = rep p := by
            rcases (h5 z p).mpr (.inl hp) with q | q
            · have := r2 _ (hall _ q) p (by rw [(chOf _ _ hp).1]; exact hp)
              rwa [(chOf _ _ hp).1] at this
            · have := r2 _ (hall _ q) p (by rw [(chOf _ _ hp).2]; exact hp)
              rwa [(chOf _ _ hp).2] at this
          rw [e2]
          exact ih p (by omega) mp
    exact (r3 x hx y hy).mpr ((key _ x (Nat.le_refl _) hx).trans (key _ y (Nat.le_refl _) hy).symm)
/-! ### what lies beside a house -/
def nearL : Prs → Str → List Str
  | [], _ => []
  | (a, b) :: r, x => (if a = x then [b] else []) ++ ((if b = x then [a] else []) ++ nearL r x)
theorem nearL_snoc (ps : Prs) (a b x : Str) : nearL (ps ++ [(a, b)]) x = nearL ps x ++ ((if a = x then [b] else []) ++ (if b = x then [a] else [])) := by
  induction ps with
  | nil => simp [nearL]
  | cons q r ih =>
    obtain ⟨c, d⟩ := q
    show (if c = x then [d] else []) ++ ((if d = x then [c] else []) ++ nearL (r ++ [(a, b)]) x) = _
    rw [ih]
    simp [nearL, List.append_assoc]
theorem nearL_mem {ps : Prs} {x y : Str} : y ∈ nearL ps x ↔ Adj ps x y := by
  induction ps with
  | nil => simp [nearL, Adj]
  | cons q r ih =>
    obtain ⟨c, d⟩ := q
    unfold Adj at ih ⊢
    simp only [nearL, List.mem_append, ih, List.mem_cons, Prod.mk.injEq]
    constructor
    · rintro (h | h | h | h)
      · split at h
        · simp at h; subst h; rename_i e; exact .inl (.inl ⟨e.symm, rfl⟩)
        · simp at h
      · split at h
        · simp at h; subst h; rename_i e; exact .inr (.inl ⟨rfl, e.symm⟩)
        · simp at h
      · exact .inl (.inr h)
      · exact .inr (.inr h)
    · rintro ((⟨rfl, rfl⟩ | h) | (⟨rfl, rfl⟩ | h))
      · exact .inl (by simp)
      · exact .inr (.inr (.inl h))
      · exact .inr (.inl (by simp))
      · exact .inr (.inr (.inr h))
theorem nearL_nodup {x : Str} : ∀ {ps : Prs}, ps.Nodup → (∀ a b, (a, b) ∈ ps → (b, a) ∉ ps) → (nearL ps x).Nodup
  | [], _, _ => by simp [nearL]
  | (a, b) :: r, hn, ho => by
    have ih := nearL_nodup (x := x) (List.nodup_cons.mp hn).2 (fun c d h1 h2 => ho c d (List.mem_cons_of_mem _ h1) (List.mem_cons_of_mem _ h2))
    have hab : a ≠ b := fun z => by
      subst z
      exact ho a a List.mem_cons_self List.mem_cons_self
    have k1 : (a, b) ∉ r := (List.nodup_cons.mp hn).1
    have k2 : (b, a) ∉ r := fun z => ho a b List.mem_cons_self (List.mem_cons_of_mem _ z)
    by_cases e1 : a = x
    · subst e1
      have e2 : ¬ b = a := fun z => hab z.symm
      simp only [nearL, if_true, e2, if_false, List.nil_append, List.singleton_append]
      exact List.nodup_cons.mpr ⟨fun z => by
        rcases nearL_mem.mp z with q | q
        · exact k1 q
        · exact k2 q, ih⟩
    · by_cases e2 : b = x
      · subst e2
        simp only [nearL, e1, if_false, if_true, List.nil_append, List.singleton_append]
        exact List.nodup_cons.mpr ⟨fun z => by
          rcases nearL_mem.mp z with q | q
          · exact k2 q
          · exact k1 q, ih⟩
      · simp only [nearL, e1, e2, if_false, List.nil_append]
        exact ih
theorem Tree.near {hs : List Str} {ps : Prs} (T : Tree hs ps) (x : Str) : (nearL ps x).Nodup := nearL_nodup T.np T.once
end Tr

/-! t[::-1] of a pair; law-independent. -/
namespace HT
open PySem PySem.Calls PyProof.Rows
section
variable {prog : Program} {w : World} {A : Around} {E : Value → Shared → Prop} {s : Shared}
theorem sliceApplied_back {sl : Addr} {st : Tok} {Q : Int × Int × Nat → Shared → Prop} (hs : s.heap.IsSliceOf sl .none .none (.int (-1) st))
    (h : Q (1, -1, 2) s) : wpAny (model prog w) A (Builtin.Slice.sliceApplied (.ref sl) (pure (2 : Int))) Q E s := by
  obtain ⟨os, hos, hcs, hds⟩ := id hs
  unfold Builtin.Slice.sliceApplied Builtin.Slice.sliceFields
  refine wpAny_bind (wpAny_bind (wpAny_field hos hds (x := .none) rfl (wpAny_bind (wpAny_field hos hds (x := .none) rfl (wpAny_bind (wpAny_field hos hds (x := .int (-1) st) rfl (wpAny_pure ?_)))))))
  refine wpAny_bind (slicePart_int ?_)
  show wpAny _ _ (if ((-1 : Int) == 0) = true then _ else _) _ _ s
  rw [if_neg (by decide)]
  refine wpAny_bind (slicePart_none (wpAny_bind (slicePart_none (wpAny_bind (wpAny_pure ?_)))))
  exact wpAny_pure h
theorem getItem_pair_back {t sl : Addr} {u v : Value} {st : Tok} {Q : Value → Shared → Prop} (ht : IsTup s.heap t #[u, v]) (hs : s.heap.IsSliceOf sl .none .none (.int (-1) st))
    (h : Q (.ref s.heap.objs.size) { s with heap := s.heap.push { cls := .type "tuple", data := .seq #[v, u] } }) : wpAny (model prog w) A (getItem (.ref t) (.ref sl)) Q E s := by
  obtain ⟨os, hos, hcs, hds⟩ := id hs
  have hTs : s.TypeIs (.ref sl) "slice" := ⟨os, hos, hcs⟩
  have hso : sizeOk (.seq #[v, u]) := by show 2 ≤ sizeLine; decide
  unfold getItem
  try with_reducible refine wpAny_holding ?_
  first | refine wpAny_bind (wpAny_pure ?_) | skip
  refine wpAny_bind (wpAny_sequenceKey ht.typeIs (by decide) ?_)
  refine wpAny_bind (wpAny_callSpecial?_slot (name := Str.ofString "__getitem__") ht.typeIs PyProof.Rows.slot_tuple_getitem
    (wpAny_call_entry PyProof.Rows.slot_tuple_getitem ht.typeIs entry_tuple_getitem ?_ (args_tuple_getitem _ _)))
  show wpAny _ _ (Builtin.Tuple.tupleItemsOf (.ref t) >>= _) _ _ s
  refine wpAny_bind (tupleItemsOf_ ht ?_)
  refine wpAny_bind (wpAny_typeOf hTs ?_)
  rw [if_pos (by decide)]
  refine wpAny_bind (sliceApplied_back (st := st) hs ?_)
  show wpAny _ _ (if (((1 : Int) == 0 && (-1 : Int) == 1 && (2 == 2))) = true then _ else _) _ _ s
  rw [if_neg (by decide)]
  have e : ((List.range 2).filterMap fun (m : Nat) => (#[u, v] : Array Value)[((1 : Int) + (m : Int) * (-1)).toNat]?).toArray = #[v, u] := rfl
  rw [e]
  first
    | exact wpAny_bind (m := Builtin.Tuple.tupleExact _) (wpAny_newObj_type (wpAny_pure ⟨_, rfl, wpAny_pure h⟩) hso)
    | exact wpAny_bind (m := Builtin.Tuple.tupleExact _) (wpAny_newObj_type (wpAny_bind (wpAny_pure (wpAny_pure ⟨_, rfl, wpAny_pure h⟩))) hso)
    | exact wpAny_bind (wpAny_bind (m := Builtin.Tuple.tupleExact _) (wpAny_newObj_type (wpAny_pure (wpAny_pure ⟨_, rfl, wpAny_pure h⟩)) hso))
    | exact wpAny_bind (wpAny_bind (m := Builtin.Tuple.tupleExact _) (wpAny_newObj_type (wpAny_pure ⟨_, rfl, wpAny_pure h⟩) hso))
end
end HT
namespace L2
open PySem PySem.Spec PyProof.Rows
variable {X : Cx}
def tRevT (K : PySem.W.Frag) (te : TE) : TE := fun σ H Q => te σ H fun x H1 => ∃ a u v, x = .ref a ∧ SqT K H1 a [u, v] ∧ ∀ p, H1 p = none → Q (.ref p) (upd H1 p (.tup [v, u]))
theorem pe_revT {e : Expr} {te : TE} {k : Nat} {p1 p2 p3 pos : Pos} (he : PE X e te) : PE X (.Subscript e (.Slice none none (some (.UnaryOp .USub (.Constant (.int 1) k p1) p2)) p3) pos) (tRevT X.K te) := by
  refine ⟨fun pins s σ H Q I h => ?_⟩
  refine Subscript_ (thn (he.run pins s σ H _ I h) fun v s1 ⟨x, H1, I1, r1, q1⟩ => ?_)
  obtain ⟨a, x0, x1, ex, hx, q⟩ := q1
  subst ex
  cases r1
  have hst : PO X (some (.UnaryOp .USub (.Constant (.int 1) k p1) p2)) (tPart (tUn (rU fun i => .int (-i)) (tC (.int 1)))) := po_some (pe_un un_neg pe_int)
  refine wpAny_Slice (thn (po_none.run pins s1 σ H1 (fun o H2 => o = none ∧ H2 = H1) I1 ⟨rfl, rfl⟩) fun vl s2 ⟨l, H2, I2, pl, el, e2⟩ => ?_)
  subst el e2
  refine thn (po_none.run pins s2 σ H2 (fun o H3 => o = none ∧ H3 = H2) I2 ⟨rfl, rfl⟩) fun vu s3 ⟨u, H3, I3, pu, eu, e3⟩ => ?_
  subst eu e3
  refine thn (hst.run pins s3 σ H3 (fun o H4 => o = some (-1) ∧ H4 = H3) I3 ⟨1, rfl, -1, rfl, rfl, rfl⟩) fun vs s4 ⟨o, H4, I4, ps, eo, e4⟩ => ?_
  subst eo e4
  have I5 : Inv X pins σ H4 { s4 with heap := s4.heap.push { cls := .type "slice", data := .fields #[vl, vu, vs] } } := I4.kept (t' := s4.toks) fun b ob q => Heap.get?_push_of_some _ q
  obtain ⟨its, r, ht, hz⟩ := I5.tuple hx
  obtain ⟨v0, v1, rfl, r0, r1⟩ := vals2 r
  cases pl
  cases pu
  cases ps
  show wpAny (model X.prog X.w) X.A (subscriptTail e (.Slice none none (some (.UnaryOp .USub (.Constant (.int 1) k p1) p2)) p3) (.ref a) (.ref s4.heap.objs.size)) (EP X pins σ Q) X.xe { s4 with heap := s4.heap.push { cls := .type "slice", data := .fields #[.none, .none, .int (-1) _] } }
  refine tail_any (ops := [.ref a, .ref s4.heap.objs.size]) ht.typeIs (PyProof.Rows.slot_tuple_getitem.lookup) ?_ (by with_unfolding_all rfl)
  refine HT.getItem_pair_back ht (Heap.IsSliceOf.new _ _ _ _) ?_
  refine ⟨.ref _, _, I5.laid (t' := s4.toks) (o := .tup [x1, x0]) (fun b ob q => Heap.get?_push_of_some _ q) (Nat.le_refl _) ?_, rfl, q _ (I5.hok.fresh (Nat.le_refl _))⟩
  exact ⟨by show 2 ≤ sizeLine; decide, _, .cons r1 (.cons r0 .nil), IsTup.new _ _⟩
end L2

namespace K07
open PySem PySem.Spec PyProof.Rows L2
/-! ### drawn names, paths, a village -/
def names12 : List Str := ["b", "aa", "c1", "mill", "z9", "a", "m3", "abcdefghijk1", "inn", "no", "q7", "forge"]
theorem map_back {α β : Type} {f : α → β} {g : β → α} (hg : ∀ x, g (f x) = x) {l : List α} {m : List β} (h : m.Perm (l.map f)) : ∃ l' : List α, l'.Perm l ∧ m = l'.map f := by
  have e : ∀ y ∈ m, f (g y) = y := fun y hy => by
    obtain ⟨x, _, rfl⟩ := List.mem_map.mp (h.mem_iff.mp hy)
    rw [hg]
  refine ⟨m.map g, ?_, ?_⟩
  · have := h.map g
    rw [List.map_map, show g ∘ f = id from funext hg, List.map_id] at this
    exact this
  · rw [List.map_map]
    conv => lhs; rw [← List.map_id m]
    exact List.map_congr_left fun y hy => (e y hy).symm
/-- what is new behind was new ahead -/
theorem Kp.fresh {p c r : Addr} {n : Nat} {H H' : Hp} (a : Kp p c H H') (h : StrAt H' p c n) (hr : H' r = none) : H r = none := by
  cases e : H r with
  | none => rfl
  | some o =>
    obtain ⟨h1, h2⟩ := h.ne hr
    have := a _ _ e h1 h2
    rw [hr] at this
    cases this
def strV : V → Str
  | .str z => z
  | _ => ⟨#[]⟩
theorem perm_strs {zs : List Str} {ys : List V} (h : ys.Perm (zs.map V.str)) : ∃ xs : List Str, xs.Perm zs ∧ ys = xs.map V.str := map_back (g := strV) (fun _ => rfl) h
theorem cutV_take {xs : List V} (k : Nat) : cutV xs none (some (k : Int)) = xs.take k := by
  unfold cutV
  rw [HT.sIx_nat, HT.sIx_none, List.drop_zero, Nat.sub_zero]
  by_cases h : k ≤ xs.length
  · rw [Nat.min_eq_left h]
  · rw [Nat.min_eq_right (by omega), List.take_of_length_le (Nat.le_refl _), List.take_of_length_le (by omega)]
abbrev sNames : Stmt := top 41
def spNames : Sp := fun vs H Q _ => ∃ (p c : Addr) (n many : Nat), vs = [.ref p, .int (many : Nat)] ∧ StrAt H p c n ∧ n + 12 ≤ 1000000000 ∧ 1 ≤ many ∧ many ≤ 12 ∧
  ∀ (q : Addr) (hs : List Str) (H' : Hp), H q = none → H' q = some (.lst (hs.map V.str)) → hs.length = many → hs.Nodup → (∀ h ∈ hs, h ∈ names12) → Kp p c H H' → StrAt H' p c (n + 12) → Q (.ref q) H'
section
variable {P : Program} {w : World} {K : PySem.W.Frag} {mg : Str → Option Value} {base : Heap}
theorem scNames : FnScope ["stream", "many", "some"] ["stream", "many"] (defScope sNames) := ⟨rfl, rfl, rfl, by decide +kernel, rfl, by decide +kernel, by decide +kernel⟩
theorem ok_names {f fM : Addr} {fd fdM : FuncData} (F : FnP K "_law_v_names" sNames f fd) (GM : FnOk P w K mg base CX0 2 fM fdM ["stream", "some"] (spMixed K)) (bM : Binds K fdM ["stream", "some"] []) (kM : PySem.W.keepIn K (.ref fM) = true) (gM : mg "_law_mixed" = some (.ref fM)) :
    FnOk P w K mg base CX0 3 f fd ["stream", "many"] spNames := by
  refine F.ok scNames (fun vs H Q E h => ?_) (fun cdv A outer s H vs Q E hr h => ?_)
  · obtain ⟨p, c, n, many, rfl, _⟩ := h
    rfl
  · obtain ⟨p, c, n, many, rfl, hS, hn, hm1, hm2, k⟩ := h
    refine ⟨_, PSs.nox (pss_cons (ps_set (i := 2) scNames.nd rfl (.inl rfl) (pe_lst (pa_cons pe_str (pa_cons pe_str (pa_cons pe_str (pa_cons pe_str (pa_cons pe_str (pa_cons pe_str (pa_cons pe_str (pa_cons pe_str (pa_cons pe_str (pa_cons pe_str (pa_cons pe_str (pa_cons pe_str pa_nil))))))))))))))
      (pss_one (ps_ret (pe_slice sl_list (pe_call GM hr rfl gM kM bM .nil pass0 (pa_cons (pv 0) (pa_cons (pv 2) pa_nil))) po_none (po_some (pv 1)))))), ?_⟩
    refine ⟨by show 12 ≤ sizeLine; decide, fun a ha => ?_⟩
    have S1 : StrAt (upd H a (.lst (names12.map V.str))) p c n := hS.new ha
    refine ⟨_, rfl, _, rfl, p, c, a, n, names12.map V.str, rfl, S1, hn, .inl (SqL.of upd_same), by decide, fun q ys H' hq hq' hp hK hS' => ?_⟩
    obtain ⟨zs, hz, rfl⟩ := perm_strs hp
    refine ⟨_, rfl, _, rfl, q, _, rfl, SqL.of hq', fun r hr' => ?_⟩
    rw [cutV_take, ← List.map_take]
    have hqa : q ≠ a := fun z => by rw [z, upd_same] at hq; cases hq
    have K1 : Kp p c H H' := ((Kp.refl H).new ha).trans hK
    have hrH : H r = none := K1.fresh hS' hr'
    refine k r (zs.take many) _ hrH upd_same ?_ ?_ (fun h hh => hz.mem_iff.mp (List.mem_of_mem_take hh)) (K1.new hr') (hS'.new hr')
    · rw [List.length_take, hz.length_eq]
      show min many 12 = many
      omega
    · exact List.Nodup.sublist (List.take_sublist _ _) (hz.nodup_iff.mpr (by decide +kernel))
end
end K07

namespace K07
open PySem PySem.Spec PyProof.Rows L2 Tr
/-- pairs of texts, each at its place -/
abbrev PrL : Type := List (Addr × Str × Str)
def PrsAt (H : Hp) (qs : PrL) : Prop := ∀ t ∈ qs, H t.1 = some (.tup [.str t.2.1, .str t.2.2])
def refsL (qs : PrL) : List V := qs.map fun t => .ref t.1
theorem PrsAt.keep {H H' : Hp} {qs : PrL} (h : PrsAt H qs) (e : ∀ t ∈ qs, ∀ o, H t.1 = some o → H' t.1 = some o) : PrsAt H' qs := fun t ht => e t ht _ (h t ht)
theorem PrsAt.ex {H H' : Hp} {qs : PrL} (h : PrsAt H qs) (e : Evl.Ex H H') : PrsAt H' qs := fun t ht => e _ _ (h t ht)
theorem PrsAt.kp {H0 H H' : Hp} {qs : PrL} {p c : Addr} (h : PrsAt H qs) (e : Kp p c H H') (hp : ∀ t ∈ qs, t.1 ≠ p ∧ t.1 ≠ c) : PrsAt H' qs := fun t ht => e _ _ (h t ht) (hp t ht).1 (hp t ht).2
theorem PrsAt.nep {H : Hp} {qs : PrL} {p c : Addr} {n : Nat} (h : PrsAt H qs) (hS : StrAt H p c n) : ∀ t ∈ qs, t.1 ≠ p ∧ t.1 ≠ c := fun t ht => by
  obtain ⟨L, cells, a', k', m', g1, g2, _⟩ := hS
  have e := h t ht
  refine ⟨fun z => ?_, fun z => ?_⟩
  · rw [z, g1] at e
    cases e
  · rw [z, g2] at e
    cases e
/-- a list of names is no part of the stream -/
theorem strs_nep {H : Hp} {l p c : Addr} {n : Nat} {hs : List Str} (h : H l = some (.lst (hs.map V.str))) (hne : hs ≠ []) (hS : StrAt H p c n) : l ≠ p ∧ l ≠ c := by
  obtain ⟨L, cells, a', k', m', g1, g2, _⟩ := hS
  refine ⟨fun z => ?_, fun z => ?_⟩
  · rw [z, g1] at h
    cases hs with
    | nil => exact hne rfl
    | cons x r => cases h
  · rw [z, g2] at h
    cases hs with
    | nil => exact hne rfl
    | cons x r =>
      have h := Option.some.inj h
      injection h with h
      cases cells with
      | nil => cases h
      | cons i t => injection h with h1 _; cases h1
abbrev sPaths : Stmt := top 42
def spPaths : Sp := fun vs H Q _ => ∃ (p c l : Addr) (n : Nat) (hs : List Str), vs = [.ref p, .ref l] ∧ StrAt H p c n ∧ n + 64 ≤ 1000000000 ∧ H l = some (.lst (hs.map V.str)) ∧ hs ≠ [] ∧ hs.length ≤ 12 ∧ hs.Nodup ∧
  ∀ (q : Addr) (qs : PrL) (H' : Hp), H q = none → H' q = some (.lst (refsL qs)) → PrsAt H' qs → (∀ t ∈ qs, H t.1 = none) → Tree hs (qs.map (·.2)) → qs.length + 1 = hs.length → Kp p c H H' → StrAt H' p c (n + 64) → Q (.ref q) H'
theorem getD_of {α : Type} {l : List α} {i : Nat} (h : i < l.length) : ∃ x, l[i]? = some x := ⟨l[i], List.getElem?_eq_getElem h⟩
theorem snd_refs {xs : List V} {qs : PrL} (h : xs.Perm (refsL qs)) : ∃ zs : PrL, zs.Perm qs ∧ xs = refsL zs := by
  obtain ⟨ys, p, e⟩ := perm_lift (fun t : Addr × Str × Str => V.ref t.1) h qs rfl
  exact ⟨ys, p, e.symm⟩
section
variable {P : Program} {w : World} {K : PySem.W.Frag} {mg : Str → Option Value} {base : Heap}
theorem scPaths : FnScope ["stream", "houses", "shape", "found", "k", "at", "pair"] ["stream", "houses"] (defScope sPaths) := ⟨rfl, rfl, rfl, by decide +kernel, rfl, by decide +kernel, by decide +kernel⟩
theorem ok_paths {f fD fM : Addr} {fd fdD fdM : FuncData} (F : FnP K "_law_v_paths" sPaths f fd) (GD : FnOk P w K mg base CX0 1 fD fdD ["stream", "many"] spDraw) (bD : Binds K fdD ["stream", "many"] []) (kD : PySem.W.keepIn K (.ref fD) = true) (gD : mg "_law_draw" = some (.ref fD))
    (GM : FnOk P w K mg base CX0 2 fM fdM ["stream", "some"] (spMixed K)) (bM : Binds K fdM ["stream", "some"] []) (kM : PySem.W.keepIn K (.ref fM) = true) (gM : mg "_law_mixed" = some (.ref fM)) (gR : mg "range" = none) (gL : mg "len" = none) (gX : mg "max" = none) :
    FnOk P w K mg base CX0 3 f fd ["stream", "houses"] spPaths := by
  refine F.ok scPaths (fun vs H Q E h => ?_) (fun cdv A outer s H vs Q E hr h => ?_)
  · obtain ⟨p, c, l, n, hs, rfl, _⟩ := h
    rfl
  · obtain ⟨p, c, l, n, hs, rfl, hS, hn, hl, hne, h12, hnd, k⟩ := h
    refine ⟨_, PSs.nox (pss_cons (ps_par (i := 2) (j := 3) rfl scPaths.nd rfl rfl (by decide) rfl rfl (pa_cons (pe_call GD (hr.mono (by decide)) rfl gD kD bD .nil pass0 (pa_cons (pv 0) (pa_cons pe_int pa_nil))) (pa_cons (pe_lst pa_nil) pa_nil)) rfl)
      (pss_cons (ps_for PassesOwn.never rfl (pi_range2 rfl gR (pa_cons pe_int (pa_cons (pe_callB call_len_seq (by rfl) gL PySem.boot_len (pa_cons (pv 1) pa_nil)) pa_nil))) (pg_name (i := 4) scPaths.nd rfl (.inl rfl))
        (pss_cons (ps_set (i := 5) scPaths.nd rfl (.inl rfl) (pe_ix ix_list (pe_lst (pa_cons (pe_op op_sub (pv 4) pe_int) (pa_cons pe_int (pa_cons (pe_call GD (hr.mono (by decide)) rfl gD kD bD .nil pass0 (pa_cons (pv 0) (pa_cons (pv 4) pa_nil)))
            (pa_cons (pe_callB (call_max2 rfl) (by rfl) gX (by decide +kernel) (pa_cons pe_int (pa_cons (pe_op op_sub (pe_op op_sub (pv 4) pe_int) (pe_call GD (hr.mono (by decide)) rfl gD kD bD .nil pass0 (pa_cons (pv 0) (pa_cons pe_int pa_nil)))) pa_nil))) pa_nil))))) (pv 2) (fun _ _ => rfl)))
        (pss_cons (ps_set (i := 6) scPaths.nd rfl (.inl rfl) (pe_tup (pa_cons (pe_ix ix_list (pv 1) (pv 5) (fun _ _ => rfl)) (pa_cons (pe_ix ix_list (pv 1) (pv 4) (fun _ _ => rfl)) pa_nil))))
        (pss_one (ps_expr (pe_bm PySem.F.plainAttrs_list PySem.F.slot_list_append PySem.F.type_list_append mt_append (pv 3) (pa_cons (pe_ifExp (pt_cmpR op_eq (pe_call GD (hr.mono (by decide)) rfl gD kD bD .nil pass0 (pa_cons (pv 0) (pa_cons pe_int pa_nil))) pe_int (nomark _)) (pv 6) (pe_revT (pv 6))) pa_nil)))))))
      (pss_one (ps_ret (pe_call GM hr rfl gM kM bM .nil pass0 (pa_cons (pv 0) (pa_cons (pv 3) pa_nil))))))), ?_⟩
    obtain ⟨hlp, hlc⟩ := strs_nep hl hne hS
    have hl1 : 1 ≤ hs.length := List.length_pos_iff.mpr hne
    refine ⟨_, rfl, p, c, n, 4, rfl, hS, by omega, by decide, by decide, fun d H1 d0 d4 hK1 hS1 => ?_⟩
    refine ⟨by show 0 ≤ sizeLine; decide, fun fo hfo => ⟨_, _, rfl, ?_⟩⟩
    have hl1' : H1 l = some (.lst (hs.map V.str)) := hK1 _ _ hl hlp hlc
    have hlfo : l ≠ fo := ne_of_none hl1' hfo
    have lenS : (hs.map V.str).length = hs.length := List.length_map _
    refine ⟨_, rfl, l, _, rfl, .inl (SqL.of (by rw [upd_ne hlfo]; exact hl1')), 1, (hs.length : Nat), by rw [lenS], ⟨by decide, by decide, by omega, by omega⟩, ?_⟩
    obtain ⟨nfp, nfc⟩ := hS1.ne hfo
    have hfoH : H fo = none := hK1.fresh hS1 hfo
    refine for_it walk_range (fun i σ H' => ∃ (v4 v5 v6 : Option V) (qs : PrL), σ = [some (.ref p), some (.ref l), some (.int d), some (.ref fo), v4, v5, v6] ∧ H' fo = some (.lst (refsL qs)) ∧ PrsAt H' qs ∧ (∀ t ∈ qs, H t.1 = none) ∧ qs.length = i ∧ Tree (hs.take (i + 1)) (qs.map (·.2)) ∧ Kp p c H H' ∧ StrAt H' p c (n + 1 + 3 * i))
      ?_ (fun _ _ _ _ _ => trivial) (fun i x σ H' H'' hi hp hy => ?_) (fun σ H' hp => ?_)
    · refine ⟨none, none, none, [], rfl, upd_same, fun t ht => absurd ht (by simp), fun t ht => absurd ht (by simp), rfl, ?_, hK1.new hfo, hS1.new hfo⟩
      cases hs with
      | nil => exact absurd rfl hne
      | cons h0 r => exact Tree.sole h0
    · obtain ⟨v4, v5, v6, qs, rfl, e1, e2, e3, e4, e5, e6, e7⟩ := hp
      obtain ⟨rfl, rfl⟩ := hy
      have hi' : i + 1 < hs.length := by omega
      have ek : (1 : Int) + (i : Nat) = ((i + 1 : Nat) : Int) := by omega
      have hlx : H'' l = some (.lst (hs.map V.str)) := e6 _ _ hl hlp hlc
      -- the four places
      refine ⟨_, rfl, _, _, rfl, rfl, _, rfl, _, rfl, p, c, n + 1 + 3 * i, 1 + (i : Nat), rfl, e7, by omega, by omega, by omega, fun d1 H2 a1 b1 hK2 hS2 => ?_⟩
      refine ⟨_, rfl, _, _, rfl, rfl, _, rfl, p, c, n + 1 + 3 * i + 1, 2, rfl, hS2, by omega, by decide, by decide, fun d2 H3 a2 b2 hK3 hS3 => ?_⟩
      refine ⟨_, _, rfl, rfl, _, _, rfl, ?_⟩
      refine ⟨by show 4 ≤ sizeLine; decide, fun la hla => ?_⟩
      have hK23 : Kp p c H H3 := (e6.trans hK2).trans hK3
      obtain ⟨j, rfl⟩ : ∃ j : Nat, d = (j : Int) := ⟨d.toNat, by omega⟩
      have hj4 : j < 4 := by omega
      -- the place drawn
      obtain ⟨at_, hat, hle⟩ : ∃ at_ : Nat, [V.int (1 + (i : Nat) - 1), .int 0, .int d1, .int (if 1 + (i : Nat) - 1 - d2 > 0 then 1 + (i : Nat) - 1 - d2 else 0)][j]? = some (.int (at_ : Nat)) ∧ at_ ≤ i := by
        have h4 : j = 0 ∨ j = 1 ∨ j = 2 ∨ j = 3 := by omega
        rcases h4 with rfl | rfl | rfl | rfl
        · exact ⟨i, by simp only [List.getElem?_cons_zero]; congr 2; omega, Nat.le_refl _⟩
        · exact ⟨0, rfl, Nat.zero_le _⟩
        · refine ⟨d1.toNat, ?_, by omega⟩
          show some (V.int d1) = _
          congr 2; omega
        · refine ⟨(if 1 + (i : Int) - 1 - d2 > 0 then 1 + (i : Int) - 1 - d2 else 0).toNat, ?_, by split <;> omega⟩
          show some (V.int _) = _
          congr 2
          split <;> omega
      refine ⟨_, rfl, la, _, (j : Int), _, rfl, rfl, SqL.of upd_same, atI_nat hat, ?_⟩
      have hl3 : H3 l = some (.lst (hs.map V.str)) := hK23 _ _ hl hlp hlc
      have hf3 : H3 fo = some (.lst (refsL qs)) := hK3 _ _ (hK2 _ _ e1 nfp nfc) nfp nfc
      have hll : l ≠ la := ne_of_none hl3 hla
      have hfl : fo ≠ la := ne_of_none hf3 hla
      have hl3' : upd H3 la (.lst [.int (1 + (i : Nat) - 1), .int 0, .int d1, .int (if 1 + (i : Nat) - 1 - d2 > 0 then 1 + (i : Nat) - 1 - d2 else 0)]) l = some (.lst (hs.map V.str)) := by rw [upd_ne hll]; exact hl3
      have hf3' : upd H3 la (.lst [.int (1 + (i : Nat) - 1), .int 0, .int d1, .int (if 1 + (i : Nat) - 1 - d2 > 0 then 1 + (i : Nat) - 1 - d2 else 0)]) fo = some (.lst (refsL qs)) := by rw [upd_ne hfl]; exact hf3
      have hK4 : Kp p c H (upd H3 la (.lst [.int (1 + (i : Nat) - 1), .int 0, .int d1, .int (if 1 + (i : Nat) - 1 - d2 > 0 then 1 + (i : Nat) - 1 - d2 else 0)])) := hK23.new hla
      have hS4 : StrAt (upd H3 la (.lst [.int (1 + (i : Nat) - 1), .int 0, .int d1, .int (if 1 + (i : Nat) - 1 - d2 > 0 then 1 + (i : Nat) - 1 - d2 else 0)])) p c (n + 1 + 3 * i + 1 + 1) := hS3.new hla
      have hP4 : PrsAt (upd H3 la (.lst [.int (1 + (i : Nat) - 1), .int 0, .int d1, .int (if 1 + (i : Nat) - 1 - d2 > 0 then 1 + (i : Nat) - 1 - d2 else 0)])) qs := fun t ht => by
        obtain ⟨n1, n2⟩ := e2.nep e7 t ht
        have := hK3 _ _ (hK2 _ _ (e2 t ht) n1 n2) n1 n2
        rw [upd_ne (ne_of_none this hla)]
        exact this
      dsimp only [List.set, gName]
      generalize upd H3 la (.lst [.int (1 + (i : Nat) - 1), .int 0, .int d1, .int (if 1 + (i : Nat) - 1 - d2 > 0 then 1 + (i : Nat) - 1 - d2 else 0)]) = H4 at hl3' hf3' hK4 hS4 hP4
      have hat1 : at_ < hs.length := by omega
      obtain ⟨a, ha⟩ := getD_of hat1
      obtain ⟨b, hb⟩ := getD_of hi'
      have haV : (hs.map V.str)[at_]? = some (.str a) := by rw [List.getElem?_map, ha]; rfl
      have hbV : (hs.map V.str)[i + 1]? = some (.str b) := by rw [List.getElem?_map, hb]; rfl
      refine ⟨_, rfl, _, rfl, l, _, ((at_ : Nat) : Int), _, rfl, rfl, SqL.of hl3', atI_nat haV, _, rfl, _, rfl, l, _, 1 + (i : Nat), _, rfl, rfl, SqL.of hl3', by rw [ek]; exact atI_nat hbV, by show 2 ≤ sizeLine; decide, fun T hT => ?_⟩
      have hfT : fo ≠ T := ne_of_none hf3' hT
      have hK5 : Kp p c H (upd H4 T (.tup [.str a, .str b])) := hK4.new hT
      have hTH : H T = none := hK4.fresh hS4 hT
      have hP5 : PrsAt (upd H4 T (.tup [.str a, .str b])) qs := fun t ht => by
        rw [upd_ne (ne_of_none (hP4 t ht) hT)]
        exact hP4 t ht
      have hf5 : upd H4 T (.tup [.str a, .str b]) fo = some (.lst (refsL qs)) := by rw [upd_ne hfT]; exact hf3'
      have hS5 : StrAt (upd H4 T (.tup [.str a, .str b])) p c (n + 1 + 3 * i + 1 + 1) := hS4.new hT
      obtain ⟨nTp, nTc⟩ := hS4.ne hT
      have hT5 : upd H4 T (.tup [.str a, .str b]) T = some (.tup [.str a, .str b]) := upd_same
      generalize upd H4 T (.tup [.str a, .str b]) = H5 at hK5 hP5 hf5 hS5 hT5
      -- the tree with one leaf more
      have hta : a ∈ hs.take (i + 1) := by
        refine List.mem_of_getElem? (i := at_) ?_
        rw [List.getElem?_take_of_lt (by omega)]
        exact ha
      have htk : hs.take (i + 1 + 1) = hs.take (i + 1) ++ [b] := by
        rw [List.take_add_one, hb]
        rfl
      have htb : b ∉ hs.take (i + 1) := fun z => by
        obtain ⟨j', hj'⟩ := List.mem_iff_getElem?.mp z
        have lt : j' < i + 1 := by
          have := (List.getElem?_eq_some_iff.mp hj').1
          rw [List.length_take] at this
          omega
        rw [List.getElem?_take_of_lt lt] at hj'
        have := (List.getElem?_inj (by omega) hnd).mp (hj'.trans hb.symm)
        omega
      refine ⟨_, rfl, .inl ⟨rfl, _, SqL.of hf5⟩, _, rfl, p, c, n + 1 + 3 * i + 1 + 1, 2, rfl, hS5, by omega, by decide, by decide, fun d3 H6 a3 b3 hK6 hS6 => ?_⟩
      have hf6 : H6 fo = some (.lst (refsL qs)) := hK6 _ _ hf5 nfp nfc
      have hT6 : H6 T = some (.tup [.str a, .str b]) := hK6 _ _ hT5 nTp nTc
      have hP6 : PrsAt H6 qs := hP5.kp (H0 := H) hK6 (hP5.nep hS5)
      have h12' : (refsL qs).length < sizeLine := by
        unfold refsL
        rw [List.length_map, e4]
        exact Nat.lt_of_lt_of_le (show i < 12 by omega) (by decide)
      refine ⟨rfl, _, rfl, ite2 (fun hz => ?_) (fun hz => ?_)⟩
      · refine ⟨_, rfl, fo, _, _, rfl, rfl, hf6, h12', ?_⟩
        refine ⟨_, _, _, qs ++ [(T, a, b)], rfl, by unfold refsL; rw [List.map_append]; exact upd_same, fun t ht => ?_, fun t ht => ?_, by simp [e4], ?_, ((hK5.trans hK6).mut hfoH), ?_⟩
        · rcases List.mem_append.mp ht with ht | ht
          · rw [upd_ne (fun z => by have := hP6 t ht; rw [z, hf6] at this; cases this)]
            exact hP6 t ht
          · simp only [List.mem_singleton] at ht
            subst ht
            rw [upd_ne hfT.symm]
            exact hT6
        · rcases List.mem_append.mp ht with ht | ht
          · exact e3 t ht
          · simp only [List.mem_singleton] at ht
            subst ht
            exact hTH
        · rw [List.map_append, htk]
          exact e5.leaf hta htb (.inl rfl)
        · exact (hS6.upd nfp nfc).mono (by omega)
      · refine ⟨_, rfl, T, .str a, .str b, rfl, SqT.of hT6, fun U hU => ?_⟩
        have hfU : fo ≠ U := ne_of_none hf6 hU
        refine ⟨fo, _, _, rfl, rfl, by rw [upd_ne hfU]; exact hf6, h12', ?_⟩
        refine ⟨_, _, _, qs ++ [(U, b, a)], rfl, by unfold refsL; rw [List.map_append]; exact upd_same, fun t ht => ?_, fun t ht => ?_, by simp [e4], ?_, (((hK5.trans hK6).new hU).mut hfoH), ?_⟩
        · rcases List.mem_append.mp ht with ht | ht
          · rw [upd_ne (fun z => by have := hP6 t ht; rw [z, hf6] at this; cases this), upd_ne (ne_of_none (hP6 t ht) hU)]
            exact hP6 t ht
          · simp only [List.mem_singleton] at ht
            subst ht
            rw [upd_ne hfU.symm]
            exact upd_same
        · rcases List.mem_append.mp ht with ht | ht
          · exact e3 t ht
          · simp only [List.mem_singleton] at ht
            subst ht
            exact (hK5.trans hK6).fresh hS6 hU
        · rw [List.map_append, htk]
          exact e5.leaf hta htb (.inr rfl)
        · exact ((hS6.new hU).upd nfp nfc).mono (by omega)
    · obtain ⟨v4, v5, v6, qs, rfl, e1, e2, e3, e4, e5, e6, e7⟩ := hp
      have en : (((hs.length : Nat) : Int) - 1).toNat + 1 = hs.length := by omega
      have en2 : qs.length + 1 = hs.length := by rw [e4]; exact en
      rw [en, List.take_length] at e5
      refine ⟨_, rfl, _, rfl, p, c, fo, n + 1 + 3 * (((hs.length : Nat) : Int) - 1).toNat, refsL qs, rfl, e7, ?_, .inl (SqL.of e1), ?_, fun q ys H' hq hq' hp hK hS' => ?_⟩
      · unfold refsL
        rw [List.length_map]
        omega
      · unfold refsL
        rw [List.length_map]
        omega
      · obtain ⟨zs, hz, rfl⟩ := snd_refs hp
        have hP := e2.kp (H0 := H) hK (e2.nep e7)
        refine k q zs H' (e6.fresh e7 hq) hq' (fun t ht => hP t (hz.mem_iff.mp ht)) (fun t ht => e3 t (hz.mem_iff.mp ht)) (e5.perm (List.Perm.refl _) (hz.map _)) (by rw [hz.length_eq]; exact en2) (e6.trans hK) (hS'.mono ?_)
        unfold refsL
        rw [List.length_map]
        omega
end
end K07

namespace K07
open PySem PySem.Spec PyProof.Rows L2
/-! ### plain things and their kinds -/
inductive Pl (H : Hp) : V → String → Prop
  | non : Pl H .non "NoneType"
  | bl (b : Bool) : Pl H (.bl b) "bool"
  | int (i : Int) : Pl H (.int i) "int"
  | str (z : Str) : Pl H (.str z) "str"
  | lst {a : Addr} {xs : List V} (h : H a = some (.lst xs)) : Pl H (.ref a) "list"
  | tup {a : Addr} {xs : List V} (h : H a = some (.tup xs)) : Pl H (.ref a) "tuple"
  | frt {a : Addr} {xs : List V} {o : Obj} (h : H a = some (.frz o (.tup xs))) : Pl H (.ref a) "tuple"
  | dic {a : Addr} {kvs : List (Key × V)} (h : H a = some (.dK kvs)) : Pl H (.ref a) "dict"
  | dct {a : Addr} {kvs : List (List Key × V)} (h : H a = some (.dT kvs)) : Pl H (.ref a) "dict"
theorem Pl.ext {H H' : Hp} {x : V} {n : String} (h : Pl H x n) (e : Evl.Ex H H') : Pl H' x n := by
  cases h with
  | non => exact .non
  | bl b => exact .bl b
  | int i => exact .int i
  | str z => exact .str z
  | lst h => exact .lst (e _ _ h)
  | tup h => exact .tup (e _ _ h)
  | frt h => exact .frt (e _ _ h)
  | dic h => exact .dic (e _ _ h)
  | dct h => exact .dct (e _ _ h)
theorem Pl.kp {H H' : Hp} {p c : Addr} {m : Nat} {x : V} {n : String} (h : Pl H x n) (hp : x ≠ .ref p) (hc : x ≠ .ref c) (e : Kp p c H H') : Pl H' x n := by
  have key : ∀ {a : Addr} {o : HO}, x = .ref a → H a = some o → H' a = some o := fun {a o} hx h => e _ _ h (fun z => hp (by rw [hx, z])) (fun z => hc (by rw [hx, z]))
  cases h with
  | non => exact .non
  | bl b => exact .bl b
  | int i => exact .int i
  | str z => exact .str z
  | lst h => exact .lst (key rfl h)
  | tup h => exact .tup (key rfl h)
  | frt h => exact .frt (key rfl h)
  | dic h => exact .dic (key rfl h)
  | dct h => exact .dct (key rfl h)
theorem rdEx {H H' : Hp} {a : Addr} {u : HO} (e : Evl.Ex H H') (h : Rd H a u) : Rd H' a u := h.imp (fun z => e _ _ z) (fun ⟨o, z⟩ => ⟨o, e _ _ z⟩)
theorem Pl.rdt {H : Hp} {a : Addr} {xs : List V} (h : Rd H a (.tup xs)) : Pl H (.ref a) "tuple" := by
  rcases h with h | ⟨o, h⟩
  · exact .tup h
  · exact .frt h
def isB (n t : String) : Bool := n == t || (n == "bool" && t == "int")
def kinds : List String := ["NoneType", "bool", "int", "str", "list", "tuple", "dict"]
theorem kit_tab : ∀ n ∈ kinds, ∀ t ∈ ["int", "bool", "list", "tuple", "dict", "str"], kitB n t = some (isB n t) := by decide +kernel
theorem Pl.mem {H : Hp} {x : V} {n : String} (h : Pl H x n) : n ∈ kinds := by cases h <;> decide
theorem Pl.ty {K : PySem.W.Frag} {H : Hp} {x : V} {n : String} (h : Pl H x n) : TyX K H x (.type n) := by
  cases h with
  | non => exact .base .non
  | bl b => exact .base (.bl b)
  | int i => exact .base (.int i)
  | str z => exact .base (.str z)
  | lst h => exact .base (.lst h)
  | tup h => exact .base (.tup h)
  | frt h => exact .fTuple h
  | dic h => exact .base (.dK h)
  | dct h => exact .base (.dT h)
theorem Pl.one {K : PySem.W.Frag} {H : Hp} {x : V} {n : String} (h : Pl H x n) (t : String) (ht : t ∈ ["int", "bool", "list", "tuple", "dict", "str"] := by decide) : PySem.W.kitOne K (.type n) (.type t) = some (isB n t) := kit_ty (kit_tab n h.mem t ht)
def isBs (n : String) (ts : List String) : Bool := ts.any fun t => isB n t
theorem cls_tys : ∀ ts : List String, Paired ClsV (ts.map V.ty) (ts.map Value.type)
  | [] => .nil
  | t :: r => .cons (.ty t) (cls_tys r)
theorem Pl.any {K : PySem.W.Frag} {H : Hp} {x : V} {n : String} (h : Pl H x n) : ∀ ts : List String, (∀ t ∈ ts, t ∈ ["int", "bool", "list", "tuple", "dict", "str"]) → PySem.W.kitAny K (.type n) (ts.map Value.type) = some (isBs n ts)
  | [], _ => kitAny_nil
  | t :: r, ht => by
    have e2 := Pl.any (K := K) h r fun z hz => ht z (List.mem_cons_of_mem _ hz)
    unfold isBs at e2 ⊢
    refine kitAny_cons (h.one (K := K) t (ht t List.mem_cons_self)) (fun z => ?_) fun z => ?_
    · rw [e2, List.any_cons, z, Bool.false_or]
    · rw [List.any_cons, z, Bool.true_or]
/-! ### is_integer, is_number, is_listed -/
abbrev sIsLst : Stmt := top 16
def numV : V → Bool
  | .int i => decide (0 ≤ i)
  | _ => false
def intV : V → Bool
  | .int _ => true
  | _ => false
theorem int_kind {H : Hp} {x : V} {n : String} (h : Pl H x n) : (isB n "int" && !isB n "bool") = intV x := by cases h <;> rfl
def spIsInt : Sp := fun vs H Q _ => ∃ (x : V) (n : String), vs = [x] ∧ Pl H x n ∧ Q (.bl (intV x)) H
def spIsNum : Sp := fun vs H Q _ => ∃ (x : V) (n : String), vs = [x] ∧ Pl H x n ∧ Q (.bl (numV x)) H
def lstB (n : String) : Bool := isBs n ["list", "tuple"]
def spIsLst : Sp := fun vs H Q _ => ∃ (x : V) (n : String), vs = [x] ∧ Pl H x n ∧ ∀ H', Evl.Ex H H' → Q (.bl (lstB n)) H'
section
variable {P : Program} {w : World} {K : PySem.W.Frag} {mg : Str → Option Value} {base : Heap}
theorem scIsLst : FnScope ["thing"] ["thing"] (defScope sIsLst) := ⟨rfl, rfl, rfl, by decide +kernel, rfl, by decide +kernel, by decide +kernel⟩
theorem ok_isLst {f : Addr} {fd : FuncData} (F : FnP K "is_listed" sIsLst f fd) (gL : mg "list" = none) (gT : mg "tuple" = none) (gS : mg "isinstance" = none) : FnOk P w K mg base CX0 1 f fd ["thing"] spIsLst := by
  refine F.ok scIsLst (fun vs H Q E h => ?_) (fun cdv A outer s H vs Q E hr h => ?_)
  · obtain ⟨x, n, rfl, _⟩ := h
    rfl
  · obtain ⟨x, n, rfl, hx, k⟩ := h
    refine ⟨_, PSs.nox (pss_one (ps_ret (pe_callB call_isiT rfl gS (by decide +kernel) (pa_cons (pv 0) (pa_cons (pe_tup (pa_cons (pe_bltn (v := .ty "list") rfl gL (by decide +kernel) rfl) (pa_cons (pe_bltn (v := .ty "tuple") rfl gT (by decide +kernel) rfl) pa_nil))) pa_nil))))), ?_⟩
    refine ⟨_, rfl, by show 2 ≤ sizeLine; decide, fun t ht => ?_⟩
    exact ⟨_, _, _, _, _, _, rfl, upd_same, cls_tys ["list", "tuple"], (hx.ext (Evl.Ex.new ht)).ty, hx.any ["list", "tuple"] (by decide), k _ (Evl.Ex.new ht)⟩
end
end K07

namespace K07
open PySem PySem.Spec PyProof.Rows L2 Tr
/-! ### is_name, is_pair, path_between -/
def small : Str := "abcdefghijklmnopqrstuvwxyz"
def figs : Str := "0123456789"
theorem good_len : ∀ z ∈ names12, 1 ≤ z.length ∧ z.length ≤ 12 := by decide +kernel
theorem good_first : ∀ z ∈ names12, ∃ c ∈ small.cps.toList, z.cps[0]? = some c := by decide +kernel
theorem good_all : ∀ z ∈ names12, ∀ c ∈ z.cps.toList, c ∈ small.cps.toList ∨ c ∈ figs.cps.toList := by decide +kernel
abbrev rInSg : R2 := fun x y H Q => ∃ (c : Nat) (z : Str), x = .str ⟨#[c]⟩ ∧ y = .str z ∧ Q (.bl (decide (c ∈ z.cps.toList))) H
abbrev sIsName : Stmt := top 15
def spIsName : Sp := fun vs H Q _ => ∃ z : Str, vs = [.str z] ∧ z ∈ names12 ∧ ∀ H', Evl.Ex H H' → Q (.bl true) H'
section
variable {P : Program} {w : World} {K : PySem.W.Frag} {mg : Str → Option Value} {base : Heap}
theorem scIsName : FnScope ["thing", "sign"] ["thing"] (defScope sIsName) := ⟨rfl, rfl, rfl, by decide +kernel, rfl, by decide +kernel, by decide +kernel⟩
theorem ok_isName {f : Addr} {fd : FuncData} (F : FnP K "is_name" sIsName f fd) (gS : mg "isinstance" = none) (gT : mg "str" = none) (gL : mg "len" = none) (gA : mg "all" = none)
    (gN : ∃ t, mg "LONGEST_NAME" = some (.int 12 t)) (gM : ∃ t, mg "SMALL_LETTERS" = some (.str small t)) (gF : ∃ t, mg "FIGURES" = some (.str figs t)) : FnOk P w K mg base CX0 1 f fd ["thing"] spIsName := by
  obtain ⟨t1, gN⟩ := gN
  obtain ⟨t2, gM⟩ := gM
  obtain ⟨t3, gF⟩ := gF
  refine F.ok scIsName (fun vs H Q E h => ?_) (fun cdv A outer s H vs Q E hr h => ?_)
  · obtain ⟨z, rfl, _⟩ := h
    rfl
  · obtain ⟨z, rfl, hz, k⟩ := h
    obtain ⟨l1, l2⟩ := good_len z hz
    obtain ⟨c0, hc0, hf0⟩ := good_first z hz
    refine' ⟨_, PSs.nox (pss_cons (ps_if (PW.pt (pw_or (pt_not (pt_val (pe_callB call_isi rfl gS (by decide +kernel) (pa_cons (pv 0) (pa_cons (pe_bltn (v := .ty "str") rfl gT (by decide +kernel) rfl) pa_nil)))))
        (pw_or1 (pt_not (pt_chain op_le op_le pe_int (pe_callB call_len_str (by rfl) gL PySem.boot_len (pa_cons (pv 0) pa_nil)) (pe_glob rfl gN (v := .int 12) ⟨_, rfl⟩)))))) pss_never pss_nil)
      (pss_cons (ps_if (pt_cmpR op_notIn_sign (pe_item_str (pv 0) pe_int (fun _ _ => rfl)) (pe_glob rfl gM (v := .str small) ⟨_, rfl⟩) rfl) pss_never pss_nil)
      (pss_one (ps_ret (pe_callB (cr_all rfl) (by rfl) gA (by decide +kernel) (pa_cons ?lc pa_nil)))))), ?rd⟩
    case lc =>
      refine pe_lc (own := [("sign", 1)]) (g := gName 1) (tt := tYes) (te := tOrV (tOp rInSg (tVar 1) (tC (.str small))) (tOp rInSg (tVar 1) (tC (.str figs)))) rfl scIsName.nd (pi_str (pv 0))
        (blkOk_by (own := [("sign", 1)]) (N := ["thing", "sign"]) (sc := defScope sIsName) (by decide +kernel)) (fun _ _ _ _ _ => pg_name (i := 1) scIsName.nd rfl (.inl rfl)) (fun _ _ _ _ _ => pts_nil) ?_
      intro _ _ _ _ _
      exact pe_or (pe_cmpR op_in_sign (pv 1) (pe_glob rfl gM (v := .str small) ⟨_, rfl⟩) rfl) (pe_one (pe_cmpR op_in_sign (pv 1) (pe_glob rfl gF (v := .str figs) ⟨_, rfl⟩) rfl))
    refine ⟨_, rfl, _, _, _, _, _, rfl, .ty _, (Pl.str z : Pl H (.str z) "str").ty, (Pl.str z : Pl H (.str z) "str").one "str", _, rfl, ?_⟩
    refine ite2 (fun q => absurd q (by decide)) (fun _ => ?_)
    refine ⟨_, rfl, z, rfl, Nat.le_trans l2 (by decide), _, _, rfl, rfl, _, rfl, ?_⟩
    have e1 : decide ((1 : Int) ≤ (z.length : Nat)) = true := decide_eq_true (by omega)
    refine ite2 (fun _ => ?_) (fun q => absurd e1 q)
    refine ⟨_, _, rfl, rfl, _, rfl, ?_⟩
    have e2 : decide (((z.length : Nat) : Int) ≤ 12) = true := decide_eq_true (by omega)
    rw [e2]
    refine iteF ?_
    have hlen : (0 : Int) < (z.length : Nat) := by omega
    refine ⟨_, rfl, z, 0, c0, rfl, rfl, Int.le_refl _, by decide, hlen, hf0, c0, small, rfl, rfl, _, rfl, ?_⟩
    rw [decide_eq_true hc0]
    refine iteF ?_
    refine ⟨_, rfl, z, rfl, fun D hD => ?_⟩
    refine lc_it walk_str (fun i H' => Evl.Ex H H' ∧ ∃ bs : List Bool, H' D = some (.lst (bs.map V.bl)) ∧ bs.all id = true ∧ bs.length = i) ⟨Evl.Ex.new hD, [], upd_same, rfl, rfl⟩ (fun _ _ _ _ => trivial) (fun i x H1 H2 hi hp hy => ?_) (fun H1 hp => ?_)
    · obtain ⟨e3, bs, e4, e5, e6⟩ := hp
      obtain ⟨rfl, c, hc, rfl⟩ := hy
      have hm : c ∈ z.cps.toList := List.mem_of_getElem? (by simpa using hc)
      have hsz : bs.length < sizeLine := by
        have : z.cps.size ≤ 12 := l2
        rw [e6]
        exact Nat.lt_of_lt_of_le (show i < 12 by omega) (by decide)
      have fin : ∀ b, b = true → ∃ acc, H2 D = some (.lst acc) ∧ acc.length < sizeLine ∧ Evl.Ex H (upd H2 D (.lst (acc ++ [.bl b]))) ∧ ∃ bs : List Bool, upd H2 D (.lst (acc ++ [.bl b])) D = some (.lst (bs.map V.bl)) ∧ bs.all id = true ∧ bs.length = i + 1 := fun b hb =>
        ⟨_, e4, by rw [List.length_map]; exact hsz, fun a o e => by rw [upd_ne (fun q => by rw [q, hD] at e; cases e)]; exact e3 _ _ e, bs ++ [b], by rw [upd_same, List.map_append]; rfl, by rw [List.all_append, e5, hb]; rfl, by rw [List.length_append, e6]; rfl⟩
      refine ⟨rfl, _, rfl, c, small, rfl, rfl, _, rfl, ite2 (fun _ => fin true rfl) (fun q => ⟨_, rfl, c, figs, rfl, rfl, fin _ ?_⟩)⟩
      rcases good_all z hz c hm with q2 | q2
      · exact absurd (decide_eq_true q2) q
      · exact decide_eq_true q2
    · obtain ⟨e3, bs, e4, e5, e6⟩ := hp
      refine ⟨D, bs, rfl, SqL.of e4, ?_⟩
      rw [e5]
      exact k _ e3
end
end K07

/-! dicts whose keys are texts, told by a list of keys and a function; a dict comprehension over anything that is walked. Law-independent. -/
namespace Dk
open PySem PySem.Spec PyProof.Rows L2
def tab (hs : List Str) (g : Str → V) : List (Key × V) := hs.map fun h => (Sum.inr h, g h)
theorem tab_length (hs : List Str) (g : Str → V) : (tab hs g).length = hs.length := List.length_map _
theorem tab_congr {hs : List Str} {g g' : Str → V} (h : ∀ x ∈ hs, g x = g' x) : tab hs g = tab hs g' := List.map_congr_left fun x hx => by rw [h x hx]
theorem find_tab {x : Str} {g : Str → V} : ∀ (hs : List Str), (tab hs g).find? (fun kv => decide (kv.1 = Sum.inr x)) = if x ∈ hs then some (Sum.inr x, g x) else none
  | [] => by simp [tab]
  | h :: r => by
    have ih := find_tab (x := x) (g := g) r
    unfold tab at ih ⊢
    rw [List.map_cons, List.find?_cons]
    by_cases e : h = x
    · subst e
      simp
    · have e2 : decide ((Sum.inr h : Key) = Sum.inr x) = false := decide_eq_false (fun z => e (Sum.inr.inj z))
      simp only [e2]
      rw [ih]
      have e3 : ¬ x = h := fun z => e z.symm
      simp [e3]
theorem val_tab (hs : List Str) (g : Str → V) (x : Str) : valV (tab hs g) (Sum.inr x) = if x ∈ hs then some (g x) else none := by
  unfold valV
  rw [find_tab]
  split <;> rfl
theorem val_in {hs : List Str} {g : Str → V} {x : Str} (h : x ∈ hs) : valV (tab hs g) (Sum.inr x) = some (g x) := by rw [val_tab, if_pos h]
theorem val_out {hs : List Str} {g : Str → V} {x : Str} (h : x ∉ hs) : valV (tab hs g) (Sum.inr x) = none := by rw [val_tab, if_neg h]
theorem any_tab {hs : List Str} {g : Str → V} {x : Str} : ((tab hs g).any fun kv => decide (kv.1 = Sum.inr x)) = decide (x ∈ hs) := by
  induction hs with
  | nil => rfl
  | cons h r ih =>
    show (decide ((Sum.inr h : Key) = Sum.inr x) || (tab r g).any _) = _
    rw [ih]
    by_cases e : h = x
    · subst e; simp
    · have e3 : ¬ x = h := fun z => e z.symm
      have e2 : decide ((Sum.inr h : Key) = Sum.inr x) = false := decide_eq_false (fun z => e (Sum.inr.inj z))
      rw [e2]
      simp [e3]
theorem put_new {hs : List Str} {g : Str → V} {x : Str} {v : V} (h : x ∉ hs) : putK (tab hs g) (Sum.inr x) v = tab (hs ++ [x]) (fun y => if y = x then v else g y) := by
  unfold putK
  rw [any_tab, if_neg (by simpa using h)]
  unfold tab
  rw [List.map_append]
  congr 1
  · exact List.map_congr_left fun y hy => by
      show (Sum.inr y, g y) = (Sum.inr y, if y = x then v else g y)
      rw [if_neg (fun z : y = x => h (by rw [← z]; exact hy))]
  · simp
theorem put_old {hs : List Str} {g : Str → V} {x : Str} {v : V} (h : x ∈ hs) : putK (tab hs g) (Sum.inr x) v = tab hs (fun y => if y = x then v else g y) := by
  unfold putK
  rw [any_tab, if_pos (by simpa using h)]
  unfold tab
  rw [List.map_map]
  refine List.map_congr_left fun y hy => ?_
  show (if (Sum.inr y : Key) = Sum.inr x then ((Sum.inr y : Key), v) else (Sum.inr y, g y)) = _
  by_cases e : y = x
  · subst e; simp
  · rw [if_neg (fun z => e (Sum.inr.inj z))]
    show (Sum.inr y, g y) = (Sum.inr y, if y = x then v else g y)
    rw [if_neg e]
/-- a dict comprehension over what is walked -/
theorem dc_it {J : It} {n : Nat} {G : Hp → Prop} {Y : Nat → Hp → V → Hp → Prop} (w : Walk J n G Y) {g : TG} {tt : TT} {tk tv : TE} {vs : List Nat} {σ : L2.St} {H1 : Hp} {D : Addr} {Qd : Hp → Prop} (Pv : Nat → Hp → Prop) (h0 : Pv 0 (upd H1 D (.dK []))) (hG : ∀ i H, i ≤ n → Pv i H → G H)
    (hs : ∀ i x H H', i < n → Pv i H → Y i H x H' → g x (wipe σ vs) H' fun σ2 H2 => wipe σ2 vs = wipe σ vs ∧ tt σ2 H2 fun b H3 =>
      if b = true then tk σ2 H3 fun y H4 => tv σ2 H4 fun z H5 => ∃ kvs k, y = kV k ∧ H5 D = some (.dK kvs) ∧ kvs.length < sizeLine ∧ Pv (i + 1) (upd H5 D (.dK (putK kvs k z))) else Pv (i + 1) H3) (hd : ∀ H, Pv n H → Qd H) :
    ∃ W : Nat → Nat → Hp → Prop, (∃ m, W 0 m (upd H1 D (.dK []))) ∧ ∀ i m H, W i m H →
      (J.stop i H ∧ Qd H) ∨ (J.go i H ∧ ∃ Nx : Hp → Prop, (∀ H', Nx H' → ∃ m', m' < m ∧ W (i + 1) m' H') ∧ ∀ x H', J.yld i H x H' → g x (wipe σ vs) H' fun σ2 H2 => wipe σ2 vs = wipe σ vs ∧ tt σ2 H2 fun b H3 =>
        if b = true then tk σ2 H3 fun y H4 => tv σ2 H4 fun z H5 => ∃ kvs k, y = kV k ∧ H5 D = some (.dK kvs) ∧ kvs.length < sizeLine ∧ Nx (upd H5 D (.dK (putK kvs k z))) else Nx H3) := by
  refine ⟨fun i m H => m = n - i ∧ i ≤ n ∧ Pv i H, ⟨n, by simp, Nat.zero_le _, h0⟩, ?_⟩
  rintro i m H ⟨rfl, hi, p⟩
  have q := hG i H hi p
  by_cases hlt : i < n
  · exact .inr ⟨w.goes i H hlt q, Pv (i + 1), fun H' p' => ⟨n - (i + 1), by omega, rfl, hlt, p'⟩, fun x H' y => hs i x H H' hlt p (w.yields i H x H' hlt q y)⟩
  · have e : i = n := by omega
    subst e
    exact .inl ⟨w.stops H q, hd H p⟩
/-- a loop within a comprehension, whatever its turn is -/
theorem out_it {J : It} {n : Nat} {G : Hp → Prop} {Y : Nat → Hp → V → Hp → Prop} (w : Walk J n G Y) {H0 : Hp} {B : (Hp → Prop) → V → Hp → Prop} {Qd : Hp → Prop} (Pv : Nat → Hp → Prop) (h0 : Pv 0 H0) (hG : ∀ i H, i ≤ n → Pv i H → G H)
    (hs : ∀ i x H H', i < n → Pv i H → Y i H x H' → B (Pv (i + 1)) x H') (hd : ∀ H, Pv n H → Qd H) :
    ∃ W : Nat → Nat → Hp → Prop, (∃ m, W 0 m H0) ∧ ∀ i m H, W i m H → (J.stop i H ∧ Qd H) ∨ (J.go i H ∧ ∃ Nx : Hp → Prop, (∀ H', Nx H' → ∃ m', m' < m ∧ W (i + 1) m' H') ∧ ∀ x H', J.yld i H x H' → B Nx x H') := by
  refine ⟨fun i m H => m = n - i ∧ i ≤ n ∧ Pv i H, ⟨n, by simp, Nat.zero_le _, h0⟩, ?_⟩
  rintro i m H ⟨rfl, hi, p⟩
  have q := hG i H hi p
  by_cases hlt : i < n
  · exact .inr ⟨w.goes i H hlt q, Pv (i + 1), fun H' p' => ⟨n - (i + 1), by omega, rfl, hlt, p'⟩, fun x H' y => hs i x H H' hlt p (w.yields i H x H' hlt q y)⟩
  · have e : i = n := by omega
    subst e
    exact .inl ⟨w.stops H q, hd H p⟩
end Dk
namespace L2
open PySem PySem.Spec PyProof.Rows
section
variable {X : Cx}
/-- y = {k: v for ..}, y a plain local name -/
theorem ps_setDc {i : Nat} {y : Str} {py : Pos} {kx vx tg iter : Expr} {ifs : List Expr} {scope : Scope} {own : List (Str × Nat)} {pos spos : Pos} {wi : TI} {g : TG} {tt : TT} {tk tv : TE} (hc : X.calm = true) (hN : X.N.Nodup) (hy : X.N[i]? = some y) (hyl : X.env.scope.names.lookup y = some .local)
    (hsw : swapsWith (.DictComp kx vx [⟨tg, iter, ifs, 0⟩] scope pos) (some (.Name y py)) spos.line X.env = pure true) (hi : PI X tg iter wi) (ok : BlkOk X.N X.env.scope scope own)
    (hg : ∀ (s : Shared) (H : Hp) (C : Addr) (cl : List (Str × Addr)) (fp : List Addr), PG (X.blk s H scope (compEnvC scope cl C X.env) fp) tg g) (ht : ∀ (s : Shared) (H : Hp) (C : Addr) (cl : List (Str × Addr)) (fp : List Addr), PTs (X.blk s H scope (compEnvC scope cl C X.env) fp) ifs tt)
    (hk : ∀ (s : Shared) (H : Hp) (C : Addr) (cl : List (Str × Addr)) (fp : List Addr), PE (X.blk s H scope (compEnvC scope cl C X.env) fp) kx tk)
    (he : ∀ (s : Shared) (H : Hp) (C : Addr) (cl : List (Str × Addr)) (fp : List Addr), PE (X.blk s H scope (compEnvC scope cl C X.env) fp) vx tv) (hs : ∀ x, foldedSetIterable iter X.env x = pure x := by intro _; rfl) :
    PS X (.Assign [.Name y py] (.DictComp kx vx [⟨tg, iter, ifs, 0⟩] scope pos) spos) (tAsg (tDc wi g tt tk tv (own.map (·.2))) (gName i)) := by
  refine ⟨fun pins s σ H D I h => ?_⟩
  rw [exec_Assign_Name_used _ _ _ _ hsw]
  refine wpAny_bind (wpAny_standAt (wpAny_bind ?_))
  have h : tDc wi g tt tk tv (own.map (·.2)) σ H (fun x H1 => gName i x σ H1 D.nx) := h
  show wpAny _ X.A (do let _ ← comprehension (.DictComp kx vx [⟨tg, iter, ifs, 0⟩] scope pos) scope X.env (firstIterPos [⟨tg, iter, ifs, 0⟩] pos) newDict false (eval iter X.env) (some (assign (.Name y py) X.env))) _ _ s
  refine wpAny_bind (thn (dc_core (Qf := fun _ s' => SP X pins D .next s') hc hN I hi ok hg ht hk he hs h fun L C s' m H1 J1 q hn fr => ?_) fun _ s' z => wpAny_pure (wpAny_pure z))
  refine wpAny_assign_Name (store_ok2 (v := V.ref L) J1 hN hy (.inl hyl) rfl (fun s2 J2 ⟨b, sb, hb⟩ => ?_) (.inr hyl))
  obtain ⟨k0, k1, k2, k3, k4, k5⟩ := fr
  have nC : C ≠ b := by
    rcases hb with z | z
    · rw [z]
      exact k1
    · intro e
      exact k4 y b z e.symm
  refine ⟨m, hn.sameBut sb nC, fun h3 s3 => ⟨_, H1, J2.turned (t' := s2.toks) (fun x o hx e => (s3.2 x hx).trans e) k0 k1 k3 k4 k5, q⟩⟩
theorem sw_trueD {kx vx : Expr} {gs : List Comprehension} {scope : Scope} {pos py : Pos} {y : Str} {l : Nat} {env : Env} (hk : env.scope.kind = .function) (hy : env.scope.names.lookup y = some .local) (hl : (py.line == pos.line) = true)
    (ha : (scope.names.any fun (n, k) => n == y && (k == .local || k == .cell)) = false) : swapsWith (.DictComp kx vx gs scope pos) (some (.Name y py)) l env = pure true := by
  have ky : env.kindOf y = some .local := hy
  have hb : env.blockKind = .function := by unfold Env.blockKind; rw [hk]; rfl
  unfold swapsWith
  simp only [hb, ky, ha, Expr.pos, hl]
  rfl
end
end L2

/-! sorted(..) of pairs of texts, any number of them; law-independent. -/
namespace Srs
open PySem PySem.Spec PyProof.Rows L2 SrtO
/-- one text before another -/
def ltT (x y : Str) : Bool := decide (x.cps.toList < y.cps.toList)
theorem str_ext {x y : Str} (h : x.cps.toList = y.cps.toList) : x = y := by
  obtain ⟨a⟩ := x
  obtain ⟨b⟩ := y
  exact congrArg PySem.Str.mk (Array.toList_inj.mp h)
theorem ltT_irr (x : Str) : ltT x x = false := decide_eq_false (List.lt_irrefl _)
theorem ltT_asym {x y : Str} (h : ltT x y = true) : ltT y x = false := decide_eq_false (List.lt_asymm (of_decide_eq_true h))
theorem ltT_tr {x y z : Str} (h : ltT x y = true) (k : ltT y z = true) : ltT x z = true := decide_eq_true (List.lt_trans (of_decide_eq_true h) (of_decide_eq_true k))
theorem ltT_tot {x y : Str} (h : ltT x y = false) (k : ltT y x = false) : x = y := by
  refine str_ext ?_
  have a : y.cps.toList ≤ x.cps.toList := List.not_lt.mp (of_decide_eq_false h)
  have b : x.cps.toList ≤ y.cps.toList := List.not_lt.mp (of_decide_eq_false k)
  exact List.le_antisymm b a
def lexT (p q : Str × Str) : Bool := if p.1 = q.1 then ltT p.2 q.2 else ltT p.1 q.1
theorem lexT_asym {p q : Str × Str} (h : lexT p q = true) : lexT q p = false := by
  unfold lexT at h ⊢
  by_cases e : p.1 = q.1
  · rw [if_pos e] at h
    rw [if_pos e.symm]
    exact ltT_asym h
  · rw [if_neg e] at h
    rw [if_neg (Ne.symm e)]
    exact ltT_asym h
theorem lexT_irr (p : Str × Str) : lexT p p = false := by
  unfold lexT
  rw [if_pos rfl]
  exact ltT_irr _
theorem lexT_tr {p q r : Str × Str} (h : lexT p q = true) (k : lexT q r = true) : lexT p r = true := by
  unfold lexT at h k ⊢
  by_cases e : p.1 = q.1 <;> by_cases e2 : q.1 = r.1
  · rw [if_pos e] at h; rw [if_pos e2] at k; rw [if_pos (e.trans e2)]; exact ltT_tr h k
  · rw [if_neg e2] at k; rw [if_neg (by rw [e]; exact e2), e]; exact k
  · rw [if_neg e] at h; rw [if_neg (by rw [← e2]; exact e), ← e2]; exact h
  · rw [if_neg e] at h; rw [if_neg e2] at k
    have := ltT_tr h k
    rw [if_neg (fun z => by rw [z, ltT_irr] at this; cases this)]
    exact this
theorem lexT_tot {p q : Str × Str} (h : lexT p q = false) (k : lexT q p = false) : p = q := by
  unfold lexT at h k
  by_cases e : p.1 = q.1
  · rw [if_pos e] at h; rw [if_pos e.symm] at k
    exact Prod.ext e (ltT_tot h k)
  · rw [if_neg e] at h; rw [if_neg (Ne.symm e)] at k
    exact absurd (ltT_tot h k) e
theorem swoT : Swo lexT := by
  refine ⟨fun x y h => lexT_asym h, fun x y z h1 h2 => ?_⟩
  cases h : lexT z x with
  | false => rfl
  | true =>
    exfalso
    cases h3 : lexT x y with
    | true =>
      have := lexT_tr h h3
      rw [this] at h2
      cases h2
    | false =>
      have := lexT_tot h3 h1
      subst this
      rw [h] at h2
      cases h2
theorem swo_k {α : Type} (k : α → Str × Str) : Swo fun v u => lexT (k v) (k u) := ⟨fun x y h => swoT.asym _ _ h, fun x y z h1 h2 => swoT.tr _ _ _ h1 h2⟩
def IsPr (h : Heap) (v : Value) (x y : Str) : Prop := ∃ a o t u n, v = .ref a ∧ h.get? a = some o ∧ o.cls = .type "tuple" ∧ o.data = .seq #[.str x t, .str y u] n
theorem IsPr.keeps {h h' : Heap} {v : Value} {x y : Str} (p : IsPr h v x y) (k : ∀ b o, h.get? b = some o → o.cls = .type "tuple" → h'.get? b = some o) : IsPr h' v x y := by
  obtain ⟨a, o, t, u, n, e, ho, hc, hd⟩ := p
  exact ⟨a, o, t, u, n, e, k _ _ ho hc, hc, hd⟩
theorem firsts {h : Heap} : ∀ {vs : List Value}, (∀ v ∈ vs, ∃ x y, IsPr h v x y) → ∃ fs : List Value, PySem.W.KatTups h vs fs ∧ fs.length = vs.length ∧ ∀ f ∈ fs, ∃ x t, f = Value.str x t
  | [], _ => ⟨[], PySem.W.KatTups.nil, rfl, fun _ hm => by simp at hm⟩
  | v :: vs, hp => by
    obtain ⟨fs, h1, h2, h3⟩ := firsts (vs := vs) fun v' hm => hp v' (List.mem_cons_of_mem _ hm)
    obtain ⟨x, y, a, o, t, u, n, e, ho, hc, hd⟩ := hp v (List.mem_cons_self ..)
    subst e
    refine ⟨.str x t :: fs, PySem.W.KatTups.cons ho hc hd rfl h1, by rw [List.length_cons, List.length_cons, h2], fun f hm => ?_⟩
    rcases List.mem_cons.mp hm with rfl | hm
    · exact ⟨x, t, rfl⟩
    · exact h3 f hm
section
variable {prog : Program} {w : World} {A : Around} {E : Value → Shared → Prop} {s : Shared}
theorem pr_cmp {vs : List Value} {k : Value → Str × Str} (hp : ∀ v ∈ vs, IsPr s.heap v (k v).1 (k v).2) : Cmp prog w A s (tuples' true) (fun p => p.1 ∈ vs) (lt2 fun v u => lexT (k v) (k u)) := by
  intro p q hm hm'
  have h1 := hp _ hm
  have h2 := hp _ hm'
  show wpAny (model prog w) A (keyLt' (tuples' true) p.1 q.1) (fun r s' => s' = s ∧ r = lexT (k p.1) (k q.1)) (fun _ _ => False) s
  unfold lexT
  generalize (k p.1).1 = x at h1 ⊢
  generalize (k p.1).2 = y at h1 ⊢
  generalize (k q.1).1 = x' at h2 ⊢
  generalize (k q.1).2 = y' at h2 ⊢
  obtain ⟨a, o, t, u, n, e, ho, hc, hd⟩ := h1
  obtain ⟨a', o', t', u', n', e', ho', hc', hd'⟩ := h2
  rw [e, e']
  refine PySem.W.kat_lt ho hd ho' hd' ?_
  show PySem.W.KatLex prog w A true (decide (2 < 2)) _ [(.str x t, .str x' t'), (.str y u, .str y' u')] 0 s
  refine PySem.W.kat_cons (wpAny_eqBool_str ?_)
  refine PySem.W.kat_go (fun e1 => ?_) (fun e1 => ?_)
  · have ex : x = x' := by simpa using e1
    refine PySem.W.kat_yes (PySem.W.kat_cons (wpAny_eqBool_str ?_))
    refine PySem.W.kat_go (fun e2 => ?_) (fun e2 => ?_)
    · have ey : y = y' := by simpa using e2
      have e3 : (if x = x' then ltT y y' else ltT x x') = false := by
        rw [if_pos ex, ey]
        exact ltT_irr _
      exact PySem.W.kat_yes (PySem.W.kat_nil ⟨rfl, e3.symm⟩)
    · have e3 : (if x = x' then ltT y y' else ltT x x') = ltT y y' := if_pos ex
      refine PySem.W.kat_no (PySem.W.kat_one _ _ (PyProof.Rows.lt_str ?_))
      exact (show s = s ∧ decide (y.cps.toList < y'.cps.toList) = (if x = x' then ltT y y' else ltT x x') from ⟨rfl, e3.symm⟩)
  · have ex : ¬ x = x' := by simpa using e1
    have e3 : (if x = x' then ltT y y' else ltT x x') = ltT x x' := if_neg ex
    exact PySem.W.kat_no (oneLt_str ⟨rfl, e3.symm⟩)
theorem prs_sortable {a : Addr} {vs : List Value} {k : Value → Str × Str} (h0 : 0 < vs.length) (hp : ∀ v ∈ vs, IsPr s.heap v (k v).1 (k v).2) (ha : ∀ o, s.heap.get? a = some o → o.cls ≠ .type "tuple") : SortableO prog w A s a vs fun v u => lexT (k v) (k u) := by
  intro h' keep
  have hp' : ∀ v ∈ vs, IsPr h' v (k v).1 (k v).2 := fun v hm => (hp v hm).keeps fun b o e c => keep b o (fun z => by subst z; exact ha o e c) e
  obtain ⟨fs, h1, h2, h3⟩ := firsts fun v hm => ⟨_, _, hp' v hm⟩
  refine ⟨tuples' true, fun Q E hq => ?_, pr_cmp hp'⟩
  refine PySem.W.kat_kind (T := .type "str") h1 (by omega) (fun f hm => ?_) (by rfl) ?_
  · obtain ⟨x, t, rfl⟩ := h3 f hm
    exact PySem.W.Looks.now
  · have e : (Value.type "str" != Value.type "tuple") = true := by first | decide +kernel | rfl | decide
    rw [e]
    exact hq
theorem sorted_prs {l : Addr} {vs : List Value} {k : Value → Str × Str} {Q : Value → Shared → Prop} (hl : s.heap.IsList l vs.toArray) (hz : vs.length ≤ sizeLine) (hp : ∀ v ∈ vs, IsPr s.heap v (k v).1 (k v).2)
    (h : ∀ (h' : Heap) (d : Addr) (out : List Value), Srtd (fun v u => lexT (k v) (k u)) out → Stb (fun v u => lexT (k v) (k u)) out vs → (∀ b o, s.heap.get? b = some o → h'.get? b = some o) → s.heap.objs.size ≤ d → (∃ n, h'.get? d = some (seqObj "list" out.toArray n)) → Q (.ref d) { s with heap := h' }) :
    wpAny (model prog w) A (call (.builtin "sorted") [.ref l]) Q E s := by
  refine sorted_ord (swo_k k) hl hz (fun h2 h₁ a ha kk => ?_) fun out hs hb => ?_
  · refine prs_sortable (s := { s with heap := h₁ }) (by omega) (fun v hm => (hp v hm).keeps fun b o e _ => (kk b o e).2) fun o e => ?_
    have e' : some o = some (seqObj "list" vs.toArray 0) := e.symm.trans ha
    cases e'
    intro c
    exact absurd (Value.type.inj c) (by decide)
  · exact h _ _ out hs hb (fun b o e => sortedAll_old e) (Nat.le_succ _) (sortedAll_at s.heap vs out.toArray)
end
/-- sorted(xs), xs a list of pairs of texts (k says which): a new list of the same, ascending -/
def rSortedPT (K : PySem.W.Frag) : List V → Hp → VK → Prop := fun vs H Q => ∃ (a : Addr) (xs : List V) (k : V → Str × Str), vs = [V.ref a] ∧ SqL K H a xs ∧ (∀ x ∈ xs, ∃ t, x = V.ref t ∧ H t = some (.tup [.str (k x).1, .str (k x).2])) ∧
  ∀ ys p, ys.Perm xs → Srtd (fun x y => lexT (k x) (k y)) ys → H p = none → Q (.ref p) (upd H p (.lst ys))
variable {X : Cx}
theorem cr_sortedPT : CallR X (.builtin "sorted") (rSortedPT X.K) := by
  intro pins s σ H vs us Q I r h
  obtain ⟨a, xs, k, rfl, hs, hx, q⟩ := h
  obtain ⟨its, rv, hl, hz⟩ := I.list hs
  obtain ⟨u, rfl, ru⟩ := vals1 r
  obtain rfl : u = Value.ref a := ru
  obtain ⟨e1, e2⟩ := refs_back rv fun x m => by
    obtain ⟨t, e, _⟩ := hx x m
    exact ⟨t, e⟩
  refine sorted_prs (k := fun u => k (backV u)) hl.isList (by rw [← rv.length]; exact hz) (fun v hv => ?_) fun h' d out h1 h2 kp hd hn => ?_
  · obtain ⟨t, rfl⟩ := e2 v hv
    have hm : V.ref t ∈ xs := by rw [e1]; exact List.mem_map.mpr ⟨_, hv, rfl⟩
    obtain ⟨t', e, ht⟩ := hx _ hm
    cases e
    obtain ⟨_, its2, r2, o, ho, hc, n, hd⟩ := I.hok _ _ ht
    obtain ⟨u1, u2, rfl, ri, rj⟩ := vals2 r2
    obtain ⟨t1, rfl⟩ := ri
    obtain ⟨t2, rfl⟩ := rj
    exact ⟨t, o, t1, t2, n, rfl, ho, hc, hd⟩
  · have h3 : ∀ u ∈ out, ∃ a, u = Value.ref a := fun u hu => e2 u (h2.perm.mem_iff.mp hu)
    obtain ⟨n, hn⟩ := hn
    have hb : Stb (fun x y => lexT (k x) (k y)) (out.map backV) xs := by
      rw [e1]
      exact Stb.map (swo_k k) backV h2
    refine ⟨.ref d, upd H d (.lst (out.map backV)), I.laid (t' := s.toks) kp hd ⟨?_, out, n, vals_back h3, hn⟩, rfl, q _ d hb.perm (srtd_map h1) (I.hok.fresh hd)⟩
    rw [hb.len]
    exact hz
end Srs

namespace K07
open PySem PySem.Spec PyProof.Rows L2 Tr Sq Dk
/-! ### check_houses, is_pair, path_between, joined_groups (of what is right) -/
abbrev sCheck : Stmt := top 21
def spCheck : Sp := fun vs H Q _ => ∃ (l : Addr) (hs : List Str), vs = [.ref l] ∧ H l = some (.lst (hs.map V.str)) ∧ hs ≠ [] ∧ hs.Nodup ∧ hs.length ≤ 1000 ∧ (∀ h ∈ hs, h ∈ names12) ∧ ∀ H', Evl.Ex H H' → Q .non H'
abbrev sIsPair : Stmt := top 17
def spIsPair : Sp := fun vs H Q _ => ∃ (t : Addr) (x y : V), vs = [.ref t] ∧ H t = some (.tup [x, y]) ∧ ∀ H', Evl.Ex H H' → Q (.bl true) H'
abbrev sBetween : Stmt := top 25
def ordP (q : Str × Str) : Str × Str := if Srs.ltT q.1 q.2 then q else (q.2, q.1)
def spBetween : Sp := fun vs H Q _ => ∃ (a b : Str), vs = [.str a, .str b] ∧ ∀ t, H t = none → Q (.ref t) (upd H t (.tup [.str (ordP (a, b)).1, .str (ordP (a, b)).2]))
abbrev sJoined : Stmt := top 23
def spJoined : Sp := fun vs H Q _ => ∃ (d : Addr) (a b : Str) (hs : List Str) (g : Str → Str), vs = [.ref d, .str a, .str b] ∧ H d = some (.dK (tab hs fun x => .str (g x))) ∧ hs.Nodup ∧ hs.length ≤ 1000 ∧
  ∀ (D : Addr) (H' : Hp), H D = none → Evl.Ex H H' → H' D = some (.dK (tab hs fun x => .str (if g x = b then a else g x))) → Q (.ref D) H'
theorem ex_upd {H H' : Hp} {a : Addr} {o : HO} (e : Evl.Ex H H') (h : H a = none) : Evl.Ex H (upd H' a o) := fun b u q => by rw [upd_ne (ne_of_none q h)]; exact e _ _ q
section
variable {P : Program} {w : World} {K : PySem.W.Frag} {mg : Str → Option Value} {base : Heap}
theorem scCheck : FnScope ["houses", "seen", "index", "house"] ["houses"] (defScope sCheck) := ⟨rfl, rfl, rfl, by decide +kernel, rfl, by decide +kernel, by decide +kernel⟩
theorem ok_check {f fN fL : Addr} {fd fdN fdL : FuncData} (F : FnP K "check_houses" sCheck f fd) (GN : FnOk P w K mg base CX0 1 fN fdN ["thing"] spIsName) (bN : L2.Binds K fdN ["thing"] []) (kN : PySem.W.keepIn K (.ref fN) = true) (gN : mg "is_name" = some (.ref fN))
    (GL : FnOk P w K mg base CX0 1 fL fdL ["thing"] spIsLst) (bL : L2.Binds K fdL ["thing"] []) (kL : PySem.W.keepIn K (.ref fL) = true) (gLs : mg "is_listed" = some (.ref fL)) (gLe : mg "len" = none) (gE : mg "enumerate" = none) : FnOk P w K mg base CX0 2 f fd ["houses"] spCheck := by
  refine F.ok scCheck (fun vs H Q E h => ?_) (fun cdv A outer s H vs Q E hr h => ?_)
  · obtain ⟨l, hs, rfl, _⟩ := h
    rfl
  · obtain ⟨l, hs, rfl, hl, hne, hnd, h1k, hgood, k⟩ := h
    refine ⟨_, PSs.nox (pss_cons (ps_if (PW.pt (pw_or (pt_not (pt_val (pe_call GL hr rfl gLs kL bL .nil pass0 (pa_cons (pv 0) pa_nil)))) (pw_or1 (pt_cmpR op_eq (pe_callB call_len_seq (by rfl) gLe PySem.boot_len (pa_cons (pv 0) pa_nil)) pe_int (nomark _))))) pss_never pss_nil)
      (pss_cons (ps_set (i := 1) scCheck.nd rfl (.inl rfl) pe_dnewK)
      (pss_one (ps_for PassesOwn.never rfl (pi_enumA rfl gE (pa_cons (pv 0) pa_nil)) (pg_tup rfl (pgs_cons (pg_name (i := 2) scCheck.nd rfl (.inl rfl)) (pgs_cons (pg_name (i := 3) scCheck.nd rfl (.inl rfl)) pgs_nil)))
        (pss_cons (ps_if (PW.pt (pw_or (pt_not (pt_val (pe_call GN hr rfl gN kN bN .nil pass0 (pa_cons (pv 3) pa_nil)))) (pw_or1 (pt_cmp (pc_din (hu_of hr) (pv 3) (pv 1)) rfl)))) pss_never pss_nil)
        (pss_one (ps_dput (hu_of hr) (pv 1) (pv 3) pe_bl rfl))))))), ?_⟩
    have hl1 : 1 ≤ hs.length := List.length_pos_iff.mpr hne
    refine ⟨_, rfl, _, "list", rfl, .lst hl, fun H1 x1 => ⟨_, rfl, ?_⟩⟩
    refine ite2 (fun q => absurd q (by decide)) (fun _ => ?_)
    refine ⟨_, rfl, l, _, rfl, .inl (SqL.of (x1 _ _ hl)), rfl, _, rfl, ?_⟩
    refine ite2 (fun q => absurd q ?_) (fun _ => ?_)
    · simp [hne]
    · refine fun d hd => ⟨_, rfl, false, l, hs.map V.str, rfl, ?_, ?_⟩
      · exact SqL.of (x1.trans (Evl.Ex.new hd) _ _ hl)
      · refine for_it (walk_enumA (t := false) (xs := hs.map V.str)) (fun i σ H' => ∃ v2 v3, σ = [some (.ref l), some (.ref d), v2, v3] ∧ Evl.Ex H H' ∧ H' d = some (.dK (tab (hs.take i) fun _ => .bl true))) ?_ ?_ ?_ ?_
        · exact ⟨none, none, rfl, x1.trans (Evl.Ex.new hd), upd_same⟩
        · rintro i σ H' _ ⟨v2, v3, rfl, x2, e2⟩
          exact SqL.of (x2 _ _ hl)
        · rintro i y σ H' _ hi ⟨v2, v3, rfl, x2, e2⟩ ⟨T, u, z, rfl, hT, rfl, hu, hz⟩
          injection hu with hu
          subst hu
          rw [List.length_map] at hi
          obtain ⟨h, hh⟩ := getD_of hi
          have hz : (hs.map V.str)[i]? = some z := hz
          rw [List.getElem?_map, hh] at hz
          injection hz with hz
          subst hz
          have hm : h ∈ hs := List.mem_of_getElem? hh
          have hdT : d ≠ T := ne_of_none e2 hT
          refine ⟨T, _, rfl, SqT.of upd_same, rfl, _, _, rfl, _, _, rfl, rfl, _, rfl, h, rfl, hgood h hm, fun H3 x3 => ⟨_, rfl, ?_⟩⟩
          have e3 : H3 d = some (.dK (tab (hs.take i) fun _ => .bl true)) := x3 _ _ (by rw [upd_ne hdT]; exact e2)
          have hni : h ∉ hs.take i := fun z => by
            obtain ⟨j, hj⟩ := List.mem_iff_getElem?.mp z
            have lt : j < i := by
              have := (List.getElem?_eq_some_iff.mp hj).1
              rw [List.length_take] at this
              omega
            rw [List.getElem?_take_of_lt lt] at hj
            have := (List.getElem?_inj (by omega) hnd).mp (hj.trans hh.symm)
            omega
          refine ite2 (fun q => absurd q (by decide)) (fun _ => ⟨_, rfl, _, rfl, d, _, rfl, DGet.k (k := Sum.inr h) e3, _, rfl, ?_⟩)
          rw [val_out hni]
          refine iteF ?_
          refine ⟨_, rfl, _, rfl, d, _, rfl, DPut.k (k := Sum.inr h) e3 ?_, ?_⟩
          · rw [tab_length, List.length_take]
            exact Nat.lt_of_le_of_lt (show min i hs.length ≤ 1000 by omega) (by decide)
          · refine ⟨_, _, rfl, ?_, ?_⟩
            · exact ex_upd ((x2.trans (Evl.Ex.new hT)).trans x3) (by
                cases q : H d with
                | none => rfl
                | some o =>
                  rw [x1 _ _ q] at hd
                  cases hd)
            · rw [upd_same, put_new hni, List.take_add_one, hh]
              congr 2
              exact tab_congr fun x _ => by split <;> rfl
        · rintro σ H' ⟨v2, v3, rfl, x2, e2⟩
          exact k _ x2
theorem scIsPair : FnScope ["thing"] ["thing"] (defScope sIsPair) := ⟨rfl, rfl, rfl, by decide +kernel, rfl, by decide +kernel, by decide +kernel⟩
theorem ok_isPair {f fL : Addr} {fd fdL : FuncData} (F : FnP K "is_pair" sIsPair f fd) (GL : FnOk P w K mg base CX0 1 fL fdL ["thing"] spIsLst) (bL : L2.Binds K fdL ["thing"] []) (kL : PySem.W.keepIn K (.ref fL) = true) (gLs : mg "is_listed" = some (.ref fL)) (gLe : mg "len" = none) :
    FnOk P w K mg base CX0 2 f fd ["thing"] spIsPair := by
  refine F.ok scIsPair (fun vs H Q E h => ?_) (fun cdv A outer s H vs Q E hr h => ?_)
  · obtain ⟨t, x, y, rfl, _⟩ := h
    rfl
  · obtain ⟨t, x, y, rfl, ht, k⟩ := h
    refine ⟨_, PSs.nox (pss_one (ps_ret (pe_and (pe_call GL hr rfl gLs kL bL .nil pass0 (pa_cons (pv 0) pa_nil)) (pe_one (pe_cmpR op_eq (pe_callB call_len_seq (by rfl) gLe PySem.boot_len (pa_cons (pv 0) pa_nil)) pe_int (nomark _)))))), ?_⟩
    exact ⟨_, rfl, _, "tuple", rfl, .tup ht, fun H1 x1 => ⟨_, rfl, iteT ⟨_, rfl, t, _, rfl, .inr (SqT.of (x1 _ _ ht)), rfl, k _ x1⟩⟩⟩
theorem scBetween : FnScope ["one", "other"] ["one", "other"] (defScope sBetween) := ⟨rfl, rfl, rfl, by decide +kernel, rfl, by decide +kernel, by decide +kernel⟩
theorem ok_between {f : Addr} {fd : FuncData} (F : FnP K "path_between" sBetween f fd) : FnOk P w K mg base CX0 1 f fd ["one", "other"] spBetween := by
  refine F.ok scBetween (fun vs H Q E h => ?_) (fun cdv A outer s H vs Q E hr h => ?_)
  · obtain ⟨a, b, rfl, _⟩ := h
    rfl
  · obtain ⟨a, b, rfl, k⟩ := h
    refine ⟨_, PSs.nox (pss_one (ps_ret (pe_ifExp (pt_cmpR op_lt_str (pv 0) (pv 1) (nomark _)) (pe_tup (pa_cons (pv 0) (pa_cons (pv 1) pa_nil))) (pe_tup (pa_cons (pv 1) (pa_cons (pv 0) pa_nil)))))), ?_⟩
    refine ⟨_, rfl, _, rfl, _, _, rfl, rfl, _, rfl, ?_⟩
    have e : decide (a.cps.toList < b.cps.toList) = Srs.ltT a b := rfl
    rw [e]
    cases hb : Srs.ltT a b with
    | true =>
      refine iteT ⟨_, rfl, _, rfl, by show 2 ≤ sizeLine; decide, fun t ht => ?_⟩
      have := k t ht
      unfold ordP at this
      rw [hb] at this
      exact this
    | false =>
      refine iteF ⟨_, rfl, _, rfl, by show 2 ≤ sizeLine; decide, fun t ht => ?_⟩
      have := k t ht
      unfold ordP at this
      rw [hb] at this
      exact this
theorem scJoined : FnScope ["group", "one", "other", "house"] ["group", "one", "other"] (defScope sJoined) := ⟨rfl, rfl, rfl, by decide +kernel, rfl, by decide +kernel, by decide +kernel⟩
theorem ok_joined {f : Addr} {fd : FuncData} (F : FnP K "joined_groups" sJoined f fd) : FnOk P w K mg base CX0 1 f fd ["group", "one", "other"] spJoined := by
  refine F.ok scJoined (fun vs H Q E h => ?_) (fun cdv A outer s H vs Q E hr h => ?_)
  · obtain ⟨d, a, b, hs, g, rfl, _⟩ := h
    rfl
  · obtain ⟨d, a, b, hs, g, rfl, hd, hnd, h1k, k⟩ := h
    refine' ⟨_, PSs.nox (pss_one (ps_ret (pe_lock ?dc))), ?rd⟩
    case dc =>
      refine pe_dc (own := [("house", 3)]) (g := gName 3) (tt := tYes) (tk := tVar 3) (tv := tIf (tTest (tOp rEq (tDGet (tVar 0) (tVar 3)) (tVar 2))) (tVar 1) (tDGet (tVar 0) (tVar 3))) rfl scJoined.nd (pi_keys (pv 0))
        (blkOk_by (own := [("house", 3)]) (N := ["group", "one", "other", "house"]) (sc := defScope sJoined) (by decide +kernel)) (fun _ _ _ _ _ => pg_name (i := 3) scJoined.nd rfl (.inl rfl)) (fun _ _ _ _ _ => pts_nil) (fun _ _ _ _ _ => pv 3) ?_
      intro _ _ _ _ _
      exact pe_ifExp (pt_cmpR op_eq (pe_dget (hu_of hr) (pv 0) (pv 3) (fun _ _ => rfl)) (pv 2) (nomark _)) (pv 1) (pe_dget (hu_of hr) (pv 0) (pv 3) (fun _ _ => rfl))
    have hK : ∀ {H1 : Hp}, True := fun {_} => trivial
    refine ⟨d, _, hd, ?mu, fun od => ?_⟩
    case mu => trivial
    refine ⟨_, rfl, d, od, rfl, .inl ⟨_, upd_same, fun D hD => ?_⟩⟩
    have hdD : d ≠ D := ne_of_none upd_same hD
    have hDH : H D = none := by rw [upd_ne hdD.symm] at hD; exact hD
    refine dc_it walk_keys (fun i H' => (∀ z o, H z = some o → z ≠ d → H' z = some o) ∧ H' d = some (.frz od (.dK (tab hs fun x => .str (g x)))) ∧ H' D = some (.dK (tab (hs.take i) fun x => .str (if g x = b then a else g x)))) ?_ ?_ ?_ ?_
    · exact ⟨fun z o e hz => by rw [upd_ne (ne_of_none e hDH), upd_ne hz]; exact e, by rw [upd_ne hdD]; exact upd_same, upd_same⟩
    · intro i H1 _ hp
      exact hp.2.1
    · rintro i y H1 H2 hi ⟨e1, e2, e3⟩ ⟨rfl, k', v', hk, rfl⟩
      rw [tab_length] at hi
      obtain ⟨h, hh⟩ := getD_of hi
      have hm : h ∈ hs := List.mem_of_getElem? hh
      unfold tab at hk
      rw [List.getElem?_map, hh] at hk
      cases hk
      have e4 : DGet _ d (kV (Sum.inr h)) (valV (tab hs fun x => .str (g x)) (Sum.inr h)) := .inl ⟨_, _, .inr ⟨_, e2⟩, rfl, rfl⟩
      rw [val_in hm] at e4
      have hni : h ∉ hs.take i := fun z => by
        obtain ⟨j, hj⟩ := List.mem_iff_getElem?.mp z
        have lt : j < i := by
          have := (List.getElem?_eq_some_iff.mp hj).1
          rw [List.length_take] at this
          omega
        rw [List.getElem?_take_of_lt lt] at hj
        have := (List.getElem?_inj (by omega) hnd).mp (hj.trans hh.symm)
        omega
      have fin : ∀ v, v = (if g h = b then a else g h) → ∃ kvs k, kV (Sum.inr h) = kV k ∧ H2 D = some (.dK kvs) ∧ kvs.length < sizeLine ∧ ((∀ z o, H z = some o → z ≠ d → upd H2 D (.dK (putK kvs k (.str v))) z = some o) ∧ upd H2 D (.dK (putK kvs k (.str v))) d = some (.frz od (.dK (tab hs fun x => .str (g x)))) ∧ upd H2 D (.dK (putK kvs k (.str v))) D = some (.dK (tab (hs.take (i + 1)) fun x => .str (if g x = b then a else g x)))) := fun v hv => by
        refine ⟨_, Sum.inr h, rfl, e3, ?_, fun z o e hz => ?_, ?_, ?_⟩
        · rw [tab_length, List.length_take]
          exact Nat.lt_of_le_of_lt (show min i hs.length ≤ 1000 by omega) (by decide)
        · rw [upd_ne (ne_of_none e hDH)]
          exact e1 z o e hz
        · rw [upd_ne hdD]
          exact e2
        · rw [upd_same, put_new hni, List.take_add_one, hh]
          congr 2
          exact tab_congr fun x _ => by split <;> simp_all
      refine ⟨rfl, ?_⟩
      refine ⟨_, rfl, _, rfl, _, rfl, d, _, rfl, e4, _, rfl, ?_⟩
      refine ⟨rfl, _, rfl, ite2 (fun q => ⟨_, rfl, fin a ?_⟩) (fun q => ⟨_, rfl, _, rfl, d, _, rfl, e4, fin (g h) ?_⟩)⟩
      · have : g h = b := by simpa using q
        rw [if_pos this]
      · have : ¬ g h = b := by simpa using q
        rw [if_neg this]
    · rintro H1 ⟨e1, e2, e3⟩
      rw [tab_length, List.take_length] at e3
      refine ⟨e2, k D _ hDH (fun z o e => ?_) ?_⟩
      · by_cases hz : z = d
        · rw [hz, upd_same, ← hd, ← hz]
          exact e
        · rw [upd_ne hz]
          exact e1 z o e hz
      · rw [upd_ne hdD.symm]
        exact e3
end
end K07

/-! Going outward from a root, level by level; going on row by row. Law-independent, no machine. -/
namespace Tr
open PySem
abbrev Lv := List (Str × Option Str)
/-- the next level -/
def nxt (ps : Prs) (A : Lv) : Lv := A.flatMap fun q => ((nearL ps q.1).filter fun y => decide (some y ≠ q.2)).map fun y => (y, some q.1)
structure Lev (hs : List Str) (r : Str) (f : Str → Option Str) (i : Nat) (A : Lv) : Prop where
  ok : ∀ q ∈ A, q.1 ∈ hs ∧ q.2 = f q.1 ∧ ∃ l, Pth f r q.1 l ∧ l.length = i + 1
  nd : (A.map (·.1)).Nodup
theorem nxt_mem {hs : List Str} {ps : Prs} {r : Str} {f : Str → Option Str} {i : Nat} {A : Lv} (T : Tree hs ps) (R : Rt hs ps r f) (L : Lev hs r f i A) {y : Str} {b : Option Str} (h : (y, b) ∈ nxt ps A) : ∃ q ∈ A, b = some q.1 ∧ f y = some q.1 ∧ Adj ps q.1 y := by
  unfold nxt at h
  obtain ⟨q, hq, h2⟩ := List.mem_flatMap.mp h
  obtain ⟨z, hz, e⟩ := List.mem_map.mp h2
  cases e
  obtain ⟨h3, h4⟩ := List.mem_filter.mp hz
  have h4 : some y ≠ q.2 := of_decide_eq_true h4
  have ha := nearL_mem.mp h3
  refine ⟨q, hq, rfl, ?_, ha⟩
  rcases R.one _ _ ha with e | e
  · rw [← (L.ok q hq).2.1] at e
    exact absurd e.symm h4
  · exact e
theorem nxt_fst (ps : Prs) (A : Lv) : (nxt ps A).map (·.1) = A.flatMap fun q => (nearL ps q.1).filter fun y => decide (some y ≠ q.2) := by
  unfold nxt
  rw [List.map_flatMap]
  congr 1
  funext q
  rw [List.map_map]
  exact List.map_id _
theorem Lev.next {hs : List Str} {ps : Prs} {r : Str} {f : Str → Option Str} {i : Nat} {A : Lv} (T : Tree hs ps) (R : Rt hs ps r f) (L : Lev hs r f i A) : Lev hs r f (i + 1) (nxt ps A) := by
  refine ⟨fun q hq => ?_, ?_⟩
  · obtain ⟨y, b⟩ := q
    obtain ⟨q, hq2, rfl, e, ha⟩ := nxt_mem T R L hq
    obtain ⟨l, p, hl⟩ := (L.ok q hq2).2.2
    exact ⟨(T.mem ha).2, e.symm, _, .cons e p, by rw [List.length_cons, hl]⟩
  · have key : ∀ B : Lv, (∀ q ∈ B, q ∈ A) → (B.map (·.1)).Nodup → ((nxt ps B).map (·.1)).Nodup := by
      intro B
      induction B with
      | nil => intro _ _; exact List.nodup_nil
      | cons q B ih =>
        intro hB hn
        rw [nxt_fst, List.flatMap_cons, ← nxt_fst]
        rw [List.map_cons] at hn
        refine List.nodup_append.mpr ⟨(T.near q.1).filter _, ih (fun z hz => hB z (List.mem_cons_of_mem _ hz)) (List.nodup_cons.mp hn).2, fun y hy z hz e => ?_⟩
        subst e
        have L2 : Lev hs r f i (q :: B) := ⟨fun z hz => L.ok z (hB z hz), by rw [List.map_cons]; exact hn⟩
        have m1 : (y, some q.1) ∈ nxt ps (q :: B) := by
          unfold nxt
          rw [List.flatMap_cons]
          exact List.mem_append_left _ (List.mem_map.mpr ⟨y, hy, rfl⟩)
        obtain ⟨_, _, e1, e2, _⟩ := nxt_mem T R L2 m1
        rw [← e1] at e2
        obtain ⟨⟨y', b⟩, hb, e3⟩ := List.mem_map.mp hz
        have e3 : y' = y := e3
        subst e3
        obtain ⟨q2, hq2, e4, e5, _⟩ := nxt_mem T R (⟨fun z hz => L.ok z (hB z (List.mem_cons_of_mem _ hz)), (List.nodup_cons.mp hn).2⟩ : Lev hs r f i B) hb
        rw [e2] at e5
        have := Option.some.inj e5
        exact (List.nodup_cons.mp hn).1 (by rw [this]; exact List.mem_map.mpr ⟨q2, hq2, rfl⟩)
    exact key A (fun _ h => h) L.nd
theorem Lev.len {hs : List Str} {r : Str} {f : Str → Option Str} {i : Nat} {A : Lv} (L : Lev hs r f i A) : A.length ≤ hs.length := by
  have := nodup_le (m := hs) L.nd (fun x hx => by
    obtain ⟨q, hq, rfl⟩ := List.mem_map.mp hx
    exact (L.ok q hq).1)
  rwa [List.length_map] at this
theorem Lev.out {hs : List Str} {ps : Prs} {r : Str} {f : Str → Option Str} {i : Nat} {A : Lv} (T : Tree hs ps) (R : Rt hs ps r f) (hr : r ∈ hs) (L : Lev hs r f i A) (h : A ≠ []) : i < hs.length := by
  cases A with
  | nil => exact absurd rfl h
  | cons q B =>
    obtain ⟨_, _, l, p, hl⟩ := L.ok q List.mem_cons_self
    have := R.len T p hr
    omega
theorem Lev.sub {hs : List Str} {r : Str} {f : Str → Option Str} {i : Nat} {A B : Lv} (L : Lev hs r f i A) (h : B.Sublist A) : Lev hs r f i B := ⟨fun q hq => L.ok q (h.mem hq), List.Nodup.sublist (h.map _) L.nd⟩
theorem nxt_snoc (ps : Prs) (A : Lv) (q : Str × Option Str) : nxt ps (A ++ [q]) = nxt ps A ++ ((nearL ps q.1).filter fun y => decide (some y ≠ q.2)).map fun y => (y, some q.1) := by
  unfold nxt
  rw [List.flatMap_append, List.flatMap_cons, List.flatMap_nil, List.append_nil]
theorem Tree.near_le {hs : List Str} {ps : Prs} (T : Tree hs ps) (x : Str) : (nearL ps x).length ≤ hs.length := nodup_le (T.near x) fun _ hy => (T.mem (nearL_mem.mp hy)).2
/-- all that is told so far -/
structure Tot (hs : List Str) (r : Str) (f : Str → Option Str) (M A : Lv) : Prop where
  ok : ∀ q ∈ M, q.1 ∈ hs ∧ q.2 = f q.1
  top : (r, none) ∈ M
  cl : ∀ q ∈ M, q ∈ A ∨ ∀ y, f y = some q.1 → (y, some q.1) ∈ M
  hd : M.head? = some (r, none)
  sub : ∀ q ∈ A, q ∈ M
  be : ∀ i q, M[i + 1]? = some q → ∃ b, q.2 = some b ∧ b ∈ (M.take (i + 1)).map (·.1)
theorem Tot.next {hs : List Str} {ps : Prs} {r : Str} {f : Str → Option Str} {i : Nat} {M A : Lv} (T : Tree hs ps) (R : Rt hs ps r f) (L : Lev hs r f i A) (t : Tot hs r f M A) : Tot hs r f (M ++ nxt ps A) (nxt ps A) := by
  refine ⟨fun q hq => ?_, List.mem_append_left _ t.top, fun q hq => ?_, ?_, fun q hq => List.mem_append_right _ hq, fun i q hq => ?_⟩
  · rcases List.mem_append.mp hq with hq | hq
    · exact t.ok q hq
    · obtain ⟨a, b, _⟩ := (L.next T R).ok q hq
      exact ⟨a, b⟩
  · rcases List.mem_append.mp hq with hq | hq
    · refine .inr fun y hy => ?_
      rcases t.cl q hq with h | h
      · refine List.mem_append_right _ ?_
        unfold nxt
        refine List.mem_flatMap.mpr ⟨q, h, List.mem_map.mpr ⟨y, List.mem_filter.mpr ⟨nearL_mem.mpr (R.adj _ _ hy).symm, decide_eq_true fun e => ?_⟩, rfl⟩⟩
        rw [(L.ok q h).2.1] at e
        -- f q.1 = some y and f y = some q.1
        obtain ⟨l, p, _⟩ := (L.ok q h).2.2
        have c1 := (Pth.cons e.symm (.cons hy p)).uniq R.none p
        have := congrArg List.length c1
        simp at this
        omega
      · exact List.mem_append_left _ (h y hy)
    · exact .inl hq
  · rw [List.head?_append, t.hd]
    rfl
  · by_cases lt : i + 1 < M.length
    · rw [List.getElem?_append_left lt] at hq
      rw [List.take_append_of_le_length (by omega)]
      exact t.be i q hq
    · rw [List.getElem?_append_right (by omega)] at hq
      obtain ⟨y, b⟩ := q
      obtain ⟨q', m', rfl, _, _⟩ := nxt_mem T R L (List.mem_of_getElem? hq)
      refine ⟨q'.1, rfl, List.mem_map.mpr ⟨q', ?_, rfl⟩⟩
      rw [List.take_append]
      refine List.mem_append_left _ ?_
      rw [List.take_of_length_le (by omega)]
      exact t.sub q' m'
theorem Tot.all {hs : List Str} {ps : Prs} {r : Str} {f : Str → Option Str} {M : Lv} (R : Rt hs ps r f) (t : Tot hs r f M []) : ∀ x ∈ hs, (x, f x) ∈ M := by
  intro x hx
  obtain ⟨l, p⟩ := R.way x hx
  clear hx
  induction p with
  | nil => rw [R.none]; exact t.top
  | cons e p ih =>
    rename_i x' y' l'
    rcases t.cl _ ih with h | h
    · exact absurd h (by simp)
    · rw [e]
      exact h x' e
end Tr

/-! Walks: ways put together. Law-independent, no machine. -/
namespace Tr
open PySem
/-- all ways of a tree -/
structure Ways (hs : List Str) (ps : Prs) (fr : Str → Str → Option Str) (way : Str → Str → List Str) : Prop where
  rt : ∀ r ∈ hs, Rt hs ps r (fr r)
  pth : ∀ a ∈ hs, ∀ r ∈ hs, Pth (fr r) r a (way a r)
theorem Tree.ways {hs : List Str} {ps : Prs} (T : Tree hs ps) : ∃ fr way, Ways hs ps fr way := by
  have h1 : ∀ r, ∃ f, r ∈ hs → Rt hs ps r f := fun r => by
    by_cases h : r ∈ hs
    · obtain ⟨f, R⟩ := T.root h
      exact ⟨f, fun _ => R⟩
    · exact ⟨fun _ => none, fun z => absurd z h⟩
  obtain ⟨fr, hfr⟩ := Classical.axiomOfChoice h1
  have h2 : ∀ q : Str × Str, ∃ l, q.1 ∈ hs → q.2 ∈ hs → Pth (fr q.2) q.2 q.1 l := fun q => by
    by_cases h : q.1 ∈ hs ∧ q.2 ∈ hs
    · obtain ⟨l, p⟩ := (hfr q.2 h.2).way q.1 h.1
      exact ⟨l, fun _ _ => p⟩
    · exact ⟨[], fun a b => absurd ⟨a, b⟩ h⟩
  obtain ⟨wy, hwy⟩ := Classical.axiomOfChoice h2
  exact ⟨fr, fun a r => wy (a, r), hfr, fun a ha r hr => hwy (a, r) ha hr⟩
/-- on from a house, to one after another -/
def wkFrom (way : Str → Str → List Str) : Str → List Str → List Str
  | _, [] => []
  | a, h :: t => (way a h).tail ++ wkFrom way h t
theorem wkFrom_snoc (way : Str → Str → List Str) (h : Str) : ∀ (pre : List Str) (a : Str), wkFrom way a (pre ++ [h]) = wkFrom way a pre ++ (way (pre.getLastD a) h).tail
  | [], a => by simp [wkFrom]
  | b :: t, a => by
    rw [List.cons_append, wkFrom, wkFrom, wkFrom_snoc way h t b, List.append_assoc]
    congr 3
    cases t <;> rfl
theorem Ways.tail_last {hs : List Str} {ps : Prs} {fr : Str → Str → Option Str} {way : Str → Str → List Str} (W : Ways hs ps fr way) {a h : Str} (ha : a ∈ hs) (hh : h ∈ hs) : ∃ l, way a h = a :: l ∧ (a :: l).getLast? = some h := by
  obtain ⟨l, e⟩ := (W.pth a ha h hh).head
  exact ⟨l, e, by rw [← e]; exact (W.pth a ha h hh).last⟩
theorem Ways.same {hs : List Str} {ps : Prs} {fr : Str → Str → Option Str} {way : Str → Str → List Str} (W : Ways hs ps fr way) {a : Str} (ha : a ∈ hs) : way a a = [a] := (W.pth a ha a ha).uniq (W.rt a ha).none .nil
theorem Ways.len {hs : List Str} {ps : Prs} {fr : Str → Str → Option Str} {way : Str → Str → List Str} (T : Tree hs ps) (W : Ways hs ps fr way) {a h : Str} (ha : a ∈ hs) (hh : h ∈ hs) : (way a h).length ≤ hs.length := (W.rt h hh).len T (W.pth a ha h hh) hh
theorem Ways.wk_len {hs : List Str} {ps : Prs} {fr : Str → Str → Option Str} {way : Str → Str → List Str} (T : Tree hs ps) (W : Ways hs ps fr way) : ∀ (l : List Str) (a : Str), a ∈ hs → (∀ x ∈ l, x ∈ hs) → (wkFrom way a l).length ≤ hs.length * l.length
  | [], _, _, _ => Nat.le_refl _
  | h :: t, a, ha, hl => by
    have hh := hl h List.mem_cons_self
    have h1 := W.len T ha hh
    have h2 := Ways.wk_len T W t h hh (fun x hx => hl x (List.mem_cons_of_mem _ hx))
    rw [wkFrom, List.length_append, List.length_tail, List.length_cons, Nat.mul_succ]
    omega
theorem Ways.wk_mem {hs : List Str} {ps : Prs} {fr : Str → Str → Option Str} {way : Str → Str → List Str} (T : Tree hs ps) (W : Ways hs ps fr way) : ∀ (l : List Str) (a : Str), a ∈ hs → (∀ x ∈ l, x ∈ hs) → ∀ x ∈ wkFrom way a l, x ∈ hs
  | [], _, _, _, x, hx => by simp [wkFrom] at hx
  | h :: t, a, ha, hl, x, hx => by
    have hh := hl h List.mem_cons_self
    rw [wkFrom] at hx
    rcases List.mem_append.mp hx with hx | hx
    · exact (W.rt h hh).mem T (W.pth a ha h hh) hh x (List.mem_of_mem_tail hx)
    · exact Ways.wk_mem T W t h hh (fun x hx => hl x (List.mem_cons_of_mem _ hx)) x hx
/-- where one stands -/
theorem Ways.wk_last {hs : List Str} {ps : Prs} {fr : Str → Str → Option Str} {way : Str → Str → List Str} (W : Ways hs ps fr way) : ∀ (l : List Str) (a : Str), a ∈ hs → (∀ x ∈ l, x ∈ hs) → (a :: wkFrom way a l).getLast? = some (l.getLastD a)
  | [], _, _, _ => rfl
  | h :: t, a, ha, hl => by
    have hh := hl h List.mem_cons_self
    obtain ⟨m, e, q⟩ := W.tail_last ha hh
    have ih := Ways.wk_last W t h hh (fun x hx => hl x (List.mem_cons_of_mem _ hx))
    rw [wkFrom, e]
    show (a :: (m ++ wkFrom way h t)).getLast? = _
    rw [List.getLastD_cons]
    cases hw : wkFrom way h t with
    | nil =>
      rw [hw] at ih
      have ih : some h = some (t.getLastD h) := ih
      rw [List.append_nil, q]
      exact ih
    | cons b c =>
      rw [hw] at ih
      rw [List.getLast?_cons_cons] at ih
      rw [← ih, ← List.cons_append, List.getLast?_append]
      cases hb : (b :: c).getLast? with
      | none => simp at hb
      | some z => rfl
end Tr

namespace K07
open PySem PySem.Spec PyProof.Rows L2 Tr Sq
/-! ### _law_v_village, _law_v_round -/
abbrev sVill : Stmt := top 43
def spVill : Sp := fun vs H Q _ => ∃ (p c : Addr) (n most : Nat), vs = [.ref p, .int (most : Nat)] ∧ StrAt H p c n ∧ n + 200 ≤ 1000000000 ∧ 1 ≤ most ∧ most ≤ 12 ∧
  ∀ (t a b : Addr) (hs : List Str) (qs : PrL) (H' : Hp), H t = none → H a = none → H b = none → (∀ t ∈ qs, H t.1 = none) → H' t = some (.tup [.ref a, .ref b]) → H' a = some (.lst (hs.map V.str)) → H' b = some (.lst (refsL qs)) → PrsAt H' qs → Tree hs (qs.map (·.2)) → hs ≠ [] → hs.length ≤ most → (∀ h ∈ hs, h ∈ names12) → qs.length + 1 = hs.length → Kp p c H H' → StrAt H' p c (n + 200) → Q (.ref t) H'
def spRound : Sp := fun vs H Q _ => ∃ (p c l : Addr) (n most : Nat) (hs : List Str), vs = [.ref p, .ref l, .int (most : Nat)] ∧ StrAt H p c n ∧ n + 200 ≤ 1000000000 ∧ 1 ≤ most ∧ most ≤ 100 ∧ H l = some (.lst (hs.map V.str)) ∧ hs ≠ [] ∧ hs.length ≤ 1000 ∧
  ∀ (q : Addr) (rs : List Str) (H' : Hp), H q = none → H' q = some (.lst (rs.map V.str)) → rs ≠ [] → rs.length ≤ most → (∀ r ∈ rs, r ∈ hs) → Kp p c H H' → StrAt H' p c (n + 200) → Q (.ref q) H'
section
variable {P : Program} {w : World} {K : PySem.W.Frag} {mg : Str → Option Value} {base : Heap}
theorem scVill : FnScope ["stream", "most", "houses"] ["stream", "most"] (defScope sVill) := ⟨rfl, rfl, rfl, by decide +kernel, rfl, by decide +kernel, by decide +kernel⟩
theorem ok_vill {f fD fM fN fP : Addr} {fd fdD fdM fdN fdP : FuncData} (F : FnP K "_law_v_village" sVill f fd) (GD : FnOk P w K mg base CX0 1 fD fdD ["stream", "many"] spDraw) (bD : L2.Binds K fdD ["stream", "many"] []) (kD : PySem.W.keepIn K (.ref fD) = true) (gD : mg "_law_draw" = some (.ref fD))
    (GM : FnOk P w K mg base CX0 2 fM fdM ["stream", "some"] (spMixed K)) (bM : L2.Binds K fdM ["stream", "some"] []) (kM : PySem.W.keepIn K (.ref fM) = true) (gM : mg "_law_mixed" = some (.ref fM))
    (GN : FnOk P w K mg base CX0 3 fN fdN ["stream", "many"] spNames) (bN : L2.Binds K fdN ["stream", "many"] []) (kN : PySem.W.keepIn K (.ref fN) = true) (gN : mg "_law_v_names" = some (.ref fN))
    (GP : FnOk P w K mg base CX0 3 fP fdP ["stream", "houses"] spPaths) (bP : L2.Binds K fdP ["stream", "houses"] []) (kP : PySem.W.keepIn K (.ref fP) = true) (gP : mg "_law_v_paths" = some (.ref fP)) : FnOk P w K mg base CX0 4 f fd ["stream", "most"] spVill := by
  refine F.ok scVill (fun vs H Q E h => ?_) (fun cdv A outer s H vs Q E hr h => ?_)
  · obtain ⟨p, c, n, most, rfl, _⟩ := h
    rfl
  · obtain ⟨p, c, n, most, rfl, hS, hn, hm1, hm2, k⟩ := h
    refine ⟨_, PSs.nox (pss_cons (ps_set (i := 2) scVill.nd rfl (.inl rfl) (pe_call GN hr rfl gN kN bN .nil pass0 (pa_cons (pv 0) (pa_cons (pe_op op_add pe_int (pe_call GD (hr.mono (by decide)) rfl gD kD bD .nil pass0 (pa_cons (pv 0) (pa_cons (pv 1) pa_nil)))) pa_nil))))
      (pss_one (ps_ret (pe_tup (pa_cons (pe_call GM (hr.mono (by decide)) rfl gM kM bM .nil pass0 (pa_cons (pv 0) (pa_cons (pv 2) pa_nil))) (pa_cons (pe_call GP hr rfl gP kP bP .nil pass0 (pa_cons (pv 0) (pa_cons (pv 2) pa_nil))) pa_nil)))))), ?_⟩
    refine ⟨_, rfl, _, rfl, _, rfl, p, c, n, (most : Int), rfl, hS, by omega, by omega, by omega, fun d H1 d0 d1 hK1 hS1 => ?_⟩
    obtain ⟨j, rfl⟩ : ∃ j : Nat, d = (j : Int) := ⟨d.toNat, by omega⟩
    refine ⟨_, _, rfl, rfl, p, c, n + 1, 1 + j, by show [V.ref p, V.int (1 + (j : Int))] = _; rw [show (1 : Int) + (j : Int) = ((1 + j : Nat) : Int) by omega], hS1, by omega, by omega, by omega, fun l hs0 H2 hl hl2 hlen hnd hgood hK2 hS2 => ?_⟩
    have hne : hs0 ≠ [] := fun z => by rw [z] at hlen; simp at hlen; omega
    obtain ⟨hlp, hlc⟩ := strs_nep hl2 hne hS2
    have hlH : H l = none := hK1.fresh hS1 hl
    refine ⟨_, rfl, _, rfl, p, c, l, n + 1 + 12, hs0.map V.str, rfl, hS2, by rw [List.length_map]; omega, .inl (SqL.of hl2), by rw [List.length_map]; omega, fun a ys H3 ha ha3 hp3 hK3 hS3 => ?_⟩
    obtain ⟨hs, hperm, rfl⟩ := perm_strs hp3
    have haH : H a = none := (hK1.trans hK2).fresh hS2 ha
    have hl3 := hK3 _ _ hl2 hlp hlc
    rw [List.length_map] at hS3
    have hne2 : hs ≠ [] := fun z => hne (List.length_eq_zero_iff.mp (by rw [← hperm.length_eq, z]; rfl))
    obtain ⟨hap, hac⟩ := strs_nep ha3 hne2 hS3
    refine ⟨_, rfl, _, rfl, p, c, l, n + 1 + 12 + hs0.length, hs0, rfl, hS3, by omega, hl3, hne, by omega, hnd, fun b qs H4 hb hb4 hP4 hPf T hql hK4 hS4 => ?_⟩
    refine ⟨by show 2 ≤ sizeLine; decide, fun t ht => ?_⟩
    have K4 := ((hK1.trans hK2).trans hK3).trans hK4
    have ha4 := hK4 _ _ ha3 hap hac
    refine k t a b hs qs _ (K4.fresh hS4 ht) haH (((hK1.trans hK2).trans hK3).fresh hS3 hb) (fun t' ht' => ((hK1.trans hK2).trans hK3).fresh hS3 (hPf t' ht')) upd_same ?_ ?_ (fun t' ht' => ?_) (T.perm hperm (List.Perm.refl _)) hne2 (by rw [hperm.length_eq]; omega) (fun h hh => hgood h (hperm.mem_iff.mp hh)) (by rw [hperm.length_eq]; exact hql) (K4.new ht) ((hS4.new ht).mono (by omega))
    · rw [upd_ne (ne_of_none ha4 ht)]
      exact ha4
    · rw [upd_ne (ne_of_none hb4 ht)]
      exact hb4
    · rw [upd_ne (ne_of_none (hP4 t' ht') ht)]
      exact hP4 t' ht'
end
end K07

namespace K07
open PySem PySem.Spec PyProof.Rows L2 Tr Sq Dk
/-! ### near_houses -/
abbrev sNear : Stmt := top 24
/-- a dict of lists of names: what lies beside each house -/
def NearAt (H : Hp) (d : Addr) (hs : List Str) (ad : Str → Addr) (g : Str → List Str) : Prop := H d = some (.dK (tab hs fun h => .ref (ad h))) ∧ ∀ h ∈ hs, H (ad h) = some (.lst ((g h).map V.str))
def spNear : Sp := fun vs H Q _ => ∃ (l q : Addr) (hs : List Str) (qs : PrL), vs = [.ref l, .ref q] ∧ H l = some (.lst (hs.map V.str)) ∧ H q = some (.lst (refsL qs)) ∧ PrsAt H qs ∧ hs.Nodup ∧ hs.length ≤ 1000 ∧ qs.length ≤ 1000 ∧ (∀ t ∈ qs, t.2.1 ∈ hs ∧ t.2.2 ∈ hs) ∧
  ∀ (d : Addr) (ad : Str → Addr) (H' : Hp), H d = none → (∀ h ∈ hs, H (ad h) = none) → Evl.Ex H H' → NearAt H' d hs ad (nearL (qs.map (·.2))) → Q (.ref d) H'
theorem nearL_le (ps : Prs) (x : Str) : (nearL ps x).length ≤ 2 * ps.length := by
  induction ps with
  | nil => exact Nat.le_refl _
  | cons q r ih =>
    obtain ⟨a, b⟩ := q
    simp only [nearL, List.length_append, List.length_cons]
    have h1 : (if a = x then [b] else ([] : List Str)).length ≤ 1 := by split <;> simp
    have h2 : (if b = x then [a] else ([] : List Str)).length ≤ 1 := by split <;> simp
    omega
section
variable {P : Program} {w : World} {K : PySem.W.Frag} {mg : Str → Option Value} {base : Heap}
theorem scNear : FnScope ["houses", "paths", "near", "one", "other", "house"] ["houses", "paths"] (defScope sNear) := ⟨rfl, rfl, rfl, by decide +kernel, rfl, by decide +kernel, by decide +kernel⟩
theorem ok_near {f : Addr} {fd : FuncData} (F : FnP K "near_houses" sNear f fd) : FnOk P w K mg base CX0 1 f fd ["houses", "paths"] spNear := by
  refine F.ok scNear (fun vs H Q E h => ?_) (fun cdv A outer s H vs Q E hr h => ?_)
  · obtain ⟨l, q, hs, qs, rfl, _⟩ := h
    rfl
  · obtain ⟨l, q, hs, qs, rfl, hl, hq, hP, hnd, h1k, hq1k, hin, k⟩ := h
    refine' ⟨_, PSs.nox (pss_cons ?dc (pss_cons (ps_for PassesOwn.never rfl (pi_list (pv 1)) (pg_tup rfl (pgs_cons (pg_name (i := 3) scNear.nd rfl (.inl rfl)) (pgs_cons (pg_name (i := 4) scNear.nd rfl (.inl rfl)) pgs_nil)))
        (pss_cons (ps_expr (pe_bm PySem.F.plainAttrs_list PySem.F.slot_list_append PySem.F.type_list_append mt_append (pe_dget (hu_of hr) (pv 2) (pv 3) (fun _ _ => rfl)) (pa_cons (pv 4) pa_nil)))
        (pss_one (ps_expr (pe_bm PySem.F.plainAttrs_list PySem.F.slot_list_append PySem.F.type_list_append mt_append (pe_dget (hu_of hr) (pv 2) (pv 4) (fun _ _ => rfl)) (pa_cons (pv 3) pa_nil))))))
      (pss_one (ps_ret (pv 2))))), ?rd⟩
    case dc =>
      exact ps_setDc (i := 2) (own := [("house", 5)]) (g := gName 5) (tt := tYes) (tk := tVar 5) (tv := tLst tNil) rfl scNear.nd rfl rfl (sw_trueD rfl rfl rfl (by decide +kernel)) (pi_list (pv 0))
        (blkOk_by (own := [("house", 5)]) (N := ["houses", "paths", "near", "one", "other", "house"]) (sc := defScope sNear) (by decide +kernel)) (fun _ _ _ _ _ => pg_name (i := 5) scNear.nd rfl (.inl rfl)) (fun _ _ _ _ _ => pts_nil) (fun _ _ _ _ _ => pv 5) (fun _ _ _ _ _ => pe_lst pa_nil)
    refine ⟨_, rfl, l, rfl, ⟨_, SqL.of hl⟩, fun D hD => ?_⟩
    refine dc_it (walk_list (xs := hs.map V.str)) (fun i H' => Evl.Ex H H' ∧ ∃ ad : Str → Addr, H' D = some (.dK (tab (hs.take i) fun h => .ref (ad h))) ∧ (∀ h ∈ hs.take i, H' (ad h) = some (.lst []) ∧ H (ad h) = none) ∧ ∀ h ∈ hs.take i, ∀ h2 ∈ hs.take i, ad h = ad h2 → h = h2) ?_ ?_ ?_ ?_
    · exact ⟨Evl.Ex.new hD, fun _ => 0, upd_same, fun h hh => absurd hh (by simp), fun h hh => absurd hh (by simp)⟩
    · intro i H' _ hp
      exact SqL.of (hp.1 _ _ hl)
    · rintro i y H1 H2 hi ⟨e1, ad, e2, e3, e4⟩ ⟨rfl, hy⟩
      rw [List.length_map] at hi
      obtain ⟨h, hh⟩ := getD_of hi
      rw [List.getElem?_map, hh] at hy
      cases hy
      have hm : h ∈ hs := List.mem_of_getElem? hh
      have hni : h ∉ hs.take i := fun z => by
        obtain ⟨j, hj⟩ := List.mem_iff_getElem?.mp z
        have lt : j < i := by
          have := (List.getElem?_eq_some_iff.mp hj).1
          rw [List.length_take] at this
          omega
        rw [List.getElem?_take_of_lt lt] at hj
        have := (List.getElem?_inj (by omega) hnd).mp (hj.trans hh.symm)
        omega
      refine ⟨rfl, _, rfl, by show 0 ≤ sizeLine; decide, fun p hp => ?_⟩
      have hpD : p ≠ D := fun z => by rw [z, e2] at hp; cases hp
      have hpH : H p = none := by
        cases q0 : H p with
        | none => rfl
        | some o => rw [e1 _ _ q0] at hp; cases hp
      have nead : ∀ x ∈ hs.take i, ad x ≠ p ∧ ad x ≠ D := fun x hx => by
        have := (e3 x hx).1
        exact ⟨ne_of_none this hp, fun z => by rw [z, e2] at this; cases this⟩
      have tk : hs.take (i + 1) = hs.take i ++ [h] := by rw [List.take_add_one, hh]; rfl
      refine ⟨_, Sum.inr h, rfl, by rw [upd_ne hpD.symm]; exact e2, ?_, ex_upd (e1.trans (Evl.Ex.new hp)) hD, fun x => if x = h then p else ad x, ?_, fun x hx => ?_, fun x hx x2 hx2 e => ?_⟩
      · rw [tab_length, List.length_take]
        exact Nat.lt_of_le_of_lt (show min i hs.length ≤ 1000 by omega) (by decide)
      · rw [upd_same, put_new hni, tk]
        congr 2
        exact tab_congr fun x _ => by
          show (if x = h then V.ref p else V.ref (ad x)) = V.ref (if x = h then p else ad x)
          split <;> rfl
      · rw [tk] at hx
        rcases List.mem_append.mp hx with hx | hx
        · have hxh : x ≠ h := fun z => hni (by rw [← z]; exact hx)
          simp only [if_neg hxh]
          rw [upd_ne (nead x hx).2, upd_ne (nead x hx).1]
          exact e3 x hx
        · simp only [List.mem_singleton] at hx
          subst hx
          simp only [if_true]
          rw [upd_ne hpD, upd_same]
          exact ⟨rfl, hpH⟩
      · have e : (if x = h then p else ad x) = (if x2 = h then p else ad x2) := e
        rw [tk] at hx hx2
        have split1 : ∀ z ∈ hs.take i ++ [h], z = h ∨ (z ∈ hs.take i ∧ z ≠ h) := fun z hz => by
          rcases List.mem_append.mp hz with hz | hz
          · exact .inr ⟨hz, fun q => hni (by rw [← q]; exact hz)⟩
          · exact .inl (by simpa using hz)
        rcases split1 x hx with q1 | ⟨m1, q1⟩ <;> rcases split1 x2 hx2 with q2 | ⟨m2, q2⟩
        · rw [q1, q2]
        · rw [if_pos q1, if_neg q2] at e
          exact absurd e.symm (nead x2 m2).1
        · rw [if_neg q1, if_pos q2] at e
          exact absurd e (nead x m1).1
        · rw [if_neg q1, if_neg q2] at e
          exact e4 x m1 x2 m2 e
    · rintro H1 ⟨e1, ad, e2, e3, e4⟩
      rw [List.length_map, List.take_length] at e2 e3 e4
      refine ⟨_, rfl, q, rfl, ⟨_, SqL.of (e1 _ _ hq)⟩, ?_⟩
      have adD : ∀ x ∈ hs, ad x ≠ D := fun x hx z => by have := (e3 x hx).1; rw [z, e2] at this; cases this
      refine for_it (walk_list (xs := refsL qs)) (fun i σ H' => ∃ v3 v4 v5, σ = [some (.ref l), some (.ref q), some (.ref D), v3, v4, v5] ∧ Evl.Ex H H' ∧ H' D = some (.dK (tab hs fun h => .ref (ad h))) ∧ ∀ h ∈ hs, H' (ad h) = some (.lst ((nearL ((qs.map (·.2)).take i) h).map V.str))) ?_ ?_ ?_ ?_
      · exact ⟨_, _, _, rfl, e1, e2, fun h hh => (e3 h hh).1⟩
      · rintro i σ H' _ ⟨v3, v4, v5, rfl, f1, f2, f3⟩
        exact SqL.of (f1 _ _ hq)
      · rintro i y σ H2 H3 hi ⟨v3, v4, v5, rfl, f1, f2, f3⟩ ⟨rfl, hy⟩
        unfold refsL at hi hy
        rw [List.length_map] at hi
        obtain ⟨t, ht⟩ := getD_of hi
        rw [List.getElem?_map, ht] at hy
        cases hy
        have tm := List.mem_of_getElem? ht
        obtain ⟨m1, m2⟩ := hin t tm
        obtain ⟨T, a, b⟩ := t
        have hT : H3 T = some (.tup [.str a, .str b]) := f1 _ _ (hP _ tm)
        have tk : (qs.map (·.2)).take (i + 1) = (qs.map (·.2)).take i ++ [(a, b)] := by rw [List.take_add_one, List.getElem?_map, ht]; rfl
        have len : ∀ h, ((nearL ((qs.map (·.2)).take i) h).map V.str).length < sizeLine := fun h => by
          rw [List.length_map]
          have := nearL_le ((qs.map (·.2)).take i) h
          rw [List.length_take, List.length_map] at this
          exact Nat.lt_of_le_of_lt (show _ ≤ 2000 by omega) (by decide)
        have g1 : DGet H3 D (kV (Sum.inr a)) (some (.ref (ad a))) := by have := DGet.k (k := Sum.inr a) f2; rw [val_in m1] at this; exact this
        refine ⟨T, _, rfl, SqT.of hT, rfl, _, _, rfl, _, _, rfl, rfl, ?_⟩
        refine ⟨_, rfl, _, rfl, D, _, rfl, g1, .inl ⟨rfl, _, SqL.of (f3 a m1)⟩, _, rfl, ad a, _, _, rfl, rfl, f3 a m1, len a, ?_⟩
        have f2' : upd H3 (ad a) (.lst ((nearL ((qs.map (·.2)).take i) a).map V.str ++ [.str b])) D = some (.dK (tab hs fun h => .ref (ad h))) := by rw [upd_ne (adD a m1).symm]; exact f2
        have g2 : DGet (upd H3 (ad a) (.lst ((nearL ((qs.map (·.2)).take i) a).map V.str ++ [.str b]))) D (kV (Sum.inr b)) (some (.ref (ad b))) := by have := DGet.k (k := Sum.inr b) f2'; rw [val_in m2] at this; exact this
        have adH : ∀ x ∈ hs, H (ad x) = none := fun x hx => (e3 x hx).2
        have e5 : Evl.Ex H (upd H3 (ad a) (.lst ((nearL ((qs.map (·.2)).take i) a).map V.str ++ [.str b]))) := ex_upd f1 (adH a m1)
        have c1 : (nearL ((qs.map (·.2)).take i) a).map V.str ++ [.str b] = (nearL ((qs.map (·.2)).take i) a ++ [b]).map V.str := by rw [List.map_append]; rfl
        rw [c1] at f2' g2 e5 ⊢
        generalize hH4 : upd H3 (ad a) (.lst ((nearL ((qs.map (·.2)).take i) a ++ [b]).map V.str)) = H4 at f2' g2 e5 ⊢
        have at4 : ∀ x ∈ hs, H4 (ad x) = some (.lst ((nearL ((qs.map (·.2)).take i) x ++ (if a = x then [b] else [])).map V.str)) := fun x hx => by
          rw [← hH4]
          by_cases ex : a = x
          · subst ex
            rw [upd_same, if_pos rfl]
          · rw [upd_ne (fun z => ex (e4 a m1 x hx z.symm)), if_neg ex, List.append_nil]
            exact f3 x hx
        have lb : ((nearL ((qs.map (·.2)).take i) b ++ (if a = b then [b] else [])).map V.str).length < sizeLine := by
          rw [List.length_map, List.length_append]
          have := nearL_le ((qs.map (·.2)).take i) b
          rw [List.length_take, List.length_map] at this
          have h1 : (if a = b then [b] else ([] : List Str)).length ≤ 1 := by split <;> simp
          exact Nat.lt_of_le_of_lt (show _ ≤ 2001 by omega) (by decide)
        refine ⟨_, rfl, _, rfl, D, _, rfl, g2, .inl ⟨rfl, _, SqL.of (at4 b m2)⟩, _, rfl, ad b, _, _, rfl, rfl, at4 b m2, lb, ?_⟩
        refine ⟨_, _, _, rfl, ex_upd e5 (adH b m2), by rw [upd_ne (adD b m2).symm]; exact f2', fun x hx => ?_⟩
        rw [tk, nearL_snoc]
        by_cases ex : b = x
        · subst ex
          rw [upd_same, if_pos rfl, List.map_append, List.map_append, List.map_append]
          simp
        · rw [upd_ne (fun z => ex (e4 b m2 x hx z.symm)), if_neg ex, List.append_nil]
          exact at4 x hx
      · rintro σ H2 ⟨v3, v4, v5, rfl, f1, f2, f3⟩
        have : (qs.map (·.2)).take (refsL qs).length = qs.map (·.2) := by
          unfold refsL
          rw [List.length_map, List.take_of_length_le (by rw [List.length_map]; exact Nat.le_refl _)]
        rw [this] at f3
        exact ⟨_, rfl, k D ad H2 hD (fun h hh => (e3 h hh).2) f1 ⟨f2, f3⟩⟩
end
end K07

namespace K07
open PySem PySem.Spec PyProof.Rows L2 Tr Sq Dk
/-! ### checked_paths (of paths of a tree) -/
abbrev sPathsC : Stmt := top 22
def prOf (H : Hp) : V → Str × Str
  | .ref a => match H a with
    | some (.tup [.str x, .str y]) => (x, y)
    | _ => (⟨#[]⟩, ⟨#[]⟩)
  | _ => (⟨#[]⟩, ⟨#[]⟩)
theorem prOf_at {H : Hp} {a : Addr} {x y : Str} (h : H a = some (.tup [.str x, .str y])) : prOf H (.ref a) = (x, y) := by
  unfold prOf
  simp only [h]
theorem prOf_refs {H : Hp} {qs : PrL} (h : PrsAt H qs) : (refsL qs).map (prOf H) = qs.map (·.2) := by
  unfold refsL
  rw [List.map_map]
  exact List.map_congr_left fun t ht => prOf_at (h t ht)
def spPathsC : Sp := fun vs H Q _ => ∃ (l q : Addr) (hs hs0 : List Str) (qs : PrL), vs = [.ref l, .ref q] ∧ H l = some (.lst (hs.map V.str)) ∧ H q = some (.lst (refsL qs)) ∧ PrsAt H qs ∧ Tree hs (qs.map (·.2)) ∧ hs ≠ [] ∧ hs.length ≤ 1000 ∧ qs.length ≤ 1000 ∧ hs0 = hs ∧
  ∀ (r : Addr) (zs : PrL) (H' : Hp), H r = none → Evl.Ex H H' → H' r = some (.lst (refsL zs)) → PrsAt H' zs → (zs.map (·.2)).Perm ((qs.map (·.2)).map ordP) → (zs.map (·.2)).Pairwise (fun x y => Srs.lexT y x = false) → (∀ t ∈ zs, H t.1 = none) → Q (.ref r) H'
section
variable {P : Program} {w : World} {K : PySem.W.Frag} {mg : Str → Option Value} {base : Heap}
theorem scPathsC : FnScope ["houses", "paths", "group", "told", "index", "pair", "house"] ["houses", "paths"] (defScope sPathsC) := ⟨rfl, rfl, rfl, by decide +kernel, rfl, by decide +kernel, by decide +kernel⟩
theorem ok_pathsC {f fL fP fJ fB : Addr} {fd fdL fdP fdJ fdB : FuncData} (F : FnP K "checked_paths" sPathsC f fd)
    (GL : FnOk P w K mg base CX0 1 fL fdL ["thing"] spIsLst) (bL : L2.Binds K fdL ["thing"] []) (kL : PySem.W.keepIn K (.ref fL) = true) (gLs : mg "is_listed" = some (.ref fL))
    (GP : FnOk P w K mg base CX0 2 fP fdP ["thing"] spIsPair) (bP : L2.Binds K fdP ["thing"] []) (kP : PySem.W.keepIn K (.ref fP) = true) (gP : mg "is_pair" = some (.ref fP))
    (GJ : FnOk P w K mg base CX0 1 fJ fdJ ["group", "one", "other"] spJoined) (bJ : L2.Binds K fdJ ["group", "one", "other"] []) (kJ : PySem.W.keepIn K (.ref fJ) = true) (gJ : mg "joined_groups" = some (.ref fJ))
    (GB : FnOk P w K mg base CX0 1 fB fdB ["one", "other"] spBetween) (bB : L2.Binds K fdB ["one", "other"] []) (kB : PySem.W.keepIn K (.ref fB) = true) (gB : mg "path_between" = some (.ref fB))
    (gI : mg "isinstance" = none) (gT : mg "str" = none) (gE : mg "enumerate" = none) (gA : mg "all" = none) (gS : mg "sorted" = none) : FnOk P w K mg base CX0 3 f fd ["houses", "paths"] spPathsC := by
  refine F.ok scPathsC (fun vs H Q E h => ?_) (fun cdv A outer s H vs Q E hr h => ?_)
  · obtain ⟨l, q, hs, _, qs, rfl, _⟩ := h
    rfl
  · obtain ⟨l, q, hs, _, qs, rfl, hl, hq, hP, T, hne, h1k, hq1k, _, k⟩ := h
    refine' ⟨_, PSs.nox (pss_cons (ps_if (pt_not (pt_val (pe_call GL (hr.mono (by decide)) rfl gLs kL bL .nil pass0 (pa_cons (pv 1) pa_nil)))) pss_never pss_nil)
      (pss_cons (ps_set (i := 2) scPathsC.nd rfl (.inr rfl) ?dc)
      (pss_cons (ps_set (i := 3) scPathsC.nd rfl (.inl rfl) (pe_lst pa_nil))
      (pss_cons (ps_for PassesOwn.never rfl (pi_enumA rfl gE (pa_cons (pv 1) pa_nil)) (pg_tup rfl (pgs_cons (pg_name (i := 4) scPathsC.nd rfl (.inl rfl)) (pgs_cons (pg_name (i := 5) scPathsC.nd rfl (.inl rfl)) pgs_nil)))
        (pss_cons (ps_if (PW.pt (pw_or (pt_not (pt_val (pe_call GP hr rfl gP kP bP .nil pass0 (pa_cons (pv 5) pa_nil)))) (pw_or1 (pt_not (pt_val (pe_callB (cr_all rfl) (by rfl) gA (by decide +kernel) (pa_cons ?lc pa_nil))))))) pss_never pss_nil)
        (pss_cons (ps_if (pt_cmpR op_eq (pe_dget (hu_of hr) (pv 2) (pe_ix ix_tup (pv 5) pe_int (fun _ _ => rfl)) (fun _ _ => rfl)) (pe_dget (hu_of hr) (pv 2) (pe_ix ix_tup (pv 5) pe_int (fun _ _ => rfl)) (fun _ _ => rfl)) (nomark _)) pss_never pss_nil)
        (pss_cons (ps_set (i := 2) scPathsC.nd rfl (.inr rfl) (pe_call GJ (hr.mono (by decide)) rfl gJ kJ bJ .nil pass0 (pa_cons (pv 2) (pa_cons (pe_dget (hu_of hr) (pv 2) (pe_ix ix_tup (pv 5) pe_int (fun _ _ => rfl)) (fun _ _ => rfl)) (pa_cons (pe_dget (hu_of hr) (pv 2) (pe_ix ix_tup (pv 5) pe_int (fun _ _ => rfl)) (fun _ _ => rfl)) pa_nil)))))
        (pss_one (ps_expr (pe_bm PySem.F.plainAttrs_list PySem.F.slot_list_append PySem.F.type_list_append mt_append (pv 3) (pa_cons (pe_call GB (hr.mono (by decide)) rfl gB kB bB .nil pass0 (pa_cons (pe_ix ix_tup (pv 5) pe_int (fun _ _ => rfl)) (pa_cons (pe_ix ix_tup (pv 5) pe_int (fun _ _ => rfl)) pa_nil))) pa_nil))))))))
      (pss_cons (ps_for PassesOwn.never rfl (pi_list (pv 0)) (pg_name (i := 6) scPathsC.nd rfl (.inl rfl))
        (pss_one (ps_if (pt_cmpR op_ne (pe_dget (hu_of hr) (pv 2) (pv 6) (fun _ _ => rfl)) (pe_dget (hu_of hr) (pv 2) (pe_ix ix_list (pv 0) pe_int (fun _ _ => rfl)) (fun _ _ => rfl)) (nomark _)) pss_never pss_nil)))
      (pss_one (ps_ret (pe_callB Srs.cr_sortedPT (by rfl) gS (by decide +kernel) (pa_cons (pv 3) pa_nil))))))))), ?rd⟩
    case dc =>
      exact pe_dc (own := [("house", 6)]) (g := gName 6) (tt := tYes) (tk := tVar 6) (tv := tVar 6) rfl scPathsC.nd (pi_list (pv 0))
        (blkOk_by (own := [("house", 6)]) (N := ["houses", "paths", "group", "told", "index", "pair", "house"]) (sc := defScope sPathsC) (by decide +kernel)) (fun _ _ _ _ _ => pg_name (i := 6) scPathsC.nd rfl (.inl rfl)) (fun _ _ _ _ _ => pts_nil) (fun _ _ _ _ _ => pv 6) (fun _ _ _ _ _ => pv 6)
    case lc =>
      refine pe_lc (own := [("house", 6)]) (g := gName 6) (tt := tYes) (te := tAndV (tCB (rIsi K) (tCons (tVar 6) (tCons (tC (.ty "str")) tNil))) (tDIn (tVar 6) (tVar 2))) rfl scPathsC.nd (pi_tup (pv 5))
        (blkOk_by (own := [("house", 6)]) (N := ["houses", "paths", "group", "told", "index", "pair", "house"]) (sc := defScope sPathsC) (by decide +kernel)) (fun _ _ _ _ _ => pg_name (i := 6) scPathsC.nd rfl (.inl rfl)) (fun _ _ _ _ _ => pts_nil) ?_
      intro _ _ _ _ _
      exact pe_and (pe_callB call_isi (by rfl) gI (by decide +kernel) (pa_cons (pv 6) (pa_cons (pe_bltn (v := .ty "str") rfl gT (by decide +kernel) rfl) pa_nil))) (pe_one (pe_cmp (pc_din (hu_of hr) (pv 6) (pv 2)) rfl))
    obtain ⟨I, I0, I1, I2⟩ := T.groups
    have hnd := T.nd
    refine ⟨_, rfl, _, "list", rfl, .lst hq, fun H1 x1 => ⟨_, rfl, ?_⟩⟩
    refine ite2 (fun q => absurd q (by decide)) (fun _ => ?_)
    refine ⟨_, rfl, l, rfl, ⟨_, SqL.of (x1 _ _ hl)⟩, fun D hD => ?_⟩
    refine dc_it (walk_list (xs := hs.map V.str)) (fun i H' => Evl.Ex H H' ∧ H' D = some (.dK (tab (hs.take i) fun x => .str x))) ?_ ?_ ?_ ?_
    · exact ⟨x1.trans (Evl.Ex.new hD), upd_same⟩
    · intro i H' _ hp
      exact SqL.of (hp.1 _ _ hl)
    · rintro i y H2 H3 hi ⟨e1, e2⟩ ⟨rfl, hy⟩
      rw [List.length_map] at hi
      obtain ⟨h, hh⟩ := getD_of hi
      rw [List.getElem?_map, hh] at hy
      cases hy
      have hni : h ∉ hs.take i := fun z => by
        obtain ⟨j, hj⟩ := List.mem_iff_getElem?.mp z
        have lt : j < i := by
          have := (List.getElem?_eq_some_iff.mp hj).1
          rw [List.length_take] at this
          omega
        rw [List.getElem?_take_of_lt lt] at hj
        have := (List.getElem?_inj (by omega) hnd).mp (hj.trans hh.symm)
        omega
      refine ⟨rfl, _, rfl, _, rfl, _, Sum.inr h, rfl, e2, ?_, ex_upd e1 ?_, ?_⟩
      · rw [tab_length, List.length_take]
        exact Nat.lt_of_le_of_lt (show min i hs.length ≤ 1000 by omega) (by decide)
      · cases q0 : H D with
        | none => rfl
        | some o => rw [x1 _ _ q0] at hD; cases hD
      · rw [upd_same, put_new hni, List.take_add_one, hh]
        congr 2
        exact tab_congr fun x _ => by split <;> simp_all
    · rintro H2 ⟨x2, e2⟩
      rw [List.length_map, List.take_length] at e2
      refine ⟨by show 0 ≤ sizeLine; decide, fun fo hfo => ?_⟩
      have hfoH : H fo = none := by
        cases q0 : H fo with
        | none => rfl
        | some o => rw [x2 _ _ q0] at hfo; cases hfo
      have hDf : D ≠ fo := ne_of_none e2 hfo
      refine ⟨_, rfl, false, q, refsL qs, rfl, SqL.of (by rw [upd_ne (ne_of_none (x2 _ _ hq) hfo)]; exact x2 _ _ hq), ?_⟩
      refine for_it (walk_enumA (t := false) (xs := refsL qs)) (fun i σ H' => ∃ G g v4 v5 v6 zs, σ = [some (.ref l), some (.ref q), some (.ref G), some (.ref fo), v4, v5, v6] ∧ Evl.Ex H H' ∧ H' G = some (.dK (tab hs fun x => .str (g x))) ∧ I ((qs.map (·.2)).take i) g ∧
        H' fo = some (.lst (refsL zs)) ∧ PrsAt H' zs ∧ zs.map (·.2) = ((qs.map (·.2)).take i).map ordP ∧ ∀ t ∈ zs, H t.1 = none) ?_ ?_ ?_ ?_
      · exact ⟨D, id, none, none, none, [], rfl, x2.trans (Evl.Ex.new hfo), by rw [upd_ne hDf]; exact e2, I0 _ (fun x _ y _ e => e), upd_same, fun t ht => absurd ht (by simp), rfl, fun t ht => absurd ht (by simp)⟩
      · rintro i σ H' _ ⟨G, g, v4, v5, v6, zs, rfl, f1, _⟩
        exact SqL.of (f1 _ _ hq)
      · rintro i y σ H3 H4 hi ⟨G, g, v4, v5, v6, zs, rfl, f1, f2, f3, f4, f5, f6, f7⟩ ⟨TT, u, z, rfl, hTT, rfl, hu, hz⟩
        injection hu with hu
        subst hu
        have hz : (refsL qs)[i]? = some z := hz
        unfold refsL at hi hz
        rw [List.length_map] at hi
        obtain ⟨t, ht⟩ := getD_of hi
        rw [List.getElem?_map, ht] at hz
        cases hz
        have tm := List.mem_of_getElem? ht
        obtain ⟨Ta, a, b⟩ := t
        have hab : (a, b) ∈ qs.map (·.2) := List.mem_map.mpr ⟨_, tm, rfl⟩
        obtain ⟨m1, m2⟩ := T.mem (.inl hab)
        have tk : (qs.map (·.2)).take (i + 1) = (qs.map (·.2)).take i ++ [(a, b)] := by rw [List.take_add_one, List.getElem?_map, ht]; rfl
        have hnt : (a, b) ∉ (qs.map (·.2)).take i := fun z => by
          obtain ⟨j, hj⟩ := List.mem_iff_getElem?.mp z
          have lt : j < i := by
            have := (List.getElem?_eq_some_iff.mp hj).1
            rw [List.length_take] at this
            omega
          rw [List.getElem?_take_of_lt lt] at hj
          have e9 : (qs.map (·.2))[i]? = some (a, b) := by rw [List.getElem?_map, ht]; rfl
          have := (List.getElem?_inj (by rw [List.length_map]; omega) T.np).mp (hj.trans e9.symm)
          omega
        obtain ⟨gne, gnext⟩ := I1 _ g a b f3 hab (fun q hq => List.mem_of_mem_take hq) hnt
        refine ⟨TT, _, rfl, SqT.of upd_same, rfl, _, _, rfl, _, _, rfl, rfl, ?_⟩
        have x4 : Evl.Ex H (upd H3 TT (.tup [.int (i : Nat), .ref Ta])) := f1.trans (Evl.Ex.new hTT)
        have y4 : Evl.Ex H3 (upd H3 TT (.tup [.int (i : Nat), .ref Ta])) := Evl.Ex.new hTT
        generalize upd H3 TT (.tup [.int (i : Nat), .ref Ta]) = H4 at x4 y4 ⊢
        have hTa : ∀ {H'}, Evl.Ex H H' → H' Ta = some (.tup [.str a, .str b]) := fun e => e _ _ (hP _ tm)
        refine ⟨_, rfl, Ta, .str a, .str b, rfl, hTa x4, fun H5 x5 => ⟨_, rfl, ?_⟩⟩
        refine ite2 (fun q => absurd q (by decide)) (fun _ => ?_)
        have hTa5 : H5 Ta = some (.tup [.str a, .str b]) := x5 _ _ (hTa x4)
        refine ⟨_, rfl, Ta, rfl, ⟨_, SqT.of hTa5⟩, fun LL hLL => ?_⟩
        have hG5 : H5 G = some (.dK (tab hs fun x => .str (g x))) := x5 _ _ (y4 _ _ f2)
        have hGL : G ≠ LL := ne_of_none hG5 hLL
        refine lc_it (walk_tup (xs := [.str a, .str b])) (fun j H' => Evl.Ex H5 H' ∧ H' LL = some (.lst ((List.replicate j true).map V.bl))) ⟨Evl.Ex.new hLL, upd_same⟩ (fun j H' _ hp => SqT.of (hp.1 _ _ hTa5)) (fun j x H6 H7 hj hp hy => ?_) (fun H6 hp => ?_)
        · obtain ⟨g1, g2⟩ := hp
          obtain ⟨rfl, hx⟩ := hy
          obtain ⟨h, rfl, hm⟩ : ∃ h, x = .str h ∧ h ∈ hs := by
            have hj : j < 2 := hj
            have : j = 0 ∨ j = 1 := by omega
            rcases this with rfl | rfl
            · exact ⟨a, (Option.some.inj hx).symm, m1⟩
            · exact ⟨b, (Option.some.inj hx).symm, m2⟩
          have hG6 : DGet H7 G (kV (Sum.inr h)) (some (.str (g h))) := by have := DGet.k (k := Sum.inr h) (g1 _ _ hG5); rw [val_in hm] at this; exact this
          refine ⟨rfl, _, rfl, _, _, _, _, _, rfl, .ty _, (Pl.str h : Pl H7 (.str h) "str").ty, (Pl.str h : Pl H7 (.str h) "str").one "str", _, rfl, iteT ⟨_, rfl, _, rfl, G, _, rfl, hG6, _, g2, ?_, ex_upd g1 hLL, ?_⟩⟩
          · rw [List.length_map, List.length_replicate]
            exact Nat.lt_of_lt_of_le (show j < 2 from hj) (by decide)
          · rw [upd_same, List.replicate_succ', List.map_append]
            rfl
        · obtain ⟨g1, g2⟩ := hp
          refine ⟨LL, List.replicate 2 true, rfl, SqL.of g2, _, rfl, ?_⟩
          refine iteF ?_
          have x6 : Evl.Ex H H6 := (x4.trans x5).trans g1
          have hG6 : H6 G = some (.dK (tab hs fun x => .str (g x))) := g1 _ _ hG5
          have ga : DGet H6 G (kV (Sum.inr a)) (some (.str (g a))) := by have := DGet.k (k := Sum.inr a) hG6; rw [val_in m1] at this; exact this
          have gb : DGet H6 G (kV (Sum.inr b)) (some (.str (g b))) := by have := DGet.k (k := Sum.inr b) hG6; rw [val_in m2] at this; exact this
          have t6 := hTa x6
          have at0 : ∀ {H'}, H' Ta = some (.tup [.str a, .str b]) → SqT K H' Ta [.str a, .str b] := fun e => SqT.of e
          refine ⟨_, rfl, _, rfl, Ta, _, _, _, rfl, rfl, at0 t6, atI_nat (j := 0) rfl, G, _, rfl, ga, _, rfl, _, rfl, Ta, _, _, _, rfl, rfl, at0 t6, atI_nat (j := 1) rfl, G, _, rfl, gb, rfl, _, rfl, ?_⟩
          refine ite2 (fun q => absurd (of_decide_eq_true q) (fun z => gne (V.str.inj z))) (fun _ => ?_)
          refine ⟨_, rfl, _, rfl, _, rfl, Ta, _, _, _, rfl, rfl, at0 t6, atI_nat (j := 0) rfl, G, _, rfl, ga, _, rfl, _, rfl, Ta, _, _, _, rfl, rfl, at0 t6, atI_nat (j := 1) rfl, G, _, rfl, gb, ?_⟩
          refine ⟨G, g a, g b, hs, g, rfl, hG6, hnd, h1k, fun G' H7 hG' x7 hG7 => ?_⟩
          have x6' : Evl.Ex H4 H6 := x5.trans g1
          have x47 : Evl.Ex H3 H7 := y4.trans (x6'.trans x7)
          have hf7 : H7 fo = some (.lst (refsL zs)) := x47 _ _ f4
          have t7 : H7 Ta = some (.tup [.str a, .str b]) := hTa (x6.trans x7)
          have hzl : zs.length = i := by
            have := congrArg List.length f6
            rw [List.length_map, List.length_map, List.length_take, List.length_map] at this
            omega
          refine ⟨_, rfl, .inl ⟨rfl, _, SqL.of hf7⟩, _, rfl, Ta, _, _, _, rfl, rfl, at0 t7, atI_nat (j := 0) rfl, _, rfl, Ta, _, _, _, rfl, rfl, at0 t7, atI_nat (j := 1) rfl, a, b, rfl, fun U hU => ?_⟩
          have hfU : fo ≠ U := ne_of_none hf7 hU
          have hUH : H U = none := by
            cases q0 : H U with
            | none => rfl
            | some o => rw [x7 _ _ (x6 _ _ q0)] at hU; cases hU
          refine ⟨fo, _, _, rfl, rfl, by rw [upd_ne hfU]; exact hf7, ?_, ?_⟩
          · unfold refsL
            rw [List.length_map, hzl]
            exact Nat.lt_of_le_of_lt (show i ≤ 1000 by omega) (by decide)
          · refine ⟨G', fun x => if g x = g b then g a else g x, some (.int (i : Nat)), some (.ref Ta), _, zs ++ [(U, ordP (a, b))], rfl, ?_⟩
            refine ⟨ex_upd ((x6.trans x7).trans (Evl.Ex.new hU)) hfoH, ?_, ?_, ?_, fun t ht => ?_, ?_, fun t ht => ?_⟩
            · have hGf : G' ≠ fo := fun z => by rw [z, x6' _ _ (y4 _ _ f4)] at hG'; cases hG'
              rw [upd_ne hGf, upd_ne (ne_of_none hG7 hU)]
              exact hG7
            · rw [tk]
              exact gnext _ fun x hx => rfl
            · unfold refsL
              rw [upd_same, List.map_append]
              rfl
            · rcases List.mem_append.mp ht with ht | ht
              · have := x47 _ _ (f5 t ht)
                rw [upd_ne (fun z => by rw [z, hf7] at this; cases this), upd_ne (ne_of_none this hU)]
                exact this
              · simp only [List.mem_singleton] at ht
                subst ht
                rw [upd_ne hfU.symm]
                exact upd_same
            · rw [List.map_append, f6, tk, List.map_append]
              rfl
            · rcases List.mem_append.mp ht with ht | ht
              · exact f7 t ht
              · simp only [List.mem_singleton] at ht
                subst ht
                exact hUH
      · rintro σ H3 ⟨G, g, v4, v5, v6, zs, rfl, f1, f2, f3, f4, f5, f6, f7⟩
        have lenR : (refsL qs).length = (qs.map (·.2)).length := by unfold refsL; rw [List.length_map, List.length_map]
        rw [lenR, List.take_length] at f3 f6
        have same := I2 _ g f3 (fun _ h => h)
        obtain ⟨h0, hh0⟩ : ∃ h0, hs[0]? = some h0 := getD_of (List.length_pos_iff.mpr hne)
        have m0 : h0 ∈ hs := List.mem_of_getElem? hh0
        refine ⟨_, rfl, l, rfl, ⟨_, SqL.of (f1 _ _ hl)⟩, ?_⟩
        refine for_it (walk_list (xs := hs.map V.str)) (fun i σ H' => H' = H3 ∧ ∃ v6, σ = [some (.ref l), some (.ref q), some (.ref G), some (.ref fo), v4, v5, v6]) ⟨rfl, _, rfl⟩ ?_ ?_ ?_
        · rintro i σ H' _ ⟨rfl, _⟩
          exact SqL.of (f1 _ _ hl)
        · rintro i y σ H4 H5 hi ⟨rfl, w6, rfl⟩ ⟨rfl, hy⟩
          rw [List.length_map] at hi
          obtain ⟨h, hh⟩ := getD_of hi
          rw [List.getElem?_map, hh] at hy
          cases hy
          have hm := List.mem_of_getElem? hh
          have ga : DGet H5 G (kV (Sum.inr h)) (some (.str (g h))) := by have := DGet.k (k := Sum.inr h) f2; rw [val_in hm] at this; exact this
          have gb : DGet H5 G (kV (Sum.inr h0)) (some (.str (g h0))) := by have := DGet.k (k := Sum.inr h0) f2; rw [val_in m0] at this; exact this
          have e0 : (hs.map V.str)[0]? = some (.str h0) := by rw [List.getElem?_map, hh0]; rfl
          refine ⟨_, rfl, _, rfl, G, _, rfl, ga, _, rfl, _, rfl, l, _, _, _, rfl, rfl, SqL.of (f1 _ _ hl), atI_nat (j := 0) e0, G, _, rfl, gb, rfl, _, rfl, ?_⟩
          rw [same h hm h0 m0]
          refine ite2 (fun q => absurd q (by simp)) (fun _ => ⟨rfl, _, rfl⟩)
        · rintro σ H4 ⟨rfl, w6, rfl⟩
          refine ⟨_, rfl, fo, refsL zs, prOf H4, rfl, SqL.of f4, fun x hx => ?_, fun ys p hys hsr hp => ?_⟩
          · obtain ⟨t, ht, rfl⟩ := List.mem_map.mp hx
            exact ⟨t.1, rfl, by rw [prOf_at (f5 t ht)]; exact f5 t ht⟩
          · obtain ⟨ws, hws, rfl⟩ := snd_refs hys
            have hpH : H p = none := by
              cases q0 : H p with
              | none => rfl
              | some o => rw [f1 _ _ q0] at hp; cases hp
            have f5' : PrsAt H4 ws := fun t ht => f5 t (hws.mem_iff.mp ht)
            refine k p ws _ hpH (f1.trans (Evl.Ex.new hp)) upd_same (f5'.ex (Evl.Ex.new hp)) ?_ ?_ (fun t ht => f7 t (hws.mem_iff.mp ht))
            · rw [← f6]
              exact hws.map _
            · rw [← prOf_refs f5']
              exact List.pairwise_map.mpr hsr
end
end K07

namespace K07
open PySem PySem.Spec PyProof.Rows L2 Tr Sq Dk
/-! ### the class Village: made of a tree; houses(), near() -/
abbrev FnM (K : PySem.W.Frag) (x q : Str) (st : Stmt) (f : Addr) (fd : FuncData) : Prop := FunD K x q (defArgs st) (defBody st) (defScope st) [] [] f fd
def meth (i : Nat) : Stmt := (C8.clsBody (top 20)).getD i (.Pass ⟨0, 0, 0, 0⟩)
abbrev sInit : Stmt := meth 0
abbrev sHouses : Stmt := meth 1
abbrev sNearM : Stmt := meth 3
/-- a village: its houses in order, its paths in order, what lies beside each -/
structure VilD where
  dx : Addr
  a : Addr
  b : Addr
  d : Addr
  zs : PrL
  ad : Str → Addr
structure Vil (H : Hp) (C v : Addr) (hs : List Str) (ps : Prs) (m : VilD) : Prop where
  at_ : H v = some (.ins C m.dx [("_houses", .ref m.a), ("_paths", .ref m.b), ("_near", .ref m.d)])
  la : H m.a = some (.lst (hs.map V.str))
  lb : H m.b = some (.lst (refsL m.zs))
  pr : PrsAt H m.zs
  eq : m.zs.map (·.2) = ps
  nr : NearAt H m.d hs m.ad (nearL ps)
theorem NearAt.ex {H H' : Hp} {d : Addr} {hs : List Str} {ad : Str → Addr} {g : Str → List Str} (h : NearAt H d hs ad g) (e : Evl.Ex H H') : NearAt H' d hs ad g := ⟨e _ _ h.1, fun x hx => e _ _ (h.2 x hx)⟩
theorem Vil.ex {H H' : Hp} {C v : Addr} {hs : List Str} {ps : Prs} {m : VilD} (h : Vil H C v hs ps m) (e : Evl.Ex H H') : Vil H' C v hs ps m :=
  ⟨e _ _ h.at_, e _ _ h.la, e _ _ h.lb, h.pr.ex e, h.eq, h.nr.ex e⟩
/-- all that a village holds is new -/
structure FreshV (H : Hp) (hs : List Str) (m : VilD) : Prop where
  a : H m.a = none
  b : H m.b = none
  d : H m.d = none
  z : ∀ t ∈ m.zs, H t.1 = none
  ad : ∀ h ∈ hs, H (m.ad h) = none
def spInit (K : PySem.W.Frag) : Sp := fun vs H Q _ => ∃ (v l q C dx : Addr) (hs : List Str) (qs : PrL), vs = [.ref v, .ref l, .ref q] ∧ H v = some (.ins C dx []) ∧ Cls K C ∧ NoAttr K C "_houses" ∧ NoAttr K C "_paths" ∧ NoAttr K C "_near" ∧ H l = some (.lst (hs.map V.str)) ∧ H q = some (.lst (refsL qs)) ∧ PrsAt H qs ∧ Tree hs (qs.map (·.2)) ∧
  hs ≠ [] ∧ hs.length ≤ 12 ∧ qs.length ≤ 12 ∧ (∀ h ∈ hs, h ∈ names12) ∧
  ∀ (H' : Hp) (hs' : List Str) (ps' : Prs) (m : VilD), (∀ b o, b ≠ v → H b = some o → H' b = some o) → Vil H' C v hs' ps' m → hs'.Perm hs → sortedS hs' = true → ps'.Perm ((qs.map (·.2)).map ordP) → ps'.Pairwise (fun x y => Srs.lexT y x = false) → Tree hs' ps' → FreshV H hs' m → Q .non H'
theorem none_of {H H' : Hp} {b : Addr} (h : ∀ o, H b = some o → H' b = some o) (e : H' b = none) : H b = none := by
  cases z : H b with
  | none => rfl
  | some o => rw [h o z] at e; cases e
theorem put2 {x y : V} : putF "_paths" y [(("_houses" : Str), x)] = [(("_houses" : Str), x), (("_paths" : Str), y)] := rfl
theorem put3 {x y z : V} : putF "_near" z [(("_houses" : Str), x), (("_paths" : Str), y)] = [(("_houses" : Str), x), (("_paths" : Str), y), (("_near" : Str), z)] := rfl
theorem ordP_or (q : Str × Str) : ordP q = q ∨ ordP q = (q.2, q.1) := by
  unfold ordP
  split
  · exact .inl rfl
  · exact .inr rfl
section
variable {P : Program} {w : World} {K : PySem.W.Frag} {mg : Str → Option Value} {base : Heap}
theorem scInit : FnScope ["self", "houses", "paths"] ["self", "houses", "paths"] (defScope sInit) := ⟨rfl, rfl, rfl, by decide +kernel, rfl, by decide +kernel, by decide +kernel⟩
theorem ok_init {f fC fP fN : Addr} {fd fdC fdP fdN : FuncData} (F : FnM K "__init__" "Village.__init__" sInit f fd)
    (GC : FnOk P w K mg base CX0 2 fC fdC ["houses"] spCheck) (bC : L2.Binds K fdC ["houses"] []) (kC : PySem.W.keepIn K (.ref fC) = true) (gC : mg "check_houses" = some (.ref fC))
    (GP : FnOk P w K mg base CX0 3 fP fdP ["houses", "paths"] spPathsC) (bP : L2.Binds K fdP ["houses", "paths"] []) (kP : PySem.W.keepIn K (.ref fP) = true) (gP : mg "checked_paths" = some (.ref fP))
    (GN : FnOk P w K mg base CX0 1 fN fdN ["houses", "paths"] spNear) (bN : L2.Binds K fdN ["houses", "paths"] []) (kN : PySem.W.keepIn K (.ref fN) = true) (gN : mg "near_houses" = some (.ref fN))
    (gS : mg "sorted" = none) : FnOk P w K mg base CX0 4 f fd ["self", "houses", "paths"] (spInit K) := by
  refine F.ok scInit (fun vs H Q E h => ?_) (fun cdv A outer s H vs Q E hr h => ?_)
  · obtain ⟨v, l, q, C, dx, hs, qs, rfl, _⟩ := h
    rfl
  · obtain ⟨v, l, q, C, dx, hs, qs, rfl, hv, cl, n1, n2, n3, hl, hq, hP, T, hne, h12, q12, hgood, k⟩ := h
    refine ⟨_, PSs.nox (pss_cons (ps_expr (pe_call GC (hr.mono (by decide)) rfl gC kC bC .nil pass0 (pa_cons (pv 1) pa_nil)))
      (pss_cons (ps_fld (pv 0) (pe_callB cr_sortedS (by rfl) gS (by decide +kernel) (pa_cons (pv 1) pa_nil)) rfl)
      (pss_cons (ps_fld (pv 0) (pe_call GP hr rfl gP kP bP .nil pass0 (pa_cons (pe_fld (pv 0) rfl) (pa_cons (pv 2) pa_nil))) rfl)
      (pss_one (ps_fld (pv 0) (pe_call GN (hr.mono (by decide)) rfl gN kN bN .nil pass0 (pa_cons (pe_fld (pv 0) rfl) (pa_cons (pe_fld (pv 0) rfl) pa_nil))) rfl))))), ?_⟩
    refine ⟨_, rfl, l, hs, rfl, hl, hne, T.nd, Nat.le_trans h12 (by decide), hgood, fun H1 x1 => ?_⟩
    refine ⟨_, rfl, l, hs, rfl, SqL.of (x1 _ _ hl), by omega, fun ys p hys hsr hp => ?_⟩
    have hv1 : H1 v = some (.ins C dx []) := x1 _ _ hv
    have hvp : v ≠ p := ne_of_none hv1 hp
    refine ⟨_, rfl, v, C, dx, [], rfl, by rw [upd_ne hvp]; exact hv1, cl, n1, by decide, ?_⟩
    show tSeq _ _ _ _ (upd (upd H1 p (.lst (ys.map V.str))) v (.ins C dx [("_houses", .ref p)]))
    have keep : ∀ b o, b ≠ v → H b = some o → upd (upd H1 p (.lst (ys.map V.str))) v (.ins C dx [("_houses", .ref p)]) b = some o := fun b o hb e => by
      have := x1 _ _ e
      rw [upd_ne hb, upd_ne (ne_of_none this hp)]
      exact this
    have g1 : upd (upd H1 p (.lst (ys.map V.str))) v (.ins C dx [("_houses", .ref p)]) v = some (.ins C dx [("_houses", .ref p)]) := upd_same
    have g2 : upd (upd H1 p (.lst (ys.map V.str))) v (.ins C dx [("_houses", .ref p)]) p = some (.lst (ys.map V.str)) := by rw [upd_ne hvp.symm]; exact upd_same
    generalize upd (upd H1 p (.lst (ys.map V.str))) v (.ins C dx [("_houses", .ref p)]) = H2 at keep g1 g2
    have hqv : q ≠ v := fun z => by rw [z, hv] at hq; cases hq
    have hqn : ∀ t ∈ qs, t.1 ≠ v := fun t ht z => by have := hP t ht; rw [z, hv] at this; cases this
    have T2 : Tree ys (qs.map (·.2)) := T.perm hys (List.Perm.refl _)
    have hyl : ys.length = hs.length := hys.length_eq
    have yne : ys ≠ [] := fun z => hne (List.length_eq_zero_iff.mp (by rw [← hyl, z]; rfl))
    refine ⟨_, rfl, v, C, dx, _, .ref p, rfl, g1, cl, n1, rfl, _, rfl, p, q, ys, ys, qs, rfl, g2, keep _ _ hqv hq, fun t ht => keep _ _ (hqn t ht) (hP t ht), T2, yne, by omega, by omega, rfl, fun r zs H3 hr3 x3 h3 hP3 hpm hpw hfr => ?_⟩
    have hvr : v ≠ r := ne_of_none g1 hr3
    refine ⟨_, rfl, v, C, dx, [("_houses", .ref p)], rfl, x3 _ _ g1, cl, n2, (by show 1 < 1000; decide), ?_⟩
    rw [put2]
    have k3 : ∀ b o, b ≠ v → H2 b = some o → upd H3 v (.ins C dx [("_houses", .ref p), ("_paths", .ref r)]) b = some o := fun b o hb e => by rw [upd_ne hb]; exact x3 _ _ e
    have k3' : ∀ b o, b ≠ v → H3 b = some o → upd H3 v (.ins C dx [("_houses", .ref p), ("_paths", .ref r)]) b = some o := fun b o hb e => by rw [upd_ne hb]; exact e
    have g4 : upd H3 v (.ins C dx [("_houses", .ref p), ("_paths", .ref r)]) v = some (.ins C dx [("_houses", .ref p), ("_paths", .ref r)]) := upd_same
    generalize upd H3 v (.ins C dx [("_houses", .ref p), ("_paths", .ref r)]) = H4 at k3 k3' g4
    have g5 : H4 p = some (.lst (ys.map V.str)) := k3 _ _ hvp.symm g2
    have g6 : H4 r = some (.lst (refsL zs)) := k3' _ _ hvr.symm h3
    have zn : ∀ t ∈ zs, t.1 ≠ v := fun t ht z => by have := hfr t ht; rw [z, g1] at this; cases this
    have hP4 : PrsAt H4 zs := fun t ht => k3' _ _ (zn t ht) (hP3 t ht)
    have T3 : Tree ys (zs.map (·.2)) := (T2.turn ordP ordP_or).perm (List.Perm.refl _) hpm
    have zl : zs.length = qs.length := by have := hpm.length_eq; rw [List.length_map, List.length_map, List.length_map] at this; exact this
    refine ⟨_, rfl, v, C, dx, _, .ref p, rfl, g4, cl, n1, rfl, _, rfl, v, C, dx, _, .ref r, rfl, g4, cl, n2, rfl, p, r, ys, zs, rfl, g5, g6, hP4, T3.nd, by omega, by omega, fun t ht => T3.mem (.inl (List.mem_map.mpr ⟨t, ht, rfl⟩)), fun d ad H5 hd had x5 hN => ?_⟩
    refine ⟨_, rfl, v, C, dx, [("_houses", .ref p), ("_paths", .ref r)], rfl, x5 _ _ g4, cl, n3, (by show 2 < 1000; decide), ?_⟩
    rw [put3]
    have k5 : ∀ b o, b ≠ v → H5 b = some o → upd H5 v (.ins C dx [("_houses", .ref p), ("_paths", .ref r), ("_near", .ref d)]) b = some o := fun b o hb e => by rw [upd_ne hb]; exact e
    have nd : d ≠ v := (ne_of_none g4 hd).symm
    have nad : ∀ h ∈ ys, ad h ≠ v := fun h hh => (ne_of_none g4 (had h hh)).symm
    refine k _ ys (zs.map (·.2)) ⟨dx, p, r, d, zs, ad⟩ (fun b o hb e => k5 _ _ hb (x5 _ _ (k3 _ _ hb (keep _ _ hb e)))) ⟨upd_same, k5 _ _ hvp.symm (x5 _ _ g5), k5 _ _ hvr.symm (x5 _ _ g6), fun t ht => k5 _ _ (zn t ht) (x5 _ _ (hP4 t ht)), rfl, k5 _ _ nd hN.1, fun h hh => k5 _ _ (nad h hh) (hN.2 h hh)⟩ hys hsr hpm hpw T3 ⟨?_, ?_, ?_, fun t ht => ?_, fun h hh => ?_⟩
    · exact none_of (fun o e => x1 _ _ e) hp
    · exact none_of (fun o e => keep _ _ hvr.symm e) hr3
    · exact none_of (fun o e => k3 _ _ nd (keep _ _ nd e)) hd
    · exact none_of (fun o e => keep _ _ (zn t ht) e) (hfr t ht)
    · exact none_of (fun o e => k3 _ _ (nad h hh) (keep _ _ (nad h hh) e)) (had h hh)
theorem scHouses : FnScope ["self"] ["self"] (defScope sHouses) := ⟨rfl, rfl, rfl, by decide +kernel, rfl, by decide +kernel, by decide +kernel⟩
def spHouses (K : PySem.W.Frag) : Sp := fun vs H Q _ => ∃ (v C : Addr) (hs : List Str) (ps : Prs) (m : VilD), vs = [.ref v] ∧ Cls K C ∧ NoAttr K C "_houses" ∧ Vil H C v hs ps m ∧ ∀ p, H p = none → Q (.ref p) (upd H p (.lst (hs.map V.str)))
theorem ok_houses {f : Addr} {fd : FuncData} (F : FnM K "houses" "Village.houses" sHouses f fd) (gL : mg "list" = none) : FnOk P w K mg base CX0 1 f fd ["self"] (spHouses K) := by
  refine F.ok scHouses (fun vs H Q E h => ?_) (fun cdv A outer s H vs Q E hr h => ?_)
  · obtain ⟨v, C, hs, ps, m, rfl, _⟩ := h
    rfl
  · obtain ⟨v, C, hs, ps, m, rfl, cl, n1, V, k⟩ := h
    refine ⟨_, PSs.nox (pss_one (ps_ret (pe_callTy call_list_of rfl gL (by decide +kernel) (pa_cons (pe_fld (pv 0) rfl) pa_nil)))), ?_⟩
    exact ⟨_, rfl, v, C, _, _, _, rfl, V.at_, cl, n1, rfl, m.a, _, rfl, .inl (SqL.of V.la), fun p hp => k p hp⟩
theorem scNearM : FnScope ["self"] ["self"] (defScope sNearM) := ⟨rfl, rfl, rfl, by decide +kernel, rfl, by decide +kernel, by decide +kernel⟩
def spNearM (K : PySem.W.Frag) : Sp := fun vs H Q _ => ∃ (v C : Addr) (hs : List Str) (ps : Prs) (m : VilD), vs = [.ref v] ∧ Cls K C ∧ NoAttr K C "_near" ∧ Vil H C v hs ps m ∧ Q (.ref m.d) H
theorem ok_nearM {f : Addr} {fd : FuncData} (F : FnM K "near" "Village.near" sNearM f fd) : FnOk P w K mg base CX0 1 f fd ["self"] (spNearM K) := by
  refine F.ok scNearM (fun vs H Q E h => ?_) (fun cdv A outer s H vs Q E hr h => ?_)
  · obtain ⟨v, C, hs, ps, m, rfl, _⟩ := h
    rfl
  · obtain ⟨v, C, hs, ps, m, rfl, cl, n1, V, k⟩ := h
    refine ⟨_, PSs.nox (pss_one (ps_ret (pe_fld (pv 0) rfl))), ?_⟩
    exact ⟨_, rfl, v, C, _, _, _, rfl, V.at_, cl, n1, rfl, k⟩
end
end K07

/-! a loop over what is either a list or a tuple; law-independent. -/
namespace Sq
open PySem PySem.Spec PyProof.Rows L2
def ItQ (K : PySem.W.Frag) : Bool → Addr → It
  | true, a => Itt K a
  | false, a => Itl K a
def iSq (K : PySem.W.Frag) (te : TE) : TI := fun σ H R => te σ H fun x H1 => ∃ t a xs, x = .ref a ∧ SqK K H1 t a xs ∧ R (ItQ K t a) H1
section
variable {X : Cx} {tg : Expr}
theorem pi_sq {l : Expr} {tl : TE} (hl : PE X l tl) : PI X tg l (iSq X.K tl) := by
  refine ⟨fun pins s σ H R I h => ?_⟩
  refine thn (hl.run pins s σ H _ I h) fun v s1 ⟨x, H1, I1, r1, t, a, xs, e, hq, q⟩ => ?_
  subst e
  cases r1
  have fresh : ∀ b ∈ [s1.heap.objs.size], FpOk X pins H1 b := fun b hb => by
    obtain rfl : b = s1.heap.objs.size := by simpa using hb
    exact I1.fpOk (Nat.le_refl _) (I1.hok.fresh (Nat.le_refl _))
  cases t with
  | false =>
    obtain ⟨its, rv, p, hz⟩ := I1.list hq
    refine wpAny_pyIter_list p.isList ?_
    exact ⟨s1.heap.objs.size, [s1.heap.objs.size], _, _, H1, rfl, I1.kept (t' := s1.toks) fun b o e => Heap.get?_push_of_some _ e, turn_list a _, ⟨_, Heap.get?_push_size _ rfl, rfl, rfl⟩, fresh, q⟩
  | true =>
    obtain ⟨its, rv, p, hz⟩ := I1.tuple hq
    refine wpAny_pyIter_tuple (show s1.heap.IsTuple a its.toArray from p) ?_
    exact ⟨s1.heap.objs.size, [s1.heap.objs.size], _, _, H1, rfl, I1.kept (t' := s1.toks) fun b o e => Heap.get?_push_of_some _ e, turn_tuple a _, ⟨_, Heap.get?_push_size _ rfl, rfl, rfl⟩, fresh, q⟩
end
theorem walk_sq {K : PySem.W.Frag} {t : Bool} {a : Addr} {xs : List V} : Walk (ItQ K t a) xs.length (fun H => SqK K H t a xs) (YAt xs) := by
  cases t with
  | false => exact walk_list
  | true => exact walk_tup
end Sq

namespace K07
open PySem PySem.Spec PyProof.Rows L2 Tr Sq Dk
/-! ### _law_loose: a text, a row of texts, a row of such rows -/
/-- a list or a tuple -/
def Lt (H : Hp) (t : Bool) (a : Addr) (xs : List V) : Prop := H a = some (if t = true then .tup xs else .lst xs)
theorem Lt.sq {K : PySem.W.Frag} {H : Hp} {t : Bool} {a : Addr} {xs : List V} (h : Lt H t a xs) : SqK K H t a xs := by
  cases t with
  | false => exact SqL.of h
  | true => exact SqT.of h
theorem Lt.ex {H H' : Hp} {t : Bool} {a : Addr} {xs : List V} (h : Lt H t a xs) (e : Evl.Ex H H') : Lt H' t a xs := e _ _ h
theorem Lt.pl {H : Hp} {t : Bool} {a : Addr} {xs : List V} (h : Lt H t a xs) : ∃ n, Pl H (.ref a) n ∧ lstB n = true := by
  cases t with
  | false => exact ⟨_, .lst h, rfl⟩
  | true => exact ⟨_, .tup h, rfl⟩
theorem Lt.at_ {H : Hp} {t : Bool} {a : Addr} {xs : List V} (h : Lt H t a xs) : ∃ o, H a = some o := ⟨_, h⟩
theorem Lt.ix {K : PySem.W.Frag} {H : Hp} {t : Bool} {a : Addr} {xs : List V} {j : Nat} {v : V} {Q : VK} (h : Lt H t a xs) (hx : xs[j]? = some v) (q : Q v H) : rIx K (.ref a) (.int (j : Nat)) H Q := by
  cases t with
  | false => exact .inl ⟨a, _, (j : Int), _, rfl, rfl, SqL.of h, atI_nat hx, q⟩
  | true => exact .inr (.inl ⟨a, _, (j : Int), _, rfl, rfl, SqT.of h, atI_nat hx, q⟩)
/-- rows of texts -/
abbrev RwsL := List (Addr × List Str)
def RowsAt (H : Hp) (rs : RwsL) : Prop := ∀ r ∈ rs, ∃ t, Lt H t r.1 (r.2.map V.str)
theorem RowsAt.ex {H H' : Hp} {rs : RwsL} (h : RowsAt H rs) (e : Evl.Ex H H') : RowsAt H' rs := fun r hr => (h r hr).imp fun _ z => z.ex e
def spLoose1 : Sp := fun vs H Q _ => ∃ (p : Addr) (x : V) (n : String), vs = [.ref p, x] ∧ Pl H x n ∧ lstB n = false ∧ ∀ H', Evl.Ex H H' → Q x H'
def spLoose2 : Sp := fun vs H Q _ => ∃ (p c : Addr) (n : Nat) (t : Bool) (a : Addr) (l : List Str), vs = [.ref p, .ref a] ∧ StrAt H p c n ∧ n + 1 ≤ 1000000000 ∧ Lt H t a (l.map V.str) ∧ a ≠ p ∧ a ≠ c ∧ l.length ≤ 1000 ∧
  ∀ (t' : Bool) (r : Addr) (H' : Hp), H r = none → Lt H' t' r (l.map V.str) → Kp p c H H' → StrAt H' p c (n + 1) → Q (.ref r) H'
def spLoose3 : Sp := fun vs H Q _ => ∃ (p c : Addr) (n : Nat) (t : Bool) (a : Addr) (rs : RwsL), vs = [.ref p, .ref a] ∧ StrAt H p c n ∧ n + 1 + rs.length ≤ 1000000000 ∧ Lt H t a (rs.map fun r => .ref r.1) ∧ a ≠ p ∧ a ≠ c ∧ RowsAt H rs ∧ (∀ r ∈ rs, r.1 ≠ p ∧ r.1 ≠ c ∧ r.2.length ≤ 1000) ∧ rs.length ≤ 1000 ∧
  ∀ (t' : Bool) (r : Addr) (rs' : RwsL) (H' : Hp), H r = none → (∀ x ∈ rs', H x.1 = none) → Lt H' t' r (rs'.map fun r => .ref r.1) → rs'.map (·.2) = rs.map (·.2) → RowsAt H' rs' → Kp p c H H' → StrAt H' p c (n + 1 + rs.length) → Q (.ref r) H'
def spNo : Sp := fun _ _ _ _ => False
abbrev nmLoo : List Str := ["stream", "thing", "found", "part"]
section
variable {P : Program} {w : World} {K : PySem.W.Frag} {mg : Str → Option Value} {base : Heap}
theorem okNo {f : Addr} {fd : FuncData} {n : Nat} {ps : List Str} : FnOk P w K mg base CX0 n f fd ps spNo := ⟨fun vs H Q E h => h.elim, fun A outer s H args us vs Q E _ _ _ _ h => h.elim⟩
theorem RowsAt.kp {p c : Addr} {H H' : Hp} {rs : RwsL} (h : RowsAt H rs) (e : Kp p c H H') (h2 : ∀ r ∈ rs, r.1 ≠ p ∧ r.1 ≠ c) : RowsAt H' rs := fun r hr => (h r hr).imp fun _ z => e _ _ z (h2 r hr).1 (h2 r hr).2
end
end K07

namespace K07
open PySem PySem.Spec PyProof.Rows L2 Tr Sq
/-! ### _law_v_beside -/
abbrev sBes : Stmt := top 44
def besL (ps : Prs) (h : Str) : List Str := ((ps.filter fun q => decide (q.1 = h)).map (·.2)) ++ ((ps.filter fun q => decide (q.2 = h)).map (·.1))
theorem besL_mem {ps : Prs} {h y : Str} : y ∈ besL ps h ↔ Adj ps h y := by
  unfold besL Adj
  simp only [List.mem_append, List.mem_map, List.mem_filter, decide_eq_true_eq]
  constructor
  · rintro (⟨⟨a, b⟩, ⟨h1, h2⟩, h3⟩ | ⟨⟨a, b⟩, ⟨h1, h2⟩, h3⟩)
    · exact .inl (by simp only at h2 h3; rw [← h2, ← h3]; exact h1)
    · exact .inr (by simp only at h2 h3; rw [← h2, ← h3]; exact h1)
  · rintro (e | e)
    · exact .inl ⟨(h, y), ⟨e, rfl⟩, rfl⟩
    · exact .inr ⟨(y, h), ⟨e, rfl⟩, rfl⟩
def spBes (K : PySem.W.Frag) : Sp := fun vs H Q _ => ∃ (q : Addr) (h : Str) (qs : PrL), vs = [.ref q, .str h] ∧ H q = some (.lst (refsL qs)) ∧ PrsAt H qs ∧ qs.length ≤ 30 ∧
  ∀ (r : Addr) (ys : List Str) (H' : Hp), Evl.Ex H H' → H r = none → H' r = some (.lst (ys.map V.str)) → ys.Perm (besL (qs.map (·.2)) h) → sortedS ys = true → Q (.ref r) H'
section
variable {P : Program} {w : World} {K : PySem.W.Frag} {mg : Str → Option Value} {base : Heap}
theorem scBes : FnScope ["paths", "house", "found", "one", "other"] ["paths", "house"] (defScope sBes) := ⟨rfl, rfl, rfl, by decide +kernel, rfl, by decide +kernel, by decide +kernel⟩
theorem ok_bes {f : Addr} {fd : FuncData} (F : FnP K "_law_v_beside" sBes f fd) (gS : mg "sorted" = none) : FnOk P w K mg base CX0 1 f fd ["paths", "house"] (spBes K) := by
  refine F.ok scBes (fun vs H Q E h => ?_) (fun cdv A outer s H vs Q E hr h => ?_)
  · obtain ⟨q, h, qs, rfl, _⟩ := h
    rfl
  · obtain ⟨q, h, qs, rfl, hq, hP, hl, k⟩ := h
    refine' ⟨_, PSs.nox (pss_cons (ps_set (i := 2) scBes.nd rfl (.inl rfl) (pe_op op_cat ?l1 ?l2)) (pss_one (ps_ret (pe_callB cr_sortedS (by rfl) gS (by decide +kernel) (pa_cons (pv 2) pa_nil))))), ?rd⟩
    case l1 =>
      refine pe_lc (own := [("one", 3), ("other", 4)]) (g := gTup K 2 (gCons (gName 3) (gCons (gName 4) gNil))) (tt := tTest (tOp rEq (tVar 3) (tVar 1))) (te := tVar 4) rfl scBes.nd (pi_list (pv 0))
        (blkOk_by (own := [("one", 3), ("other", 4)]) (N := ["paths", "house", "found", "one", "other"]) (sc := defScope sBes) (by decide +kernel)) (fun _ _ _ _ _ => pg_tup rfl (pgs_cons (pg_name (i := 3) scBes.nd rfl (.inl rfl)) (pgs_cons (pg_name (i := 4) scBes.nd rfl (.inl rfl)) pgs_nil))) (fun _ _ _ _ _ => pts_one (pt_cmpR op_eq (pv 3) (pv 1) (nomark _))) ?_
      intro _ _ _ _ _
      exact pv 4
    case l2 =>
      refine pe_lc (own := [("one", 3), ("other", 4)]) (g := gTup K 2 (gCons (gName 3) (gCons (gName 4) gNil))) (tt := tTest (tOp rEq (tVar 4) (tVar 1))) (te := tVar 3) rfl scBes.nd (pi_list (pv 0))
        (blkOk_by (own := [("one", 3), ("other", 4)]) (N := ["paths", "house", "found", "one", "other"]) (sc := defScope sBes) (by decide +kernel)) (fun _ _ _ _ _ => pg_tup rfl (pgs_cons (pg_name (i := 3) scBes.nd rfl (.inl rfl)) (pgs_cons (pg_name (i := 4) scBes.nd rfl (.inl rfl)) pgs_nil))) (fun _ _ _ _ _ => pts_one (pt_cmpR op_eq (pv 4) (pv 1) (nomark _))) ?_
      intro _ _ _ _ _
      exact pv 3
    have len1 : ∀ i, (((qs.map (·.2)).take i).filter fun q => decide (q.1 = h)).length ≤ 30 := fun i => Nat.le_trans (List.length_filter_le _ _) (by rw [List.length_take, List.length_map]; omega)
    have len2 : ∀ i, (((qs.map (·.2)).take i).filter fun q => decide (q.2 = h)).length ≤ 30 := fun i => Nat.le_trans (List.length_filter_le _ _) (by rw [List.length_take, List.length_map]; omega)
    have all : ∀ {α : Type} (g : List (Str × Str) → α), g ((qs.map (·.2)).take (refsL qs).length) = g (qs.map (·.2)) := fun g => by
      congr 1
      unfold refsL
      rw [List.length_map, List.take_of_length_le (by rw [List.length_map]; exact Nat.le_refl _)]
    refine ⟨_, rfl, q, rfl, ⟨_, SqL.of hq⟩, fun D hD => ?_⟩
    refine lc_it (walk_list (xs := refsL qs)) (fun i H' => Evl.Ex H H' ∧ H' D = some (.lst (((((qs.map (·.2)).take i).filter fun q => decide (q.1 = h)).map (·.2)).map V.str))) ⟨Evl.Ex.new hD, upd_same⟩ (fun i H' _ hp => SqL.of (hp.1 _ _ hq)) (fun i x H1 H2 hi hp hy => ?_) (fun H1 hp => ?_)
    · obtain ⟨x1, e1⟩ := hp
      obtain ⟨rfl, hx⟩ := hy
      unfold refsL at hi hx
      rw [List.length_map] at hi
      obtain ⟨t, ht⟩ := getD_of hi
      rw [List.getElem?_map, ht] at hx
      cases hx
      obtain ⟨T, a, b⟩ := t
      have hT := x1 _ _ (hP _ (List.mem_of_getElem? ht))
      have tk : (qs.map (·.2)).take (i + 1) = (qs.map (·.2)).take i ++ [(a, b)] := by rw [List.take_add_one, List.getElem?_map, ht]; rfl
      refine ⟨T, _, rfl, SqT.of hT, rfl, _, _, rfl, _, _, rfl, rfl, rfl, _, rfl, _, rfl, rfl, _, rfl, ?_⟩
      refine ite2 (fun z => ?_) (fun z => ?_)
      · have z : a = h := by simpa using z
        refine ⟨_, rfl, _, e1, ?_, ex_upd x1 hD, ?_⟩
        · rw [List.length_map, List.length_map]
          exact Nat.lt_of_le_of_lt (len1 i) (by decide)
        · rw [upd_same, tk, List.filter_append]
          simp [z]
      · have z : ¬ a = h := by simpa using z
        refine ⟨x1, ?_⟩
        rw [e1, tk, List.filter_append]
        simp [z]
    · obtain ⟨x1, e1⟩ := hp
      rw [all (fun l => ((l.filter fun q => decide (q.1 = h)).map (·.2)).map V.str)] at e1
      refine ⟨_, rfl, q, rfl, ⟨_, SqL.of (x1 _ _ hq)⟩, fun D2 hD2 => ?_⟩
      have nD : D ≠ D2 := ne_of_none e1 hD2
      refine lc_it (walk_list (xs := refsL qs)) (fun i H' => Evl.Ex H1 H' ∧ H' D2 = some (.lst (((((qs.map (·.2)).take i).filter fun q => decide (q.2 = h)).map (·.1)).map V.str))) ⟨Evl.Ex.new hD2, upd_same⟩ (fun i H' _ hp => SqL.of (hp.1 _ _ (x1 _ _ hq))) (fun i x H3 H4 hi hp hy => ?_) (fun H3 hp => ?_)
      · obtain ⟨x3, e3⟩ := hp
        obtain ⟨rfl, hx⟩ := hy
        unfold refsL at hi hx
        rw [List.length_map] at hi
        obtain ⟨t, ht⟩ := getD_of hi
        rw [List.getElem?_map, ht] at hx
        cases hx
        obtain ⟨T, a, b⟩ := t
        have hT := x3 _ _ (x1 _ _ (hP _ (List.mem_of_getElem? ht)))
        have tk : (qs.map (·.2)).take (i + 1) = (qs.map (·.2)).take i ++ [(a, b)] := by rw [List.take_add_one, List.getElem?_map, ht]; rfl
        refine ⟨T, _, rfl, SqT.of hT, rfl, _, _, rfl, _, _, rfl, rfl, rfl, _, rfl, _, rfl, rfl, _, rfl, ?_⟩
        refine ite2 (fun z => ?_) (fun z => ?_)
        · have z : b = h := by simpa using z
          refine ⟨_, rfl, _, e3, ?_, ex_upd x3 hD2, ?_⟩
          · rw [List.length_map, List.length_map]
            exact Nat.lt_of_le_of_lt (len2 i) (by decide)
          · rw [upd_same, tk, List.filter_append]
            simp [z]
        · have z : ¬ b = h := by simpa using z
          refine ⟨x3, ?_⟩
          rw [e3, tk, List.filter_append]
          simp [z]
      · obtain ⟨x3, e3⟩ := hp
        rw [all (fun l => ((l.filter fun q => decide (q.2 = h)).map (·.1)).map V.str)] at e3
        have l1 := len1 (qs.map (·.2)).length
        have l2 := len2 (qs.map (·.2)).length
        rw [List.take_length] at l1 l2
        refine ⟨D, D2, _, _, rfl, rfl, x3 _ _ e1, e3, ?_, fun p hp2 => ?_⟩
        · rw [List.length_map, List.length_map, List.length_map, List.length_map]
          exact Nat.le_trans (show _ ≤ 60 by omega) (by decide)
        · have x4 := (x1.trans x3).trans (Evl.Ex.new (o := .lst (((((qs.map (·.2)).filter fun q => decide (q.1 = h)).map (·.2)).map V.str) ++ ((((qs.map (·.2)).filter fun q => decide (q.2 = h)).map (·.1)).map V.str))) hp2)
          refine ⟨_, rfl, p, besL (qs.map (·.2)) h, rfl, SqL.of (by rw [upd_same]; unfold besL; rw [List.map_append]), ?_, fun ys r hys hsr hr2 => ?_⟩
          · unfold besL
            rw [List.length_append, List.length_map, List.length_map]
            omega
          · refine k r ys _ (x4.trans (Evl.Ex.new hr2)) ?_ upd_same hys hsr
            cases q1 : H r with
            | none => rfl
            | some o => rw [x4 _ _ q1] at hr2; cases hr2
end
end K07

/-! Rows of houses gone on from a stack, until one ends at a house. Law-independent, no machine. -/
namespace Tr
open PySem
structure Good (hs : List Str) (ps : Prs) (a : Str) (t : List Str) : Prop where
  hd : ∃ l, t = a :: l
  nd : t.Nodup
  row : Row ps t
  mem : ∀ x ∈ t, x ∈ hs
structure DInv (hs : List Str) (ps : Prs) (a : Str) (w : List Str) (R : List (List Str)) : Prop where
  good : ∀ t ∈ R, Good hs ps a t
  pre : ∃ t ∈ R, ∃ rest, t ++ rest = w
  idx : ∀ i t, R[i]? = some t → i ≤ 60 * (t.length - 1)
def wgt (n : Nat) (R : List (List Str)) : Nat := (R.map fun t => 100 ^ (n + 1 - t.length)).sum
theorem DInv.start {hs : List Str} {ps : Prs} {a : Str} {w l : List Str} (ha : a ∈ hs) (h : w = a :: l) : DInv hs ps a w [[a]] := by
  refine ⟨fun t ht => ?_, ⟨[a], by simp, l, by rw [h]; rfl⟩, fun i t h => ?_⟩
  · simp only [List.mem_singleton] at ht
    subst ht
    exact ⟨⟨[], rfl⟩, by simp, fun i x y h1 h2 => by simp at h2, fun x hx => by simp at hx; rw [hx]; exact ha⟩
  · have := (List.getElem?_eq_some_iff.mp h).1
    simp at this
    omega
theorem Good.done {hs : List Str} {ps : Prs} {a b : Str} {t w : List Str} {f : Str → Option Str} (g : Good hs ps a t) (R : Rt hs ps b f) (hw : Pth f b a w) (hl : t.getLast? = some b) : t = w := by
  obtain ⟨l, rfl⟩ := g.hd
  exact (R.row l a g.nd g.row hl).uniq R.none hw
theorem Good.len {hs : List Str} {ps : Prs} {a : Str} {t : List Str} (g : Good hs ps a t) : 1 ≤ t.length ∧ t.length ≤ hs.length := by
  refine ⟨?_, nodup_le g.nd g.mem⟩
  obtain ⟨l, rfl⟩ := g.hd
  simp
theorem Good.more {hs : List Str} {ps : Prs} (T : Tree hs ps) {a c y : Str} {t : List Str} (g : Good hs ps a t) (hl : t.getLast? = some c) (ha : Adj ps c y) (hy : y ∉ t) : Good hs ps a (t ++ [y]) := by
  obtain ⟨l, e⟩ := g.hd
  refine ⟨⟨l ++ [y], by rw [e]; rfl⟩, ?_, fun i u v h1 h2 => ?_, fun x hx => ?_⟩
  · rw [List.nodup_append]
    refine ⟨g.nd, by simp, fun x hx z hz => ?_⟩
    simp only [List.mem_singleton] at hz
    intro q
    exact hy (by rw [← hz, ← q]; exact hx)
  · have hlt := (List.getElem?_eq_some_iff.mp h2).1
    rw [List.length_append, List.length_singleton] at hlt
    by_cases hi : i + 1 < t.length
    · rw [List.getElem?_append_left (by omega)] at h1
      rw [List.getElem?_append_left hi] at h2
      exact g.row i u v h1 h2
    · have e1 : i + 1 = t.length := by omega
      rw [List.getElem?_append_left (by omega)] at h1
      rw [e1, List.getElem?_append_right (Nat.le_refl _), Nat.sub_self] at h2
      simp at h2
      rw [List.getLast?_eq_getElem?, ← e1, Nat.add_sub_cancel, h1] at hl
      rw [Option.some.inj hl, ← h2]
      exact ha
  · rcases List.mem_append.mp hx with hx | hx
    · exact g.mem x hx
    · simp only [List.mem_singleton] at hx
      rw [hx]
      exact (T.mem ha).2
theorem wgt_app (n : Nat) (A B : List (List Str)) : wgt n (A ++ B) = wgt n A + wgt n B := by
  unfold wgt
  rw [List.map_append, List.sum_append]
theorem wgt_more (n k : Nat) (t : List Str) (h : t.length + 1 = k) : ∀ F : List Str, wgt n (F.map fun y => t ++ [y]) = F.length * 100 ^ (n + 1 - k)
  | [] => by simp [wgt]
  | y :: r => by
    have ih := wgt_more n k t h r
    unfold wgt at ih ⊢
    rw [List.map_cons, List.map_cons, List.sum_cons, ih, List.length_append, List.length_singleton, h, List.length_cons, Nat.succ_mul]
    omega
theorem DInv.step {hs : List Str} {ps : Prs} (T : Tree hs ps) {a b c : Str} {w t : List Str} {R0 : List (List Str)} {f : Str → Option Str} (R : Rt hs ps b f) (hw : Pth f b a w) (D : DInv hs ps a w (R0 ++ [t])) (hl : t.getLast? = some c) (hcb : c ≠ b) {F : List Str}
    (h1 : ∀ y ∈ F, Adj ps c y ∧ y ∉ t) (h2 : ∀ y, Adj ps c y → y ∉ t → y ∈ F) (h3 : F.length ≤ 60) : DInv hs ps a w (R0 ++ F.map fun y => t ++ [y]) ∧ wgt hs.length (R0 ++ F.map fun y => t ++ [y]) < wgt hs.length (R0 ++ [t]) := by
  have gt := D.good t (by simp)
  obtain ⟨l1, l2⟩ := gt.len
  have it := D.idx R0.length t (by rw [List.getElem?_append_right (Nat.le_refl _), Nat.sub_self]; rfl)
  refine ⟨⟨fun u hu => ?_, ?_, fun i u hu => ?_⟩, ?_⟩
  · rcases List.mem_append.mp hu with hu | hu
    · exact D.good u (List.mem_append_left _ hu)
    · obtain ⟨y, hy, rfl⟩ := List.mem_map.mp hu
      exact gt.more T hl (h1 y hy).1 (h1 y hy).2
  · obtain ⟨u, hu, rest, e⟩ := D.pre
    rcases List.mem_append.mp hu with hu | hu
    · exact ⟨u, List.mem_append_left _ hu, rest, e⟩
    · simp only [List.mem_singleton] at hu
      subst hu
      cases rest with
      | nil =>
        rw [List.append_nil] at e
        rw [e, hw.last] at hl
        exact absurd (Option.some.inj hl).symm hcb
      | cons y r =>
        refine ⟨u ++ [y], List.mem_append_right _ (List.mem_map.mpr ⟨y, ?_, rfl⟩), r, by rw [List.append_assoc]; exact e⟩
        have n1 := hw.nodup R.none
        rw [← e] at n1
        have hy : y ∉ u := fun z => (List.nodup_append.mp n1).2.2 y z y (by simp) rfl
        refine h2 y ?_ hy
        have q1 : w[u.length - 1]? = some c := by
          rw [← e, List.getElem?_append_left (by omega), ← List.getLast?_eq_getElem?]
          exact hl
        have q2 : w[u.length - 1 + 1]? = some y := by
          rw [← e, show u.length - 1 + 1 = u.length by omega, List.getElem?_append_right (Nat.le_refl _), Nat.sub_self]
          rfl
        exact hw.row R _ _ _ q1 q2
  · by_cases hi : i < R0.length
    · rw [List.getElem?_append_left hi] at hu
      exact D.idx i u (by rw [List.getElem?_append_left hi]; exact hu)
    · have hlt := (List.getElem?_eq_some_iff.mp hu).1
      rw [List.getElem?_append_right (by omega), List.getElem?_map] at hu
      obtain ⟨y, _, rfl⟩ := Option.map_eq_some_iff.mp hu
      rw [List.length_append, List.length_map] at hlt
      rw [List.length_append, List.length_singleton]
      omega
  · rw [wgt_app, wgt_app, wgt_more hs.length (t.length + 1) t rfl F]
    have e1 : wgt hs.length [t] = 100 ^ (hs.length + 1 - t.length) := by simp [wgt]
    rw [e1, show hs.length + 1 - t.length = (hs.length + 1 - (t.length + 1)) + 1 by omega, Nat.pow_succ]
    have : 0 < 100 ^ (hs.length + 1 - (t.length + 1)) := Nat.pow_pos (by decide)
    have : F.length * 100 ^ (hs.length + 1 - (t.length + 1)) ≤ 60 * 100 ^ (hs.length + 1 - (t.length + 1)) := Nat.mul_le_mul_right _ h3
    omega
theorem DInv.len {hs : List Str} {ps : Prs} {a : Str} {w : List Str} {R : List (List Str)} (D : DInv hs ps a w R) (h : hs.length ≤ 30) : R.length ≤ 2000 := by
  cases hR : R.getLast? with
  | none =>
    rw [List.getLast?_eq_none_iff] at hR
    rw [hR]
    exact Nat.zero_le _
  | some t =>
    rw [List.getLast?_eq_getElem?] at hR
    have := D.idx _ t hR
    have := (D.good t (List.mem_of_getElem? hR)).len
    omega
end Tr

namespace K07
open PySem PySem.Spec PyProof.Rows L2 Tr Sq
/-! ### _law_v_way -/
abbrev sWay : Stmt := top 45
/-- rows of names, each a list at its place -/
abbrev RwL : Type := List (Addr × List Str)
def RwAt (H0 H : Hp) (R : RwL) : Prop := ∀ t ∈ R, H t.1 = some (.lst (t.2.map V.str)) ∧ H0 t.1 = none
def rwRefs (R : RwL) : List V := R.map fun t => .ref t.1
def pdRow (l : List Str) : PyData := .list (l.map PyData.str)
theorem dpa_strs {K : PySem.W.Frag} {H : Hp} : ∀ l : List Str, DpAll K H (l.map V.str) (l.map PyData.str)
  | [] => .nil
  | n :: r => .cons (.str n) (dpa_strs r)
theorem dpa_rows {K : PySem.W.Frag} {H0 H : Hp} : ∀ {R : RwL}, RwAt H0 H R → DpAll K H (rwRefs R) (R.map fun t => pdRow t.2)
  | [], _ => .nil
  | t :: r, h => .cons (.lst (SqL.of (h t List.mem_cons_self).1) (dpa_strs _)) (dpa_rows fun u hu => h u (List.mem_cons_of_mem _ hu))
theorem lay_strs : ∀ l : List Str, (∀ z ∈ l, PyData.strOk z = true) → PyData.canLayAll0 (l.map PyData.str) = true
  | [], _ => by simp [PyData.canLayAll0]
  | n :: r, h => by simp [PyData.canLayAll0, PyData.canLay0, h n List.mem_cons_self, lay_strs r fun z hz => h z (List.mem_cons_of_mem _ hz)]
theorem depth_strs : ∀ l : List Str, PyData.depthAll (l.map PyData.str) = 0
  | [] => by simp [PyData.depthAll]
  | n :: r => by simp [PyData.depthAll, PyData.depth, depth_strs r]
theorem lay_rows : ∀ R : List (List Str), (∀ t ∈ R, ∀ z ∈ t, PyData.strOk z = true) → PyData.canLayAll0 (R.map pdRow) = true
  | [], _ => by simp [PyData.canLayAll0]
  | n :: r, h => by
    rw [List.map_cons]
    unfold pdRow
    simp only [PyData.canLayAll0, PyData.canLay0, lay_strs n (h n List.mem_cons_self), Bool.true_and]
    exact lay_rows r fun t ht => h t (List.mem_cons_of_mem _ ht)
theorem depth_rows : ∀ R : List (List Str), PyData.depthAll (R.map pdRow) ≤ 1
  | [] => by simp [PyData.depthAll]
  | n :: r => by
    have := depth_rows r
    rw [List.map_cons]
    unfold pdRow at this ⊢
    simp only [PyData.depthAll, PyData.depth, depth_strs n]
    omega
theorem shaped_rows (R : List (List Str)) (h : ∀ t ∈ R, ∀ z ∈ t, PyData.strOk z = true) : SeqAt.shaped (.list (R.map pdRow)) = true := by
  unfold SeqAt.shaped
  have := depth_rows R
  simp only [PyData.canLay0, PyData.depth, lay_rows R h, Bool.true_and]
  exact decide_eq_true (by omega)
theorem eqv_rows_nil (R : List (List Str)) : PyData.eqv (.list (R.map pdRow)) (.list []) = R.isEmpty := by
  cases R <;> simp [PyData.eqv, PyData.eqvAll]
theorem good_ok : ∀ z ∈ names12, PyData.strOk z = true := by decide +kernel
theorem in_strs {h : Str} {l : List Str} : inV (.str h) (l.map V.str) = decide (h ∈ l) := by
  induction l with
  | nil => rfl
  | cons a r ih =>
    unfold inV at ih ⊢
    rw [List.map_cons, List.any_cons, ih]
    have : eqV (.str a) (.str h) = decide (h = a) := by
      simp [eqV]
      rw [Bool.eq_iff_iff]
      simp
      exact eq_comm
    rw [this, Bool.eq_iff_iff]
    simp
theorem flat_strs (l : List Str) : (l.map V.str).all flatV = true := by
  rw [List.all_map]
  exact List.all_eq_true.mpr fun _ _ => rfl
def spWay : Sp := fun vs H Q _ => ∃ (q : Addr) (a b : Str) (qs : PrL) (hs : List Str) (fr : Str → Str → Option Str) (way : Str → Str → List Str), vs = [.ref q, .str a, .str b] ∧ H q = some (.lst (refsL qs)) ∧ PrsAt H qs ∧ Tree hs (qs.map (·.2)) ∧ Ways hs (qs.map (·.2)) fr way ∧ a ∈ hs ∧ b ∈ hs ∧ hs.length ≤ 30 ∧ qs.length ≤ 30 ∧ (∀ h ∈ hs, h ∈ names12) ∧
  ∀ (r : Addr) (H' : Hp), Evl.Ex H H' → H r = none → H' r = some (.lst ((way a b).map V.str)) → Q (.ref r) H'
def wDfs (H : Hp) (q ro : Addr) (a b : Str) (hs : List Str) (ps : Prs) (w : List Str) (mm : Nat) (σ : L2.St) (H' : Hp) : Prop := ∃ (R : RwL) (v4 v5 v6 : Option V), wgt hs.length (R.map (·.2)) = mm ∧ σ = [some (.ref q), some (.str a), some (.str b), some (.ref ro), v4, v5, v6] ∧ Evl.Ex H H' ∧ H' ro = some (.lst (rwRefs R)) ∧ RwAt H H' R ∧ DInv hs ps a w (R.map (·.2))
section
variable {P : Program} {w : World} {K : PySem.W.Frag} {mg : Str → Option Value} {base : Heap}
theorem scWay : FnScope ["paths", "one", "other", "rows", "row", "further", "house"] ["paths", "one", "other"] (defScope sWay) := ⟨rfl, rfl, rfl, by decide +kernel, rfl, by decide +kernel, by decide +kernel⟩
theorem ok_way {f fB : Addr} {fd fdB : FuncData} (F : FnP K "_law_v_way" sWay f fd) (GB : FnOk P w K mg base CX0 1 fB fdB ["paths", "house"] (spBes K)) (bB : L2.Binds K fdB ["paths", "house"] []) (kB : PySem.W.keepIn K (.ref fB) = true) (gB : mg "_law_v_beside" = some (.ref fB)) :
    FnOk P w K mg base CX0 2 f fd ["paths", "one", "other"] spWay := by
  refine F.ok scWay (fun vs H Q E h => ?_) (fun cdv A outer s H vs Q E hr h => ?_)
  · obtain ⟨q, a, b, qs, hs, fr, way, rfl, _⟩ := h
    rfl
  · obtain ⟨q, a, b, qs, hs, fr, way, rfl, hq, hP, T, W, ha, hb, h30, q30, hgood, k⟩ := h
    refine' ⟨_, PSs.nox (pss_cons (ps_set (i := 3) scWay.nd rfl (.inl rfl) (pe_lst (pa_cons (pe_lst (pa_cons (pv 1) pa_nil)) pa_nil)))
      (pss_cons (ps_while PassesOwn.never (pt_cmpR (op_neD hr.units) (pv 3) (pe_lst pa_nil) (nomark _))
        (pss_cons (ps_set (i := 4) scWay.nd rfl (.inr rfl) (pe_bm0 PySem.F.plainAttrs_list PySem.F.slot_list_pop PySem.F.type_list_pop mt_pop (pv 3)))
        (pss_cons (ps_if (pt_cmpR op_eq (pe_ix ix_list (pv 4) (pe_un un_neg pe_int) (fun _ _ => rfl)) (pv 2) (nomark _)) (pss_one (ps_ret (pv 4))) pss_nil)
        (pss_cons ?l1 (pss_one (ps_expr (pe_bm PySem.F.plainAttrs_list PySem.F.slot_list_extend PySem.F.type_list_extend mt_extend (pv 3) (pa_cons ?l2 pa_nil))))))))
      (pss_one (ps_ret (pe_lst pa_nil))))), ?rd⟩
    case l1 =>
      refine ps_setLc (i := 5) (own := [("house", 6)]) (g := gName 6) (tt := tTest (tOp (rIn K true) (tVar 6) (tVar 4))) (te := tVar 6) (by rfl) scWay.nd rfl rfl (sw_true rfl rfl rfl (by decide +kernel)) (pi_list (pe_call GB hr rfl gB kB bB .nil pass0 (pa_cons (pv 0) (pa_cons (pe_ix ix_list (pv 4) (pe_un un_neg pe_int) (fun _ _ => rfl)) pa_nil))))
        (blkOk_by (own := [("house", 6)]) (N := ["paths", "one", "other", "rows", "row", "further", "house"]) (sc := defScope sWay) (by decide +kernel)) (fun _ _ _ _ _ => pg_name (i := 6) scWay.nd rfl (.inl rfl)) (fun _ _ _ _ _ => pts_one (pt_cmpR op_notIn_seq (pv 6) (pv 4) rfl)) ?_
      intro _ _ _ _ _
      exact pv 6
    case l2 =>
      refine pe_lc (own := [("house", 6)]) (g := gName 6) (tt := tYes) (te := tOp rCat (tVar 4) (tLst (tCons (tVar 6) tNil))) rfl scWay.nd (pi_list (pv 5))
        (blkOk_by (own := [("house", 6)]) (N := ["paths", "one", "other", "rows", "row", "further", "house"]) (sc := defScope sWay) (by decide +kernel)) (fun _ _ _ _ _ => pg_name (i := 6) scWay.nd rfl (.inl rfl)) (fun _ _ _ _ _ => pts_nil) ?_
      intro _ _ _ _ _
      exact pe_op op_cat (pv 4) (pe_lst (pa_cons (pv 6) pa_nil))
    refine ⟨_, rfl, by show 1 ≤ sizeLine; decide, fun t1 ht1 => ⟨by show 1 ≤ sizeLine; decide, fun ro hro => ?_⟩⟩
    have n1 : t1 ≠ ro := ne_of_none upd_same hro
    have hroH : H ro = none := by rw [upd_ne n1.symm] at hro; exact hro
    obtain ⟨lw, ew, _⟩ := W.tail_last ha hb
    have pw := W.pth a ha b hb
    refine ⟨wDfs H q ro a b hs (qs.map (·.2)) (way a b), ⟨_, [(t1, [a])], none, none, none, rfl, rfl, (Evl.Ex.new ht1).trans (Evl.Ex.new hro), upd_same, fun t ht => ?_, DInv.start ha ew⟩, ?_⟩
    · simp only [List.mem_singleton] at ht
      subst ht
      exact ⟨by rw [upd_ne n1]; exact upd_same, ht1⟩
    · rintro mm σ H1 ⟨R, v4, v5, v6, hmm, rfl, x1, e1, e2, D⟩
      have hok : ∀ t ∈ R.map (·.2), ∀ z ∈ t, PyData.strOk z = true := fun t ht z hz => good_ok z (hgood z ((D.good t ht).mem z hz))
      have em : R.map (fun t => pdRow t.2) = (R.map (·.2)).map pdRow := by rw [List.map_map]; rfl
      refine ⟨_, rfl, Nat.zero_le _, fun e he => ?_⟩
      have x2 : Evl.Ex H1 (upd H1 e (.lst [])) := Evl.Ex.new he
      have y2 : upd H1 e (.lst []) e = some (.lst []) := upd_same
      generalize upd H1 e (.lst []) = H2 at x2 y2
      have e2' : RwAt H H2 R := fun t ht => ⟨x2 _ _ (e2 t ht).1, (e2 t ht).2⟩
      refine ⟨_, _, .lst (SqL.of (x2 _ _ e1)) (dpa_rows e2'), .lst (SqL.of y2) .nil, by rw [em]; exact shaped_rows _ hok, shaped_rows [] (fun t ht => by simp at ht), _, rfl, ?_⟩
      rw [em, eqv_rows_nil]
      have hRne : R ≠ [] := fun z => by
        obtain ⟨t, ht, _⟩ := D.pre
        rw [z] at ht
        simp at ht
      have hie : (!(R.map (·.2)).isEmpty) = true := by
        cases R with
        | nil => exact absurd rfl hRne
        | cons x y => rfl
      rw [hie]
      obtain ⟨R0, t, rfl⟩ : ∃ R0 t, R = R0 ++ [t] := ⟨R.dropLast, R.getLast hRne, (List.dropLast_concat_getLast hRne).symm⟩
      refine iteT ⟨fun σ' H' => ∃ m', m' < mm ∧ wDfs H q ro a b hs (qs.map (·.2)) (way a b) m' σ' H', fun σ' H' z => z, ?_⟩
      have er : rwRefs (R0 ++ [t]) = rwRefs R0 ++ [.ref t.1] := by unfold rwRefs; rw [List.map_append]; rfl
      rw [er] at e1
      have e3 := x2 _ _ e1
      refine ⟨_, rfl, .inl ⟨rfl, _, SqL.of e3⟩, ro, _, .ref t.1, rfl, rfl, e3, by simp, ?_⟩
      rw [List.dropLast_concat]
      have tm : t ∈ R0 ++ [t] := by simp
      obtain ⟨g1, g2⟩ := e2' t tm
      have gt := D.good t.2 (List.mem_map.mpr ⟨t, tm, rfl⟩)
      have htne : t.2 ≠ [] := fun z => by have := gt.len.1; rw [z] at this; simp at this
      have trn : ∀ u ∈ R0 ++ [t], u.1 ≠ ro := fun u hu z => by
        have h1 := (e2' u hu).1
        rw [z, e3] at h1
        have h2 := (D.good u.2 (List.mem_map.mpr ⟨u, hu, rfl⟩)).len.1
        injection h1 with h1
        injection h1 with h1
        have h3 : V.ref t.1 ∈ u.2.map V.str := by rw [← h1]; simp
        obtain ⟨z9, _, e9⟩ := List.mem_map.mp h3
        cases e9
      have x3 : Evl.Ex H (upd H2 ro (.lst (rwRefs R0))) := ex_upd (x1.trans x2) hroH
      have f1 : upd H2 ro (.lst (rwRefs R0)) ro = some (.lst (rwRefs R0)) := upd_same
      have f2 : RwAt H (upd H2 ro (.lst (rwRefs R0))) (R0 ++ [t]) := fun u hu => ⟨by rw [upd_ne (trn u hu)]; exact (e2' u hu).1, (e2' u hu).2⟩
      generalize upd H2 ro (.lst (rwRefs R0)) = H3 at x3 f1 f2
      obtain ⟨Y, c, eY⟩ : ∃ Y c, t.2 = Y ++ [c] := ⟨t.2.dropLast, t.2.getLast htne, (List.dropLast_concat_getLast htne).symm⟩
      have hlast : t.2.getLast? = some c := by rw [eY]; simp
      have ht3 := (f2 t tm).1
      have ht3' : H3 t.1 = some (.lst (Y.map V.str ++ [.str c])) := by rw [ht3, eY, List.map_append]; rfl
      refine ⟨_, rfl, _, rfl, t.1, _, -1, _, rfl, rfl, SqL.of ht3', atI_last _ _, _, rfl, rfl, _, rfl, ?_⟩
      by_cases hcb : c = b
      · refine ite2 (fun _ => ⟨_, rfl, k t.1 H3 x3 g2 ?_⟩) (fun z => absurd ?_ z)
        · rw [ht3, gt.done (W.rt b hb) pw (by rw [hlast, hcb])]
        · simp [hcb]
      · refine ite2 (fun z => absurd z (by simp [hcb])) (fun _ => ?_)
        refine ⟨_, rfl, _, rfl, _, rfl, t.1, _, -1, _, rfl, rfl, SqL.of ht3', atI_last _ _, q, c, qs, rfl, x3 _ _ hq, hP.ex x3, q30, fun r ys H4 x4 hr4 hr4' hys _ => ?_⟩
        refine ⟨r, rfl, ⟨_, SqL.of hr4'⟩, fun D1 hD1 => ?_⟩
        have ht4 := x4 _ _ ht3
        have ysl : ys.length ≤ 60 := by
          rw [hys.length_eq]
          unfold besL
          rw [List.length_append, List.length_map, List.length_map]
          have q1 := List.length_filter_le (fun q => decide (q.1 = c)) (qs.map (·.2))
          have q2 := List.length_filter_le (fun q => decide (q.2 = c)) (qs.map (·.2))
          rw [List.length_map] at q1 q2
          omega
        refine lc_it (walk_list (xs := ys.map V.str)) (fun i H' => Evl.Ex H4 H' ∧ H' D1 = some (.lst (((ys.take i).filter fun y => !decide (y ∈ t.2)).map V.str))) ⟨Evl.Ex.new hD1, upd_same⟩ (fun i H' _ hp => SqL.of (hp.1 _ _ hr4')) (fun i x H5 H6 hi hp hy => ?_) (fun H5 hp => ?_)
        · obtain ⟨x5, d1⟩ := hp
          obtain ⟨rfl, hx⟩ := hy
          rw [List.length_map] at hi
          obtain ⟨y, hyy⟩ := getD_of hi
          rw [List.getElem?_map, hyy] at hx
          cases hx
          refine ⟨rfl, _, rfl, _, rfl, t.1, _, rfl, .inl (SqL.of (x5 _ _ ht4)), rfl, flat_strs _, _, rfl, ?_⟩
          rw [in_strs]
          have tk : ys.take (i + 1) = ys.take i ++ [y] := by rw [List.take_add_one, hyy]; rfl
          refine ite2 (fun z => ?_) (fun z => ?_)
          · have z : (!decide (y ∈ t.2)) = true := by simpa using z
            refine ⟨_, rfl, _, d1, ?_, ex_upd x5 hD1, ?_⟩
            · rw [List.length_map]
              refine Nat.lt_of_le_of_lt (Nat.le_trans (List.length_filter_le _ _) (show _ ≤ 60 by rw [List.length_take]; omega)) (by decide)
            · rw [upd_same, tk, List.filter_append, List.map_append]
              have fz : [y].filter (fun y => !decide (y ∈ t.2)) = [y] := by simp at z; simp [z]
              rw [fz]
              rfl
          · have z : (!decide (y ∈ t.2)) = false := by simpa using z
            refine ⟨x5, ?_⟩
            rw [d1, tk, List.filter_append]
            have fz : [y].filter (fun y => !decide (y ∈ t.2)) = [] := by simp at z; simp [z]
            rw [fz, List.append_nil]
        · obtain ⟨x5, d1⟩ := hp
          rw [List.length_map, List.take_length] at d1
          generalize hF : (ys.filter fun y => !decide (y ∈ t.2)) = F at d1
          have Fl : F.length ≤ 60 := by rw [← hF]; exact Nat.le_trans (List.length_filter_le _ _) ysl
          have F1 : ∀ y ∈ F, Adj (qs.map (·.2)) c y ∧ y ∉ t.2 := fun y hy => by
            rw [← hF] at hy
            obtain ⟨h1, h2⟩ := List.mem_filter.mp hy
            exact ⟨besL_mem.mp (hys.mem_iff.mp h1), by simpa using h2⟩
          have F2 : ∀ y, Adj (qs.map (·.2)) c y → y ∉ t.2 → y ∈ F := fun y h1 h2 => by
            rw [← hF]
            exact List.mem_filter.mpr ⟨hys.mem_iff.mpr (besL_mem.mpr h1), by simpa using h2⟩
          have hDm : R0.map (·.2) ++ [t.2] = (R0 ++ [t]).map (·.2) := by rw [List.map_append]; rfl
          obtain ⟨D', wl⟩ := DInv.step T (W.rt b hb) pw (by rw [hDm]; exact D) hlast hcb F1 F2 Fl
          rw [hDm, hmm] at wl
          have x35 : Evl.Ex H3 H5 := x4.trans x5
          have f15 := x35 _ _ f1
          have f25 : RwAt H H5 (R0 ++ [t]) := fun u hu => ⟨x35 _ _ (f2 u hu).1, (f2 u hu).2⟩
          have xH5 : Evl.Ex H H5 := x3.trans x35
          refine ⟨_, rfl, .inl ⟨rfl, _, SqL.of f15⟩, _, rfl, D1, rfl, ⟨_, SqL.of d1⟩, fun D2 hD2 => ?_⟩
          have hD2H : H D2 = none := by
            cases q1 : H D2 with
            | none => rfl
            | some o => rw [xH5 _ _ q1] at hD2; cases hD2
          have t5 := (f25 t tm).1
          have tl30 := gt.len.2
          refine lc_it (walk_list (xs := F.map V.str)) (fun i H' => Evl.Ex H5 H' ∧ ∃ N : RwL, H' D2 = some (.lst (rwRefs N)) ∧ RwAt H H' N ∧ N.map (·.2) = (F.take i).map fun y => t.2 ++ [y]) ⟨Evl.Ex.new hD2, [], upd_same, fun u hu => absurd hu (by simp), rfl⟩ (fun i H' _ hp => SqL.of (hp.1 _ _ d1)) (fun i x H6 H7 hi hp hy => ?_) (fun H6 hp => ?_)
          · obtain ⟨x6, N, n1, n2, n3⟩ := hp
            obtain ⟨rfl, hx⟩ := hy
            rw [List.length_map] at hi
            obtain ⟨y, hyy⟩ := getD_of hi
            rw [List.getElem?_map, hyy] at hx
            cases hx
            have tk : F.take (i + 1) = F.take i ++ [y] := by rw [List.take_add_one, hyy]; rfl
            have t7 := x6 _ _ t5
            refine ⟨rfl, _, rfl, _, rfl, by show 1 ≤ sizeLine; decide, fun p hp => ⟨t.1, p, _, _, rfl, rfl, by rw [upd_ne (ne_of_none t7 hp)]; exact t7, upd_same, ?_, fun u hu => ?_⟩⟩
            · rw [List.length_map]
              exact Nat.le_trans (show t.2.length + 1 ≤ 31 by omega) (by decide)
            · have n1' := n1
              have hDp : D2 ≠ p := ne_of_none n1 hp
              have n4 : upd H7 p (.lst [.str y]) D2 = some (.lst (rwRefs N)) := by rw [upd_ne hDp]; exact n1
              have hDu : D2 ≠ u := ne_of_none n4 hu
              have huH : H u = none := by
                cases q1 : H u with
                | none => rfl
                | some o => rw [(Evl.Ex.new hp) _ _ (x6 _ _ (xH5 _ _ q1))] at hu; cases hu
              refine ⟨_, by rw [upd_ne hDu]; exact n4, ?_, ex_upd ((x6.trans (Evl.Ex.new hp)).trans (Evl.Ex.new hu)) hD2, N ++ [(u, t.2 ++ [y])], by unfold rwRefs; rw [upd_same, List.map_append]; rfl, fun z hz => ?_, by rw [List.map_append, n3, tk, List.map_append]; rfl⟩
              · have := congrArg List.length n3
                rw [List.length_map, List.length_map, List.length_take] at this
                unfold rwRefs
                rw [List.length_map]
                exact Nat.lt_of_le_of_lt (show N.length ≤ 60 by omega) (by decide)
              · rcases List.mem_append.mp hz with hz | hz
                · obtain ⟨z1, z2⟩ := n2 z hz
                  refine ⟨?_, z2⟩
                  have w1 : upd H7 p (.lst [.str y]) z.1 = some (.lst (z.2.map V.str)) := by rw [upd_ne (ne_of_none z1 hp)]; exact z1
                  rw [upd_ne (fun q9 => by
                    rw [q9, n1] at z1
                    have len := congrArg List.length n3
                    rw [List.length_map, List.length_map] at len
                    injection z1 with z1
                    injection z1 with z1
                    have hm : V.ref z.1 ∈ rwRefs N := List.mem_map.mpr ⟨z, hz, rfl⟩
                    rw [z1] at hm
                    obtain ⟨z9, _, e9⟩ := List.mem_map.mp hm
                    cases e9), upd_ne (ne_of_none w1 hu)]
                  exact w1
                · simp only [List.mem_singleton] at hz
                  subst hz
                  refine ⟨?_, huH⟩
                  rw [upd_ne hDu.symm, upd_same, List.map_append]
                  rfl
          · obtain ⟨x6, N, n1, n2, n3⟩ := hp
            rw [List.length_map, List.take_length] at n3
            have f16 := x6 _ _ f15
            have Rl := D.len h30
            rw [List.length_map, List.length_append, List.length_singleton] at Rl
            have Nl := congrArg List.length n3
            rw [List.length_map, List.length_map] at Nl
            refine ⟨ro, D2, _, _, rfl, rfl, f16, n1, ?_, ?_⟩
            · unfold rwRefs
              rw [List.length_map, List.length_map]
              exact Nat.le_trans (show _ ≤ 3000 by omega) (by decide)
            · have hmem : ∀ u ∈ R0 ++ N, (H6 u.1 = some (.lst (u.2.map V.str)) ∧ H u.1 = none) := fun u hu => by
                rcases List.mem_append.mp hu with hu | hu
                · have := f25 u (List.mem_append_left _ hu)
                  exact ⟨x6 _ _ this.1, this.2⟩
                · exact n2 u hu
              have hDm2 : (R0 ++ N).map (·.2) = R0.map (·.2) ++ F.map fun y => t.2 ++ [y] := by rw [List.map_append, n3]
              have nro : ∀ u ∈ R0 ++ N, u.1 ≠ ro := fun u hu z => by
                have h1 := (hmem u hu).1
                have h2 := (D'.good u.2 (by rw [← hDm2]; exact List.mem_map.mpr ⟨u, hu, rfl⟩)).len.1
                rw [z, f16] at h1
                injection h1 with h1
                injection h1 with h1
                cases hu2 : u.2 with
                | nil => rw [hu2] at h2; simp at h2
                | cons x9 y9 =>
                  rw [hu2] at h1
                  have h3 : V.str x9 ∈ rwRefs R0 := by rw [h1]; simp
                  obtain ⟨z9, _, e9⟩ := List.mem_map.mp h3
                  cases e9
              refine ⟨_, wl, R0 ++ N, _, _, _, by rw [hDm2], rfl, ex_upd (xH5.trans x6) hroH, by unfold rwRefs; rw [upd_same, List.map_append], fun u hu => ⟨by rw [upd_ne (nro u hu)]; exact (hmem u hu).1, (hmem u hu).2⟩, by rw [hDm2]; exact D'⟩
end
end K07

namespace K07
open PySem PySem.Spec PyProof.Rows L2 Tr Sq Dk Exs
/-! ### is_name of anything -/
def nameOk (z : Str) : Bool := decide (1 ≤ z.length ∧ z.length ≤ 12) && (match z.cps[0]? with
  | some c => decide (c ∈ small.cps.toList)
  | none => false) && z.cps.toList.all fun c => decide (c ∈ small.cps.toList) || decide (c ∈ figs.cps.toList)
def isNm : V → Bool
  | .str z => nameOk z
  | _ => false
theorem nm_good : ∀ z ∈ names12, nameOk z = true := by decide +kernel
def spIsNameX : Sp := fun vs H Q _ => ∃ (x : V) (n : String), vs = [x] ∧ Pl H x n ∧ (∀ z, x = .str z → z.length ≤ 1000) ∧ ∀ H', Evl.Ex H H' → Q (.bl (isNm x)) H'
section
variable {P : Program} {w : World} {K : PySem.W.Frag} {mg : Str → Option Value} {base : Heap}
theorem ok_isNameX {f : Addr} {fd : FuncData} (F : FnP K "is_name" sIsName f fd) (gS : mg "isinstance" = none) (gT : mg "str" = none) (gL : mg "len" = none) (gA : mg "all" = none)
    (gN : ∃ t, mg "LONGEST_NAME" = some (.int 12 t)) (gM : ∃ t, mg "SMALL_LETTERS" = some (.str small t)) (gF : ∃ t, mg "FIGURES" = some (.str figs t)) : FnOk P w K mg base CX0 1 f fd ["thing"] spIsNameX := by
  obtain ⟨t1, gN⟩ := gN
  obtain ⟨t2, gM⟩ := gM
  obtain ⟨t3, gF⟩ := gF
  refine F.ok scIsName (fun vs H Q E h => ?_) (fun cdv A outer s H vs Q E hr h => ?_)
  · obtain ⟨x, n, rfl, _⟩ := h
    rfl
  · obtain ⟨x, n, rfl, hx, hlen, k⟩ := h
    refine' ⟨_, PSs.nox (pss_cons (ps_if (PW.pt (pw_or (pt_not (pt_val (pe_callB call_isi rfl gS (by decide +kernel) (pa_cons (pv 0) (pa_cons (pe_bltn (v := .ty "str") rfl gT (by decide +kernel) rfl) pa_nil)))))
        (pw_or1 (pt_not (pt_chain op_le op_le pe_int (pe_callB call_len_str (by rfl) gL PySem.boot_len (pa_cons (pv 0) pa_nil)) (pe_glob rfl gN (v := .int 12) ⟨_, rfl⟩)))))) (pss_one (ps_ret pe_bl)) pss_nil)
      (pss_cons (ps_if (pt_cmpR op_notIn_sign (pe_item_str (pv 0) pe_int (fun _ _ => rfl)) (pe_glob rfl gM (v := .str small) ⟨_, rfl⟩) rfl) (pss_one (ps_ret pe_bl)) pss_nil)
      (pss_one (ps_ret (pe_callB (cr_all rfl) (by rfl) gA (by decide +kernel) (pa_cons ?lc pa_nil)))))), ?rd⟩
    case lc =>
      refine pe_lc (own := [("sign", 1)]) (g := gName 1) (tt := tYes) (te := tOrV (tOp rInSg (tVar 1) (tC (.str small))) (tOp rInSg (tVar 1) (tC (.str figs)))) rfl scIsName.nd (pi_str (pv 0))
        (blkOk_by (own := [("sign", 1)]) (N := ["thing", "sign"]) (sc := defScope sIsName) (by decide +kernel)) (fun _ _ _ _ _ => pg_name (i := 1) scIsName.nd rfl (.inl rfl)) (fun _ _ _ _ _ => pts_nil) ?_
      intro _ _ _ _ _
      exact pe_or (pe_cmpR op_in_sign (pv 1) (pe_glob rfl gM (v := .str small) ⟨_, rfl⟩) rfl) (pe_one (pe_cmpR op_in_sign (pv 1) (pe_glob rfl gF (v := .str figs) ⟨_, rfl⟩) rfl))
    refine ⟨_, rfl, _, _, _, _, _, rfl, .ty _, hx.ty, hx.one "str", _, rfl, ?_⟩
    cases hx with
    | str z =>
      have k : ∀ H', Evl.Ex H H' → Q (.bl (nameOk z)) H' := k
      have hzl := hlen z rfl
      refine iteF ?_
      refine ⟨_, rfl, z, rfl, Nat.le_trans hzl (by decide), _, _, rfl, rfl, _, rfl, ?_⟩
      by_cases e1 : 1 ≤ z.length
      · refine ite2 (fun _ => ?_) (fun q => absurd (decide_eq_true (show (1 : Int) ≤ (z.length : Nat) by omega)) q)
        refine ⟨_, _, rfl, rfl, _, rfl, ?_⟩
        by_cases e2 : z.length ≤ 12
        · have e3 : decide (((z.length : Nat) : Int) ≤ 12) = true := decide_eq_true (by omega)
          rw [e3]
          refine iteF ?_
          obtain ⟨c0, hf0⟩ : ∃ c0, z.cps[0]? = some c0 := ⟨z.cps[0]'(show 0 < z.cps.size from e1), Array.getElem?_eq_getElem _⟩
          have nmE : nameOk z = (decide (c0 ∈ small.cps.toList) && z.cps.toList.all fun c => decide (c ∈ small.cps.toList) || decide (c ∈ figs.cps.toList)) := by
            unfold nameOk
            rw [hf0, decide_eq_true (show 1 ≤ z.length ∧ z.length ≤ 12 from ⟨e1, e2⟩), Bool.true_and]
          refine ⟨_, rfl, z, 0, c0, rfl, rfl, Int.le_refl _, by decide, by omega, hf0, c0, small, rfl, rfl, _, rfl, ?_⟩
          by_cases hc0 : c0 ∈ small.cps.toList
          · rw [decide_eq_true hc0] at nmE ⊢
            refine iteF ?_
            refine ⟨_, rfl, z, rfl, fun D hD => ?_⟩
            refine lc_it walk_str (fun i H' => Evl.Ex H H' ∧ ∃ bs : List Bool, H' D = some (.lst (bs.map V.bl)) ∧ bs.all id = (z.cps.toList.take i).all (fun c => decide (c ∈ small.cps.toList) || decide (c ∈ figs.cps.toList)) ∧ bs.length = i) ⟨Evl.Ex.new hD, [], upd_same, rfl, rfl⟩ (fun _ _ _ _ => trivial) (fun i x H1 H2 hi hp hy => ?_) (fun H1 hp => ?_)
            · obtain ⟨e3, bs, e4, e5, e6⟩ := hp
              obtain ⟨rfl, c, hc, rfl⟩ := hy
              have hct : z.cps.toList[i]? = some c := by simpa using hc
              have tk : z.cps.toList.take (i + 1) = z.cps.toList.take i ++ [c] := by rw [List.take_add_one, hct]; rfl
              have hil : i < z.cps.toList.length := (List.getElem?_eq_some_iff.mp hct).1
              have hsz : bs.length < sizeLine := by
                have : z.cps.toList.length ≤ 12 := by rw [Array.length_toList]; exact e2
                rw [e6]
                exact Nat.lt_of_lt_of_le (show i < 12 by omega) (by decide)
              have fin : ∀ b, b = (decide (c ∈ small.cps.toList) || decide (c ∈ figs.cps.toList)) → ∃ acc, H2 D = some (.lst acc) ∧ acc.length < sizeLine ∧ Evl.Ex H (upd H2 D (.lst (acc ++ [.bl b]))) ∧ ∃ bs : List Bool, upd H2 D (.lst (acc ++ [.bl b])) D = some (.lst (bs.map V.bl)) ∧ bs.all id = (z.cps.toList.take (i + 1)).all (fun c => decide (c ∈ small.cps.toList) || decide (c ∈ figs.cps.toList)) ∧ bs.length = i + 1 := fun b hb =>
                ⟨_, e4, by rw [List.length_map]; exact hsz, fun a o e => by rw [upd_ne (fun q => by rw [q, hD] at e; cases e)]; exact e3 _ _ e, bs ++ [b], by rw [upd_same, List.map_append]; rfl, by
                  rw [tk, List.all_append, List.all_append, e5, hb]
                  rfl, by rw [List.length_append, e6]; rfl⟩
              refine ⟨rfl, _, rfl, c, small, rfl, rfl, _, rfl, ?_⟩
              by_cases hs : c ∈ small.cps.toList
              · refine ite2 (fun _ => fin _ ?_) (fun q => absurd (decide_eq_true hs) q)
                rw [decide_eq_true hs]
                rfl
              · refine ite2 (fun q => absurd (of_decide_eq_true q) hs) (fun q => ⟨_, rfl, c, figs, rfl, rfl, fin _ ?_⟩)
                rw [decide_eq_false hs, Bool.false_or]
            · obtain ⟨e3, bs, e4, e5, e6⟩ := hp
              refine ⟨D, bs, rfl, SqL.of e4, ?_⟩
              rw [nmE, Bool.true_and] at k
              have e7 : (z.cps.toList.take z.cps.size) = z.cps.toList := List.take_of_length_le (by simp)
              rw [e7] at e5
              rw [e5]
              exact k _ e3
          · rw [decide_eq_false hc0] at nmE ⊢
            rw [nmE, Bool.false_and] at k
            exact iteT (k _ (Evl.Ex.refl _))
        · have e3 : decide (((z.length : Nat) : Int) ≤ 12) = false := decide_eq_false (by omega)
          rw [e3]
          have nmE : nameOk z = false := by
            unfold nameOk
            rw [decide_eq_false (fun h => e2 h.2), Bool.false_and, Bool.false_and]
          rw [nmE] at k
          exact iteT (k _ (Evl.Ex.refl _))
      · have nmE : nameOk z = false := by
          unfold nameOk
          rw [decide_eq_false (fun h => e1 h.1), Bool.false_and, Bool.false_and]
        rw [nmE] at k
        refine ite2 (fun q => absurd (of_decide_eq_true q) (by omega)) (fun _ => ⟨_, rfl, iteT (k _ (Evl.Ex.refl _))⟩)
    | _ => exact iteT (k _ (Evl.Ex.refl _))
end
end K07

namespace K07
open PySem PySem.Spec PyProof.Rows L2 Tr Sq Dk
/-! ### is_house, rooted, steps_towards -/
/-- the class: its methods -/
structure VC (P : Program) (w : World) (K : PySem.W.Frag) (mg : Str → Option Value) (base : Heap) (C : Addr) : Prop where
  cl : Cls K C
  n1 : NoAttr K C "_houses"
  n2 : NoAttr K C "_paths"
  n3 : NoAttr K C "_near"
  hs : ∃ f fd, Meth K C "houses" f ∧ FnOk P w K mg base CX0 1 f fd ["self"] (spHouses K) ∧ L2.Binds K fd ["self"] []
  nr : ∃ f fd, Meth K C "near" f ∧ FnOk P w K mg base CX0 1 f fd ["self"] (spNearM K) ∧ L2.Binds K fd ["self"] []
abbrev sIsHouse : Stmt := top 26
def isHouse (hs : List Str) : V → Bool
  | .str z => decide (z ∈ hs)
  | _ => false
def spIsHouse (C : Addr) : Sp := fun vs H Q _ => ∃ (v : Addr) (x : V) (n : String) (hs : List Str) (ps : Prs) (m : VilD), vs = [.ref v, x] ∧ Vil H C v hs ps m ∧ Pl H x n ∧ Q (.bl (isHouse hs x)) H
def optV : Option Str → V
  | none => .non
  | some z => .str z
/-- told pairs: a house, the one before it -/
abbrev LvL : Type := List (Addr × Str × Option Str)
def LvAt (H : Hp) (M : LvL) : Prop := ∀ t ∈ M, H t.1 = some (.tup [.str t.2.1, optV t.2.2])
def lvRefs (M : LvL) : List V := M.map fun t => .ref t.1
theorem LvAt.ex {H H' : Hp} {M : LvL} (h : LvAt H M) (e : Evl.Ex H H') : LvAt H' M := fun t ht => e _ _ (h t ht)
def spRooted (C : Addr) : Sp := fun vs H Q _ => ∃ (v : Addr) (r : Str) (hs : List Str) (ps : Prs) (m : VilD) (f : Str → Option Str), vs = [.ref v, .str r] ∧ Vil H C v hs ps m ∧ Tree hs ps ∧ r ∈ hs ∧ hs.length ≤ 30 ∧ Rt hs ps r f ∧
  ∀ (q : Addr) (M : LvL) (H' : Hp), Evl.Ex H H' → H q = none → H' q = some (.lst (lvRefs M)) → LvAt H' M → (∀ t ∈ M, t.2.2 = f t.2.1 ∧ t.2.1 ∈ hs) → (∀ x ∈ hs, ∃ t ∈ M, t.2.1 = x) → M.length ≤ 1000 →
    (M.map (·.2)).head? = some (r, none) → (∀ i q, (M.map (·.2))[i + 1]? = some q → ∃ b, q.2 = some b ∧ b ∈ ((M.map (·.2)).take (i + 1)).map (·.1)) → Q (.ref q) H'
def spSteps (C : Addr) : Sp := fun vs H Q _ => ∃ (v : Addr) (r : Str) (hs : List Str) (ps : Prs) (m : VilD) (f : Str → Option Str), vs = [.ref v, .str r] ∧ Vil H C v hs ps m ∧ Tree hs ps ∧ r ∈ hs ∧ hs.length ≤ 30 ∧ Rt hs ps r f ∧
  ∀ (d : Addr) (ks : List Str) (H' : Hp), Evl.Ex H H' → H d = none → H' d = some (.dK (tab ks fun x => optV (f x))) → (∀ x ∈ hs, x ∈ ks) → Q (.ref d) H'
/-- while going outward: so many levels left -/
def wRoot (H : Hp) (v d to : Addr) (r : Str) (hs : List Str) (f : Str → Option Str) (mm : Nat) (σ : L2.St) (H' : Hp) : Prop := ∃ (i aA : Nat) (M A : LvL) (v5 v6 v7 v8 : Option V), mm + i = hs.length + 1 ∧ σ = [some (.ref v), some (.str r), some (.ref d), some (.ref to), some (.ref aA), v5, v6, v7, v8] ∧ Evl.Ex H H' ∧ H' to = some (.lst (lvRefs M)) ∧ H' aA = some (.lst (lvRefs A)) ∧ aA ≠ to ∧
  LvAt H' M ∧ LvAt H' A ∧ Lev hs r f i (A.map (·.2)) ∧ Tot hs r f (M.map (·.2)) (A.map (·.2)) ∧ M.length ≤ 30 * (i + 1) ∧ i ≤ hs.length
/-- the level that is being told: so many gone through -/
def inRoot (H3 : Hp) (D : Addr) (ps : Prs) (A : Lv) (more : Lv) (H' : Hp) : Prop := Evl.Ex H3 H' ∧ ∃ B : LvL, H' D = some (.lst (lvRefs B)) ∧ LvAt H' B ∧ B.map (·.2) = nxt ps A ++ more
section
variable {P : Program} {w : World} {K : PySem.W.Frag} {mg : Str → Option Value} {base : Heap}
theorem scIsHouse : FnScope ["village", "thing"] ["village", "thing"] (defScope sIsHouse) := ⟨rfl, rfl, rfl, by decide +kernel, rfl, by decide +kernel, by decide +kernel⟩
theorem ok_isHouse {C f : Addr} {fd : FuncData} (F : FnP K "is_house" sIsHouse f fd) (c : VC P w K mg base C) (gI : mg "isinstance" = none) (gT : mg "str" = none) : FnOk P w K mg base CX0 2 f fd ["village", "thing"] (spIsHouse C) := by
  obtain ⟨fN, fdN, mN, GN, bN⟩ := c.nr
  refine F.ok scIsHouse (fun vs H Q E h => ?_) (fun cdv A outer s H vs Q E hr h => ?_)
  · obtain ⟨v, x, n, hs, ps, m, rfl, _⟩ := h
    rfl
  · obtain ⟨v, x, n, hs, ps, m, rfl, V, hx, k⟩ := h
    refine ⟨_, PSs.nox (pss_one (ps_ret (pe_and (pe_callB call_isi rfl gI (by decide +kernel) (pa_cons (pv 1) (pa_cons (pe_bltn (v := .ty "str") rfl gT (by decide +kernel) rfl) pa_nil)))
      (pe_one (pe_cmp (pc_din (hu_of hr) (pv 1) (pe_meth0 (pv 0) c.cl mN GN hr bN .nil pass0)) rfl))))), ?_⟩
    refine ⟨_, rfl, _, _, _, _, _, rfl, .ty _, hx.ty, hx.one "str", _, rfl, ?_⟩
    cases hx with
    | str z =>
      refine iteT ⟨_, rfl, _, rfl, v, m.dx, _, rfl, V.at_, rfl, v, C, hs, ps, m, rfl, c.cl, c.n3, V, m.d, _, rfl, DGet.k (k := Sum.inr z) V.nr.1, ?_⟩
      rw [val_tab]
      have k : Q (.bl (decide (z ∈ hs))) H := k
      by_cases hz : z ∈ hs
      · rw [if_pos hz]
        rw [decide_eq_true hz] at k
        exact k
      · rw [if_neg hz]
        rw [decide_eq_false hz] at k
        exact k
    | _ => exact iteF k
end
end K07

namespace K07
open PySem PySem.Spec PyProof.Rows L2 Tr Sq Dk Exs
/-! ### a list or a tuple of plain things, or neither (for laws without first_no_house) -/
/-- a list or a tuple of things, or neither -/
inductive RX (H : Hp) : V → Option (List V) → Prop
  | lst {a : Addr} {xs : List V} (h : H a = some (.lst xs)) (hp : ∀ y ∈ xs, ∃ n, Pl H y n) (hl : xs.length ≤ 1000) : RX H (.ref a) (some xs)
  | tup {a : Addr} {xs : List V} (h : H a = some (.tup xs)) (hp : ∀ y ∈ xs, ∃ n, Pl H y n) (hl : xs.length ≤ 1000) : RX H (.ref a) (some xs)
  | not {x : V} {n : String} (h : Pl H x n) (hn : lstB n = false) : RX H x none
theorem RX.ex {H H' : Hp} {x : V} {o : Option (List V)} (h : RX H x o) (e : Evl.Ex H H') : RX H' x o := by
  cases h with
  | lst h hp hl => exact .lst (e _ _ h) (fun y hy => (hp y hy).imp fun n q => q.ext e) hl
  | tup h hp hl => exact .tup (e _ _ h) (fun y hy => (hp y hy).imp fun n q => q.ext e) hl
  | not h hn => exact .not (h.ext e) hn
/-- its kind -/
theorem RX.pl {H : Hp} {x : V} {o : Option (List V)} (h : RX H x o) : ∃ n, Pl H x n ∧ lstB n = o.isSome := by
  cases h with
  | lst h hp hl => exact ⟨"list", .lst h, rfl⟩
  | tup h hp hl => exact ⟨"tuple", .tup h, rfl⟩
  | not h hn => exact ⟨_, h, hn⟩
theorem RX.sq {K : PySem.W.Frag} {H : Hp} {x : V} {xs : List V} (h : RX H x (some xs)) : ∃ t a, x = .ref a ∧ (∀ H', Evl.Ex H H' → SqK K H' t a xs) ∧ (∀ y ∈ xs, ∃ n, Pl H y n) ∧ xs.length ≤ 1000 := by
  cases h with
  | @lst a _ h hp hl => exact ⟨false, a, rfl, fun H' e => SqL.of (e _ _ h), hp, hl⟩
  | @tup a _ h hp hl => exact ⟨true, a, rfl, fun H' e => SqT.of (e _ _ h), hp, hl⟩
theorem sqk_or {K : PySem.W.Frag} {H : Hp} {t : Bool} {a : Addr} {xs : List V} (h : SqK K H t a xs) : SqL K H a xs ∨ SqT K H a xs := by
  cases t with
  | true => exact .inr h
  | false => exact .inl h
end K07

namespace K07
open PySem PySem.Spec PyProof.Rows L2 Tr Sq Dk Exs
/-! ### check_houses of anything -/
def flawFrom (seen : List V) : List V → Nat → Option Nat
  | [], _ => none
  | y :: r, i => if isNm y = true ∧ y ∉ seen then flawFrom (seen ++ [y]) r (i + 1) else some i
def houseFlaw : Option (List V) → Option Nat
  | none => some 0
  | some xs => if xs.length = 0 then some 0 else flawFrom [] xs 0
theorem flawFrom_step {xs : List V} {i : Nat} {y : V} (hy : xs[i]? = some y) : flawFrom (xs.take i) (xs.drop i) i = if isNm y = true ∧ y ∉ xs.take i then flawFrom (xs.take (i + 1)) (xs.drop (i + 1)) (i + 1) else some i := by
  have hi := (List.getElem?_eq_some_iff.mp hy).1
  have e1 : xs.drop i = y :: xs.drop (i + 1) := by
    rw [List.drop_eq_getElem_cons hi]
    congr 1
    exact (List.getElem?_eq_some_iff.mp hy).2
  have e2 : xs.take (i + 1) = xs.take i ++ [y] := by rw [List.take_add_one, hy]; rfl
  rw [e1, e2]
  rfl
def spCheckX (CH : Addr) : Sp := fun vs H Q E => ∃ (x : V) (o : Option (List V)), vs = [x] ∧ RX H x o ∧ (∀ xs, o = some xs → ∀ z, V.str z ∈ xs → z.length ≤ 1000) ∧
  (houseFlaw o = none → ∀ H', Evl.Ex H H' → Q .non H') ∧ (∀ i, houseFlaw o = some i → ∀ H' d, Evl.Ex H H' → H' d = none → E (.ref CH) (some d) (upd H' d (.xd [("index", .int (i : Nat))])))
section
variable {P : Program} {w : World} {K : PySem.W.Frag} {mg : Str → Option Value} {base : Heap}
theorem ok_checkX {CH f f1 fN fL : Addr} {fd fdN fdL : FuncData} (F : FnP K "check_houses" sCheck f fd) (T1 : Err P w K mg base "BadHouses" "index" CH f1) (GN : FnOk P w K mg base CX0 1 fN fdN ["thing"] spIsNameX) (bN : L2.Binds K fdN ["thing"] []) (kN : PySem.W.keepIn K (.ref fN) = true) (gN : mg "is_name" = some (.ref fN))
    (GL : FnOk P w K mg base CX0 1 fL fdL ["thing"] spIsLst) (bL : L2.Binds K fdL ["thing"] []) (kL : PySem.W.keepIn K (.ref fL) = true) (gLs : mg "is_listed" = some (.ref fL)) (gLe : mg "len" = none) (gE : mg "enumerate" = none) : FnOk P w K mg base (L2.CX P w) 3 f fd ["houses"] (spCheckX CH) := by
  refine F.ok scCheck (fun vs H Q E h => ?_) (fun cdv A outer s H vs Q E hr h => ?_)
  · obtain ⟨x, o, rfl, _⟩ := h
    rfl
  · obtain ⟨x, o, rfl, hx, hlen, k1, k2⟩ := h
    refine ⟨_, pss_cons (ps_if (PW.pt (pw_or (pt_not (pt_val (pe_call GL (hr.mono (by decide)) rfl gLs kL bL .nil pass0 (pa_cons (pv 0) pa_nil)))) (pw_or1 (pt_cmpR op_eq (pe_callB call_len_seq (by rfl) gLe PySem.boot_len (pa_cons (pv 0) pa_nil)) pe_int (nomark _))))) (pss_one (ps_raise1 rfl T1 (hr.mono (by decide)) (takes_of rfl rfl rfl rfl) rfl pe_int)) pss_nil)
      (pss_cons (ps_set (i := 1) scCheck.nd rfl (.inl rfl) pe_dnewK)
      (pss_one (ps_for (PassesOwn.leaving) rfl (pi_enumA rfl gE (pa_cons (pv 0) pa_nil)) (pg_tup rfl (pgs_cons (pg_name (i := 2) scCheck.nd rfl (.inl rfl)) (pgs_cons (pg_name (i := 3) scCheck.nd rfl (.inl rfl)) pgs_nil)))
        (pss_cons (ps_if (PW.pt (pw_or (pt_not (pt_val (pe_call GN (hr.mono (by decide)) rfl gN kN bN .nil pass0 (pa_cons (pv 3) pa_nil)))) (pw_or1 (pt_cmp (pc_din (hu_of hr) (pv 3) (pv 1)) rfl)))) (pss_one (ps_raise1 rfl T1 (hr.mono (by decide)) (takes_of rfl rfl rfl rfl) rfl (pv 2))) pss_nil)
        (pss_one (ps_dput (hu_of hr) (pv 1) (pv 3) pe_bl rfl)))))), ?_⟩
    obtain ⟨n, hn, hlb⟩ := hx.pl
    refine ⟨_, rfl, x, n, rfl, hn, fun H1 x1 => ⟨_, rfl, ?_⟩⟩
    cases o with
    | none =>
      rw [hlb]
      exact iteT (raiseP fun d hd => k2 0 rfl H1 d x1 hd)
    | some xs =>
      rw [hlb]
      refine iteF ?_
      obtain ⟨t, a, rfl, hsq, hpl, hl1⟩ := hx.sq (K := K)
      refine ⟨_, rfl, a, xs, rfl, sqk_or (hsq _ x1), rfl, _, rfl, ?_⟩
      by_cases hx0 : xs.length = 0
      · refine ite2 (fun _ => raiseP fun d hd => k2 0 (by show (if xs.length = 0 then some 0 else _) = _; rw [if_pos hx0]) H1 d x1 hd) (fun w => absurd (by rw [hx0]; rfl) w)
      refine ite2 (fun w => absurd (of_decide_eq_true w) (fun w => hx0 (by injection w with w; omega))) (fun _ => ?_)
      have k1 : flawFrom [] xs 0 = none → ∀ H', Evl.Ex H H' → Q .non H' := fun h => k1 (by show (if xs.length = 0 then some 0 else _) = _; rw [if_neg hx0]; exact h)
      have k2 : ∀ i, flawFrom [] xs 0 = some i → ∀ H' d, Evl.Ex H H' → H' d = none → E (.ref CH) (some d) (upd H' d (.xd [("index", .int (i : Nat))])) := fun i h => k2 i (by show (if xs.length = 0 then some 0 else _) = _; rw [if_neg hx0]; exact h)
      refine fun d hd => ⟨_, rfl, t, a, xs, rfl, hsq _ (x1.trans (Evl.Ex.new hd)), ?_⟩
      have hdH : H d = none := none_of (fun o z => x1 _ _ z) hd
      refine for_it (walk_enumA (xs := xs)) (fun i σ H' => ∃ v2 v3 zs, σ = [some (.ref a), some (.ref d), v2, v3] ∧ Evl.Ex H H' ∧ xs.take i = zs.map V.str ∧ H' d = some (.dK (tab zs fun _ => .bl true)) ∧ flawFrom [] xs 0 = flawFrom (xs.take i) (xs.drop i) i) ?_ ?_ ?_ ?_
      · exact ⟨none, none, [], rfl, x1.trans (Evl.Ex.new hd), rfl, upd_same, rfl⟩
      · rintro i σ H' _ ⟨v2, v3, zs, rfl, x2, _⟩
        exact hsq _ x2
      · rintro i y σ H' _ hi ⟨v2, v3, zs, rfl, x2, ez, e2, ef⟩ ⟨T, u, z, rfl, hT, rfl, hu, hz⟩
        injection hu with hu
        subst hu
        have hz : xs[i]? = some z := hz
        have hzm := List.mem_of_getElem? hz
        obtain ⟨mm, hm⟩ := hpl z hzm
        have xt := Evl.Ex.new (o := .tup [.int (i : Nat), z]) hT
        have x3 := x2.trans xt
        have step := flawFrom_step hz
        have zl : zs.length = i := by
          have := congrArg List.length ez
          rw [List.length_take, List.length_map] at this
          omega
        refine ⟨T, _, rfl, SqT.of upd_same, rfl, _, _, rfl, _, _, rfl, rfl, _, rfl, z, mm, rfl, hm.ext x3, fun w hw => hlen xs rfl w (by rw [← hw]; exact hzm), fun H4 x4 => ⟨_, rfl, ?_⟩⟩
        have e4 : H4 d = some (.dK (tab zs fun _ => .bl true)) := x4 _ _ (xt _ _ e2)
        have x34 := x3.trans x4
        have bad : ¬ (isNm z = true ∧ z ∉ xs.take i) → ∀ dd, H4 dd = none → E (.ref CH) (some dd) (upd H4 dd (.xd [("index", .int (i : Nat))])) := fun h dd hdd => k2 i (by rw [ef, step, if_neg h]) H4 dd x34 hdd
        cases hnz : isNm z with
        | false => exact iteT ⟨_, rfl, raiseP fun dd hdd => bad (by rw [hnz]; simp) dd hdd⟩
        | true =>
          obtain ⟨w, rfl⟩ : ∃ w, z = .str w := by
            cases z with
            | str w => exact ⟨w, rfl⟩
            | _ => cases hnz
          refine iteF ?_
          refine ⟨_, rfl, _, rfl, d, _, rfl, DGet.k (k := Sum.inr w) e4, _, rfl, ?_⟩
          have mem : V.str w ∈ xs.take i ↔ w ∈ zs := by
            rw [ez]
            constructor
            · intro h
              obtain ⟨w2, h2, e⟩ := List.mem_map.mp h
              rw [← V.str.inj e]
              exact h2
            · exact fun h => List.mem_map.mpr ⟨w, h, rfl⟩
          by_cases hw : w ∈ zs
          · rw [val_in hw]
            exact iteT ⟨_, rfl, raiseP fun dd hdd => bad (fun h => h.2 (mem.mpr hw)) dd hdd⟩
          · rw [val_out hw]
            refine iteF ⟨_, rfl, _, rfl, d, _, rfl, DPut.k (k := Sum.inr w) e4 ?_, ?_⟩
            · rw [tab_length, zl]
              exact Nat.lt_of_le_of_lt (show i ≤ 1000 by have := (List.getElem?_eq_some_iff.mp hz).1; omega) (by decide)
            · refine ⟨_, _, zs ++ [w], rfl, ex_upd x34 hdH, ?_, ?_, ?_⟩
              · rw [List.take_add_one, hz, ez, List.map_append]
                rfl
              · rw [upd_same, put_new hw]
                congr 2
                exact tab_congr fun x _ => by split <;> rfl
              · rw [ef, step, if_pos ⟨hnz, fun h => hw (mem.mp h)⟩]
      · rintro σ H' ⟨v2, v3, zs, rfl, x2, ez, e2, ef⟩
        refine k1 ?_ _ x2
        rw [ef, List.drop_of_length_le (Nat.le_refl _)]
        rfl
end
end K07

namespace K07
open PySem PySem.Spec PyProof.Rows L2 Tr Sq Dk Exs
/-! ### is_pair of anything; errands_flaw, is_errands, ask_errands -/
theorem RX.lt2 {H : Hp} {x : V} {xs : List V} (h : RX H x (some xs)) : ∃ t a, x = .ref a ∧ Lt H t a xs := by
  cases h with
  | lst h hp hl => exact ⟨false, _, rfl, h⟩
  | tup h hp hl => exact ⟨true, _, rfl, h⟩
def pairO : Option (List V) → Bool
  | none => false
  | some xs => decide (xs.length = 2)
def spIsPairX : Sp := fun vs H Q _ => ∃ (x : V) (o : Option (List V)), vs = [x] ∧ RX H x o ∧ ∀ H', Evl.Ex H H' → Q (.bl (pairO o)) H'
def badRun (hs : List Str) : Option (List V) → Bool
  | some [x, y] => !(isHouse hs x && isHouse hs y) || decide (x = y)
  | _ => true
/-- a list or a tuple of things that may be rows, or neither -/
inductive EX (H : Hp) : V → Option (List (Option (List V))) → Prop
  | seq {t : Bool} {a : Addr} {xs : List V} {os : List (Option (List V))} (h : Lt H t a xs) (hp : Paired (RX H) xs os) (hl : xs.length ≤ 1000) : EX H (.ref a) (some os)
  | not {x : V} {n : String} (h : Pl H x n) (hn : lstB n = false) : EX H x none
theorem EX.ex {H H' : Hp} {x : V} {o : Option (List (Option (List V)))} (h : EX H x o) (e : Evl.Ex H H') : EX H' x o := by
  cases h with
  | seq h hp hl => exact .seq (h.ex e) (Paired.mapP hp fun _ _ z => z.ex e) hl
  | not h hn => exact .not (h.ext e) hn
theorem EX.pl {H : Hp} {x : V} {o : Option (List (Option (List V)))} (h : EX H x o) : ∃ n, Pl H x n ∧ lstB n = o.isSome := by
  cases h with
  | seq h hp hl =>
    obtain ⟨n, h1, h2⟩ := h.pl
    exact ⟨n, h1, h2⟩
  | not h hn => exact ⟨_, h, hn⟩
theorem EX.sq {H : Hp} {x : V} {os : List (Option (List V))} (h : EX H x (some os)) : ∃ t a xs, x = .ref a ∧ Lt H t a xs ∧ Paired (RX H) xs os ∧ xs.length ≤ 1000 := by
  cases h with
  | seq h hp hl => exact ⟨_, _, _, rfl, h, hp, hl⟩
theorem pair_of {o : Option (List V)} (h : pairO o = true) : ∃ x y, o = some [x, y] := by
  rcases o with _ | xs
  · cases h
  · have h : decide (xs.length = 2) = true := h
    have h := of_decide_eq_true h
    rcases xs with _ | ⟨x, _ | ⟨y, _ | ⟨z, r⟩⟩⟩
    · cases h
    · cases h
    · exact ⟨x, y, rfl⟩
    · simp at h
theorem paired_get {α β : Type} {F : α → β → Prop} : ∀ {xs : List α} {ys : List β}, Paired F xs ys → ∀ {i : Nat} {x : α}, xs[i]? = some x → ∃ y, ys[i]? = some y ∧ F x y
  | _, _, .nil, i, x, h => by simp at h
  | _, _, .cons a b, 0, x, h => by
    simp only [List.getElem?_cons_zero, Option.some.injEq] at h
    subst h
    exact ⟨_, rfl, a⟩
  | _, _, .cons a b, i + 1, x, h => by
    rw [List.getElem?_cons_succ] at h
    obtain ⟨y, h1, h2⟩ := paired_get b h
    exact ⟨y, by rw [List.getElem?_cons_succ]; exact h1, h2⟩
def flawE (hs : List Str) : Option (List (Option (List V))) → V
  | none => .int 0
  | some os => match os.findIdx? (badRun hs) with
    | some i => .int (i : Nat)
    | none => .non
theorem flawE_some {hs : List Str} {os : List (Option (List V))} {i : Nat} {o : Option (List V)} (h : ∀ j z, j < i → os[j]? = some z → badRun hs z = false) (hy : os[i]? = some o) (hn : badRun hs o = true) : flawE hs (some os) = .int (i : Nat) := by
  have : os.findIdx? (badRun hs) = some i := by
    rw [List.findIdx?_eq_some_iff_getElem]
    have hi : i < os.length := (List.getElem?_eq_some_iff.mp hy).1
    refine ⟨hi, ?_, fun j hj => ?_⟩
    · have : os[i] = o := Option.some.inj (by rw [← hy, List.getElem?_eq_getElem hi])
      rw [this, hn]
    · have hj' : j < os.length := by omega
      rw [h j os[j] hj (List.getElem?_eq_getElem hj')]
      decide
  show (match os.findIdx? (badRun hs) with
    | some i => V.int (i : Nat)
    | none => .non) = _
  rw [this]
theorem flawE_none {hs : List Str} {os : List (Option (List V))} (h : ∀ j z, j < os.length → os[j]? = some z → badRun hs z = false) : flawE hs (some os) = .non := by
  have : os.findIdx? (badRun hs) = none := by
    rw [List.findIdx?_eq_none_iff]
    intro x hx
    obtain ⟨j, hj, rfl⟩ := List.getElem_of_mem hx
    exact h j _ hj (List.getElem?_eq_getElem hj)
  show (match os.findIdx? (badRun hs) with
    | some i => V.int (i : Nat)
    | none => .non) = _
  rw [this]
theorem flawE_or (hs : List Str) (o : Option (List (Option (List V)))) : flawE hs o = .non ∨ ∃ i : Nat, flawE hs o = .int (i : Nat) := by
  unfold flawE
  split
  · exact .inr ⟨0, rfl⟩
  · split
    · exact .inr ⟨_, rfl⟩
    · exact .inl rfl
def spErrF (C : Addr) : Sp := fun vs H Q _ => ∃ (v : Addr) (x : V) (o : Option (List (Option (List V)))) (hs : List Str) (ps : Prs) (m : VilD), vs = [.ref v, x] ∧ Vil H C v hs ps m ∧ EX H x o ∧ ∀ H', Evl.Ex H H' → Q (flawE hs o) H'
def spIsErr (C : Addr) : Sp := fun vs H Q _ => ∃ (v : Addr) (x : V) (o : Option (List (Option (List V)))) (hs : List Str) (ps : Prs) (m : VilD), vs = [.ref v, x] ∧ Vil H C v hs ps m ∧ EX H x o ∧ ∀ H', Evl.Ex H H' → Q (.bl (decide (flawE hs o = .non))) H'
def spAskE (C CR : Addr) : Sp := fun vs H Q E => ∃ (v : Addr) (x : V) (o : Option (List (Option (List V)))) (hs : List Str) (ps : Prs) (m : VilD), vs = [.ref v, x] ∧ Vil H C v hs ps m ∧ EX H x o ∧
  (flawE hs o = .non → ∀ H', Evl.Ex H H' → Q .non H') ∧ (flawE hs o ≠ .non → ∀ H' d, Evl.Ex H H' → H' d = none → E (.ref CR) (some d) (upd H' d (.xd [("index", flawE hs o)])))
abbrev nmEF : List Str := ["village", "thing", "index", "run", "house"]
section
variable {P : Program} {w : World} {K : PySem.W.Frag} {mg : Str → Option Value} {base : Heap}
theorem ok_isPairX {f fL : Addr} {fd fdL : FuncData} (F : FnP K "is_pair" sIsPair f fd) (GL : FnOk P w K mg base CX0 1 fL fdL ["thing"] spIsLst) (bL : L2.Binds K fdL ["thing"] []) (kL : PySem.W.keepIn K (.ref fL) = true) (gLs : mg "is_listed" = some (.ref fL)) (gLe : mg "len" = none) :
    FnOk P w K mg base CX0 2 f fd ["thing"] spIsPairX := by
  refine F.ok scIsPair (fun vs H Q E h => ?_) (fun cdv A outer s H vs Q E hr h => ?_)
  · obtain ⟨x, o, rfl, _⟩ := h
    rfl
  · obtain ⟨x, o, rfl, hx, k⟩ := h
    refine ⟨_, PSs.nox (pss_one (ps_ret (pe_and (pe_call GL hr rfl gLs kL bL .nil pass0 (pa_cons (pv 0) pa_nil)) (pe_one (pe_cmpR op_eq (pe_callB call_len_seq (by rfl) gLe PySem.boot_len (pa_cons (pv 0) pa_nil)) pe_int (nomark _)))))), ?_⟩
    obtain ⟨n, hn, hlb⟩ := hx.pl
    refine ⟨_, rfl, x, n, rfl, hn, fun H1 x1 => ⟨_, rfl, ?_⟩⟩
    cases o with
    | none =>
      rw [hlb]
      exact iteF (k _ x1)
    | some xs =>
      rw [hlb]
      obtain ⟨t, a, rfl, hq, hpl, hl1⟩ := hx.sq (K := K)
      refine iteT ⟨_, rfl, a, xs, rfl, sqk_or (hq _ x1), rfl, ?_⟩
      have e : decide (V.int (xs.length : Nat) = V.int 2) = pairO (some xs) := by
        show _ = decide (xs.length = 2)
        rw [Bool.eq_iff_iff]
        simp
        omega
      rw [e]
      exact k _ x1
end
end K07

namespace K07
open PySem PySem.Spec PyProof.Rows L2 Tr Sq Dk Exs
/-! ### checked_paths of what is wrong -/
/-- the groups when one path more is told -/
def joinG (g : Str → Str) (a b : Str) : Str → Str := fun x => if g x = g b then g a else g x
/-- the first path that is wrong, or the groups of all -/
def pathsFrom (hs : List Str) (g : Str → Str) : List (Option (List V)) → Nat → Sum Nat (Str → Str)
  | [], _ => .inr g
  | some [.str a, .str b] :: r, i => if a ∈ hs ∧ b ∈ hs ∧ g a ≠ g b then pathsFrom hs (joinG g a b) r (i + 1) else .inl i
  | _ :: _, i => .inl i
def pathsO (hs : List Str) : Option (List (Option (List V))) → Sum Nat (Str → Str)
  | none => .inl 0
  | some os => pathsFrom hs id os 0
def spPathsX (CP CJ : Addr) : Sp := fun vs H Q E => ∃ (l : Addr) (x : V) (hs : List Str) (h0 : Str) (o : Option (List (Option (List V)))), vs = [.ref l, x] ∧ H l = some (.lst (hs.map V.str)) ∧ hs.Nodup ∧ hs.head? = some h0 ∧ hs.length ≤ 1000 ∧ EX H x o ∧
  ((∃ i, pathsO hs o = .inl i ∧ ∀ H' d, Evl.Ex H H' → H' d = none → E (.ref CP) (some d) (upd H' d (.xd [("index", .int (i : Nat))]))) ∨
   ∃ g h, pathsO hs o = .inr g ∧ hs.find? (fun h => decide (g h ≠ g h0)) = some h ∧ ∀ H' d, Evl.Ex H H' → H' d = none → E (.ref CJ) (some d) (upd H' d (.xd [("house", .str h)])))
theorem find_first {α : Type} {P : α → Bool} : ∀ {l : List α} {i : Nat} {x : α}, (∀ y ∈ l.take i, P y = false) → l[i]? = some x → P x = true → l.find? P = some x
  | [], i, x, _, h, _ => by simp at h
  | a :: l, 0, x, _, h, k => by
    simp only [List.getElem?_cons_zero, Option.some.injEq] at h
    subst h
    rw [List.find?_cons, k]
  | a :: l, i + 1, x, hl, h, k => by
    rw [List.getElem?_cons_succ] at h
    rw [List.find?_cons, hl a (by simp)]
    exact find_first (fun y hy => hl y (by rw [List.take_succ_cons]; exact List.mem_cons_of_mem _ hy)) h k
theorem pathsFrom_ok {hs : List Str} {g : Str → Str} {a b : Str} {r : List (Option (List V))} {i : Nat} (h : a ∈ hs ∧ b ∈ hs ∧ g a ≠ g b) : pathsFrom hs g (some [.str a, .str b] :: r) i = pathsFrom hs (joinG g a b) r (i + 1) := by
  show (if _ then _ else _) = _
  rw [if_pos h]
theorem pathsFrom_no {hs : List Str} {g : Str → Str} {o : Option (List V)} {r : List (Option (List V))} {i : Nat} (h : ∀ a b, o = some [.str a, .str b] → ¬ (a ∈ hs ∧ b ∈ hs ∧ g a ≠ g b)) : pathsFrom hs g (o :: r) i = .inl i := by
  unfold pathsFrom
  split
  · rename_i h1
    cases h1
  · rename_i h1
    injection h1 with h3 h4
    rw [if_neg (h _ _ h3)]
  · rfl
section
variable {P : Program} {w : World} {K : PySem.W.Frag} {mg : Str → Option Value} {base : Heap}
theorem ok_pathsX {CP CJ f f1 f2 fL fP fJ fB : Addr} {fd fdL fdP fdJ fdB : FuncData} (F : FnP K "checked_paths" sPathsC f fd) (T1 : Err P w K mg base "BadPaths" "index" CP f1) (T2 : Err P w K mg base "NotJoined" "house" CJ f2)
    (GL : FnOk P w K mg base CX0 1 fL fdL ["thing"] spIsLst) (bL : L2.Binds K fdL ["thing"] []) (kL : PySem.W.keepIn K (.ref fL) = true) (gLs : mg "is_listed" = some (.ref fL))
    (GP : FnOk P w K mg base CX0 2 fP fdP ["thing"] spIsPairX) (bP : L2.Binds K fdP ["thing"] []) (kP : PySem.W.keepIn K (.ref fP) = true) (gP : mg "is_pair" = some (.ref fP))
    (GJ : FnOk P w K mg base CX0 1 fJ fdJ ["group", "one", "other"] spJoined) (bJ : L2.Binds K fdJ ["group", "one", "other"] []) (kJ : PySem.W.keepIn K (.ref fJ) = true) (gJ : mg "joined_groups" = some (.ref fJ))
    (GB : FnOk P w K mg base CX0 1 fB fdB ["one", "other"] spBetween) (bB : L2.Binds K fdB ["one", "other"] []) (kB : PySem.W.keepIn K (.ref fB) = true) (gB : mg "path_between" = some (.ref fB))
    (gI : mg "isinstance" = none) (gT : mg "str" = none) (gE : mg "enumerate" = none) (gA : mg "all" = none) : FnOk P w K mg base (L2.CX P w) 4 f fd ["houses", "paths"] (spPathsX CP CJ) := by
  refine F.ok scPathsC (fun vs H Q E h => ?_) (fun cdv A outer s H vs Q E hr h => ?_)
  · obtain ⟨l, x, hs, h0, o, rfl, _⟩ := h
    rfl
  · obtain ⟨l, x, hs, h0, o, rfl, hl, hnd, hh0, h1k, hx, k⟩ := h
    refine' ⟨_, pss_cons (ps_if (pt_not (pt_val (pe_call GL (hr.mono (by decide)) rfl gLs kL bL .nil pass0 (pa_cons (pv 1) pa_nil)))) (pss_one (ps_raise1 rfl T1 (hr.mono (by decide)) (takes_of rfl rfl rfl rfl) rfl pe_int)) pss_nil)
      (pss_cons (ps_set (i := 2) scPathsC.nd rfl (.inr rfl) ?dc)
      (pss_cons (ps_set (i := 3) scPathsC.nd rfl (.inl rfl) (pe_lst pa_nil))
      (pss_cons (ps_for (PassesOwn.leaving) rfl (pi_enumA rfl gE (pa_cons (pv 1) pa_nil)) (pg_tup rfl (pgs_cons (pg_name (i := 4) scPathsC.nd rfl (.inl rfl)) (pgs_cons (pg_name (i := 5) scPathsC.nd rfl (.inl rfl)) pgs_nil)))
        (pss_cons (ps_if (PW.pt (pw_or (pt_not (pt_val (pe_call GP (hr.mono (by decide)) rfl gP kP bP .nil pass0 (pa_cons (pv 5) pa_nil)))) (pw_or1 (pt_not (pt_val (pe_callB (cr_all rfl) (by rfl) gA (by decide +kernel) (pa_cons ?lc pa_nil))))))) (pss_one (ps_raise1 rfl T1 (hr.mono (by decide)) (takes_of rfl rfl rfl rfl) rfl (pv 4))) pss_nil)
        (pss_cons (ps_if (pt_cmpR op_eq (pe_dget (hu_of hr) (pv 2) (pe_ix ix_seq (pv 5) pe_int (fun _ _ => rfl)) (fun _ _ => rfl)) (pe_dget (hu_of hr) (pv 2) (pe_ix ix_seq (pv 5) pe_int (fun _ _ => rfl)) (fun _ _ => rfl)) (nomark _)) (pss_one (ps_raise1 rfl T1 (hr.mono (by decide)) (takes_of rfl rfl rfl rfl) rfl (pv 4))) pss_nil)
        (pss_cons (ps_set (i := 2) scPathsC.nd rfl (.inr rfl) (pe_call GJ (hr.mono (by decide)) rfl gJ kJ bJ .nil pass0 (pa_cons (pv 2) (pa_cons (pe_dget (hu_of hr) (pv 2) (pe_ix ix_seq (pv 5) pe_int (fun _ _ => rfl)) (fun _ _ => rfl)) (pa_cons (pe_dget (hu_of hr) (pv 2) (pe_ix ix_seq (pv 5) pe_int (fun _ _ => rfl)) (fun _ _ => rfl)) pa_nil)))))
        (pss_one (ps_expr (pe_bm PySem.F.plainAttrs_list PySem.F.slot_list_append PySem.F.type_list_append mt_append (pv 3) (pa_cons (pe_call GB (hr.mono (by decide)) rfl gB kB bB .nil pass0 (pa_cons (pe_ix ix_seq (pv 5) pe_int (fun _ _ => rfl)) (pa_cons (pe_ix ix_seq (pv 5) pe_int (fun _ _ => rfl)) pa_nil))) pa_nil))))))))
      (pss_cons (ps_for (PassesOwn.leaving) rfl (pi_list (pv 0)) (pg_name (i := 6) scPathsC.nd rfl (.inl rfl))
        (pss_one (ps_if (pt_cmpR op_ne (pe_dget (hu_of hr) (pv 2) (pv 6) (fun _ _ => rfl)) (pe_dget (hu_of hr) (pv 2) (pe_ix ix_list (pv 0) pe_int (fun _ _ => rfl)) (fun _ _ => rfl)) (nomark _)) (pss_one (ps_raise1 rfl T2 (hr.mono (by decide)) (takes_of rfl rfl rfl rfl) rfl (pv 6))) pss_nil)))
      (pss_one ps_never))))), ?rd⟩
    case dc =>
      exact pe_dc (own := [("house", 6)]) (g := gName 6) (tt := tYes) (tk := tVar 6) (tv := tVar 6) rfl scPathsC.nd (pi_list (pv 0))
        (blkOk_by (own := [("house", 6)]) (N := ["houses", "paths", "group", "told", "index", "pair", "house"]) (sc := defScope sPathsC) (by decide +kernel)) (fun _ _ _ _ _ => pg_name (i := 6) scPathsC.nd rfl (.inl rfl)) (fun _ _ _ _ _ => pts_nil) (fun _ _ _ _ _ => pv 6) (fun _ _ _ _ _ => pv 6)
    case lc =>
      refine pe_lc (own := [("house", 6)]) (g := gName 6) (tt := tYes) (te := tAndV (tCB (rIsi K) (tCons (tVar 6) (tCons (tC (.ty "str")) tNil))) (tDIn (tVar 6) (tVar 2))) rfl scPathsC.nd (pi_sq (pv 5))
        (blkOk_by (own := [("house", 6)]) (N := ["houses", "paths", "group", "told", "index", "pair", "house"]) (sc := defScope sPathsC) (by decide +kernel)) (fun _ _ _ _ _ => pg_name (i := 6) scPathsC.nd rfl (.inl rfl)) (fun _ _ _ _ _ => pts_nil) ?_
      intro _ _ _ _ _
      exact pe_and (pe_callB call_isi (by rfl) gI (by decide +kernel) (pa_cons (pv 6) (pa_cons (pe_bltn (v := .ty "str") rfl gT (by decide +kernel) rfl) pa_nil))) (pe_one (pe_cmp (pc_din (hu_of hr) (pv 6) (pv 2)) rfl))
    case rd =>
      obtain ⟨nmx, hpx, hlb⟩ := hx.pl
      refine ⟨_, rfl, x, nmx, rfl, hpx, fun H1 x1 => ⟨_, rfl, ?_⟩⟩
      cases o with
      | none =>
        rw [hlb]
        refine iteT (raiseP fun d hd => ?_)
        rcases k with ⟨i, e, k⟩ | ⟨g, h, e, _⟩
        · have e : (Sum.inl 0 : Sum Nat (Str → Str)) = .inl i := e
          injection e with e
          subst e
          exact k H1 d x1 hd
        · cases e
      | some os =>
      rw [hlb]
      refine iteF ?_
      obtain ⟨tq, q, xs, rfl, hq, hpr, hl1⟩ := hx.sq
      have k : (∃ i, pathsFrom hs id os 0 = .inl i ∧ ∀ H' d, Evl.Ex H H' → H' d = none → E (.ref CP) (some d) (upd H' d (.xd [("index", .int (i : Nat))]))) ∨ ∃ g h, pathsFrom hs id os 0 = .inr g ∧ hs.find? (fun h => decide (g h ≠ g h0)) = some h ∧ ∀ H' d, Evl.Ex H H' → H' d = none → E (.ref CJ) (some d) (upd H' d (.xd [("house", .str h)])) := k
      have m0 : h0 ∈ hs := List.mem_of_mem_head? hh0
      refine ⟨_, rfl, l, rfl, ⟨_, SqL.of (x1 _ _ hl)⟩, fun D hD => ?_⟩
      refine dc_it (walk_list (xs := hs.map V.str)) (fun i H' => Evl.Ex H H' ∧ H' D = some (.dK (tab (hs.take i) fun x => .str x))) ?_ ?_ ?_ ?_
      · exact ⟨x1.trans (Evl.Ex.new hD), upd_same⟩
      · intro i H' _ hp
        exact SqL.of (hp.1 _ _ hl)
      · rintro i y H2 H3 hi ⟨e1, e2⟩ ⟨rfl, hy⟩
        rw [List.length_map] at hi
        obtain ⟨h, hh⟩ := getD_of hi
        rw [List.getElem?_map, hh] at hy
        cases hy
        have hni : h ∉ hs.take i := fun z => by
          obtain ⟨j, hj⟩ := List.mem_iff_getElem?.mp z
          have lt : j < i := by
            have := (List.getElem?_eq_some_iff.mp hj).1
            rw [List.length_take] at this
            omega
          rw [List.getElem?_take_of_lt lt] at hj
          have := (List.getElem?_inj (by omega) hnd).mp (hj.trans hh.symm)
          omega
        refine ⟨rfl, _, rfl, _, rfl, _, Sum.inr h, rfl, e2, ?_, ex_upd e1 ?_, ?_⟩
        · rw [tab_length, List.length_take]
          exact Nat.lt_of_le_of_lt (show min i hs.length ≤ 1000 by omega) (by decide)
        · exact none_of (fun o z => x1 _ _ z) hD
        · rw [upd_same, put_new hni, List.take_add_one, hh]
          congr 2
          exact tab_congr fun x _ => by split <;> simp_all
      · rintro H2 ⟨x2, e2⟩
        rw [List.length_map, List.take_length] at e2
        refine ⟨by show 0 ≤ sizeLine; decide, fun fo hfo => ?_⟩
        have hfoH : H fo = none := none_of (fun o z => x2 _ _ z) hfo
        have hDf : D ≠ fo := ne_of_none e2 hfo
        refine ⟨_, rfl, tq, q, xs, rfl, (hq.ex (x2.trans (Evl.Ex.new hfo))).sq, ?_⟩
        refine for_it (walk_enumA (t := tq) (xs := xs)) (fun i σ H' => ∃ G g v4 v5 v6 ts, σ = [some (.ref l), some (.ref q), some (.ref G), some (.ref fo), v4, v5, v6] ∧ Evl.Ex H H' ∧ H' G = some (.dK (tab hs fun x => .str (g x))) ∧ H' fo = some (.lst ts) ∧ ts.length = i ∧ pathsFrom hs id os 0 = pathsFrom hs g (os.drop i) i) ?_ ?_ ?_ ?_
        · exact ⟨D, id, none, none, none, [], rfl, x2.trans (Evl.Ex.new hfo), by rw [upd_ne hDf]; exact e2, upd_same, rfl, rfl⟩
        · rintro i σ H' _ ⟨G, g, v4, v5, v6, ts, rfl, f1, _⟩
          exact (hq.ex f1).sq
        · rintro i y σ H3 H4 hi ⟨G, g, v4, v5, v6, ts, rfl, f1, f2, f4, f5, f6⟩ ⟨TT, u, z, rfl, hTT, rfl, hu, hz⟩
          injection hu with hu
          subst hu
          have hz : xs[i]? = some z := hz
          obtain ⟨oz, hoz, hrz⟩ := paired_get hpr hz
          have od : os.drop i = oz :: os.drop (i + 1) := by
            have hi2 := (List.getElem?_eq_some_iff.mp hoz).1
            rw [List.drop_eq_getElem_cons hi2]
            congr 1
            exact (List.getElem?_eq_some_iff.mp hoz).2
          rw [od] at f6
          refine ⟨TT, _, rfl, SqT.of upd_same, rfl, _, _, rfl, _, _, rfl, rfl, ?_⟩
          have xt := Evl.Ex.new (o := .tup [.int (i : Nat), z]) hTT
          have x4 := f1.trans xt
          have f2 := xt _ _ f2
          have f4 := xt _ _ f4
          generalize upd H3 TT (.tup [.int (i : Nat), z]) = H4 at x4 f2 f4 ⊢
          have bad : (∀ a b, oz = some [.str a, .str b] → ¬ (a ∈ hs ∧ b ∈ hs ∧ g a ≠ g b)) → ∀ H' d, Evl.Ex H H' → H' d = none → E (.ref CP) (some d) (upd H' d (.xd [("index", .int (i : Nat))])) := fun h => by
            rw [pathsFrom_no h] at f6
            rcases k with ⟨j, e, k⟩ | ⟨g', h', e, _⟩
            · rw [f6] at e
              injection e with e
              subst e
              exact k
            · rw [f6] at e
              cases e
          refine ⟨_, rfl, z, oz, rfl, hrz.ex x4, fun H5 x5 => ⟨_, rfl, ?_⟩⟩
          have x45 := x4.trans x5
          cases hpo : pairO oz with
          | false => exact iteT ⟨_, rfl, raiseP fun d hd => bad (fun a b e => by rw [e] at hpo; cases hpo) H5 d x45 hd⟩
          | true =>
          refine iteF ?_
          obtain ⟨y1, y2, rfl⟩ := pair_of hpo
          obtain ⟨tb, Ta, rfl, hTa5⟩ := (hrz.ex x45).lt2
          obtain ⟨tz, az, eaz, hsz, hpl, _⟩ := (hrz.ex x45).sq (K := K)
          have hG5 : H5 G = some (.dK (tab hs fun x => .str (g x))) := x5 _ _ f2
          have f45 := x5 _ _ f4
          refine ⟨_, rfl, tb, Ta, _, rfl, hTa5.sq, fun LL hLL => ?_⟩
          have hGL : G ≠ LL := ne_of_none hG5 hLL
          refine lc_it (walk_sq (xs := [y1, y2])) (fun j H' => Evl.Ex H5 H' ∧ H' LL = some (.lst ((([y1, y2].take j).map (isHouse hs)).map V.bl))) ⟨Evl.Ex.new hLL, upd_same⟩ (fun j H' _ hp => (hTa5.ex hp.1).sq) (fun j w H6 H7 hj hp hy => ?_) (fun H6 hp => ?_)
          · obtain ⟨g1, g2⟩ := hp
            obtain ⟨rfl, hw⟩ := hy
            have hj : j < 2 := hj
            obtain ⟨nw, hpw⟩ := hpl w (List.mem_of_getElem? hw)
            have hpw := hpw.ext g1
            have tk : [y1, y2].take (j + 1) = [y1, y2].take j ++ [w] := by rw [List.take_add_one, hw]; rfl
            have put : ∀ b, b = isHouse hs w → ∃ acc, H7 LL = some (.lst acc) ∧ acc.length < sizeLine ∧ (Evl.Ex H5 (upd H7 LL (.lst (acc ++ [V.bl b]))) ∧ upd H7 LL (.lst (acc ++ [V.bl b])) LL = some (.lst ((([y1, y2].take (j + 1)).map (isHouse hs)).map V.bl))) := fun b hb =>
              ⟨_, g2, by rw [List.length_map, List.length_map, List.length_take]; exact Nat.lt_of_lt_of_le (show min j 2 < 3 by omega) (by decide), ex_upd g1 hLL, by rw [upd_same, tk, List.map_append, List.map_append, hb]; rfl⟩
            refine ⟨rfl, _, rfl, _, _, _, _, _, rfl, .ty _, hpw.ty, hpw.one "str", _, rfl, ?_⟩
            cases hpw with
            | str z =>
              refine iteT ⟨_, rfl, _, rfl, G, _, rfl, DGet.k (k := Sum.inr z) (g1 _ _ hG5), ?_⟩
              by_cases hz2 : z ∈ hs
              · rw [val_in hz2]
                exact put _ (decide_eq_true hz2).symm
              · rw [val_out hz2]
                exact put _ (decide_eq_false hz2).symm
            | _ => exact iteF (put false rfl)
          · obtain ⟨g1, g2⟩ := hp
            have g2 : H6 LL = some (.lst ([isHouse hs y1, isHouse hs y2].map V.bl)) := g2
            have x6 := x45.trans g1
            refine ⟨LL, [isHouse hs y1, isHouse hs y2], rfl, SqL.of g2, _, rfl, ?_⟩
            cases hb1 : isHouse hs y1 with
            | false => exact iteT ⟨_, rfl, raiseP fun d hd => bad (fun a b e => by
                injection e with e
                injection e with e3 e4
                rw [e3] at hb1
                exact fun z => absurd z.1 (of_decide_eq_false hb1)) H6 d x6 hd⟩
            | true =>
            cases hb2 : isHouse hs y2 with
            | false => exact iteT ⟨_, rfl, raiseP fun d hd => bad (fun a b e => by
                injection e with e
                injection e with e3 e4
                injection e4 with e5 e6
                rw [e5] at hb2
                exact fun z => absurd z.2.1 (of_decide_eq_false hb2)) H6 d x6 hd⟩
            | true =>
            refine iteF ?_
            obtain ⟨a, rfl⟩ : ∃ a, y1 = .str a := by
              cases y1 with
              | str a => exact ⟨a, rfl⟩
              | _ => cases hb1
            obtain ⟨b, rfl⟩ : ∃ b, y2 = .str b := by
              cases y2 with
              | str b => exact ⟨b, rfl⟩
              | _ => cases hb2
            have m1 : a ∈ hs := of_decide_eq_true hb1
            have m2 : b ∈ hs := of_decide_eq_true hb2
            have hG6 : H6 G = some (.dK (tab hs fun x => .str (g x))) := g1 _ _ hG5
            have ga : DGet H6 G (kV (Sum.inr a)) (some (.str (g a))) := by have := DGet.k (k := Sum.inr a) hG6; rw [val_in m1] at this; exact this
            have gb : DGet H6 G (kV (Sum.inr b)) (some (.str (g b))) := by have := DGet.k (k := Sum.inr b) hG6; rw [val_in m2] at this; exact this
            have t6 := hTa5.ex g1
            refine ⟨_, rfl, _, rfl, t6.ix (j := 0) rfl ⟨G, _, rfl, ga, _, rfl, _, rfl, t6.ix (j := 1) rfl ⟨G, _, rfl, gb, rfl, _, rfl, ?_⟩⟩⟩
            by_cases hg : g a = g b
            · refine ite2 (fun _ => ⟨_, rfl, raiseP fun d hd => bad (fun a2 b2 e => ?_) H6 d x6 hd⟩) (fun w => absurd (by rw [hg]; simp) w)
              injection e with e
              injection e with e3 e4
              injection e4 with e5 e6
              injection e3 with e3
              injection e5 with e5
              rw [← e3, ← e5]
              exact fun z => z.2.2 hg
            · refine ite2 (fun w => absurd (of_decide_eq_true w) (fun z => hg (V.str.inj z))) (fun _ => ?_)
              rw [pathsFrom_ok ⟨m1, m2, hg⟩] at f6
              refine ⟨_, rfl, _, rfl, _, rfl, t6.ix (j := 0) rfl ⟨G, _, rfl, ga, _, rfl, _, rfl, t6.ix (j := 1) rfl ⟨G, _, rfl, gb, ?_⟩⟩⟩
              refine ⟨G, g a, g b, hs, g, rfl, hG6, hnd, h1k, fun G' H7 hG' x7 hG7 => ?_⟩
              have hf7 := x7 _ _ (g1 _ _ f45)
              have t7 := t6.ex x7
              refine ⟨_, rfl, .inl ⟨rfl, _, SqL.of hf7⟩, _, rfl, t7.ix (j := 0) rfl ⟨_, rfl, t7.ix (j := 1) rfl ⟨a, b, rfl, fun U hU => ?_⟩⟩⟩
              have hfU : fo ≠ U := ne_of_none hf7 hU
              refine ⟨fo, _, _, rfl, rfl, by rw [upd_ne hfU]; exact hf7, ?_, ?_⟩
              · rw [f5]
                exact Nat.lt_of_le_of_lt (show i ≤ 1000 by omega) (by decide)
              · have hGf : G' ≠ fo := fun z => by rw [z, g1 _ _ f45] at hG'; cases hG'
                refine ⟨G', joinG g a b, some (.int (i : Nat)), some (.ref Ta), _, _, rfl, ex_upd ((x6.trans x7).trans (Evl.Ex.new hU)) hfoH, ?_, upd_same, by rw [List.length_append, f5]; rfl, f6⟩
                rw [upd_ne hGf, upd_ne (ne_of_none hG7 hU)]
                exact hG7
        · rintro σ H3 ⟨G, g, v4, v5, v6, ts, rfl, f1, f2, f4, f5, f6⟩
          have ol : xs.length = os.length := Paired.length hpr
          rw [ol, List.drop_length] at f6
          have f6 : pathsFrom hs id os 0 = .inr g := f6
          obtain ⟨h, hf, k⟩ : ∃ h, hs.find? (fun h => decide (g h ≠ g h0)) = some h ∧ ∀ H' d, Evl.Ex H H' → H' d = none → E (.ref CJ) (some d) (upd H' d (.xd [("house", .str h)])) := by
            rcases k with ⟨i, e, _⟩ | ⟨g', h, e, hf, k⟩
            · rw [f6] at e
              cases e
            · rw [f6] at e
              injection e with e
              subst e
              exact ⟨h, hf, k⟩
          have at0 : (hs.map V.str)[0]? = some (.str h0) := by
            cases hs with
            | nil => cases hh0
            | cons z r =>
              have hh0 : some z = some h0 := hh0
              injection hh0 with hh0
              rw [hh0]
              rfl
          refine ⟨_, rfl, l, rfl, ⟨_, SqL.of (f1 _ _ hl)⟩, ?_⟩
          refine for_it (walk_list (xs := hs.map V.str)) (fun i σ H' => H' = H3 ∧ (∃ v6, σ = [some (.ref l), some (.ref q), some (.ref G), some (.ref fo), v4, v5, v6]) ∧ ∀ y ∈ hs.take i, decide (g y ≠ g h0) = false) ⟨rfl, ⟨_, rfl⟩, fun y hy => absurd hy (by simp)⟩ ?_ ?_ ?_
          · rintro i σ H' _ ⟨rfl, _⟩
            exact SqL.of (f1 _ _ hl)
          · rintro i y σ H4 H5 hi ⟨rfl, ⟨w6, rfl⟩, hb⟩ ⟨rfl, hy⟩
            rw [List.length_map] at hi
            obtain ⟨z, hh⟩ := getD_of hi
            rw [List.getElem?_map, hh] at hy
            cases hy
            have hm := List.mem_of_getElem? hh
            have ga : DGet H5 G (kV (Sum.inr z)) (some (.str (g z))) := by have := DGet.k (k := Sum.inr z) f2; rw [val_in hm] at this; exact this
            have gb : DGet H5 G (kV (Sum.inr h0)) (some (.str (g h0))) := by have := DGet.k (k := Sum.inr h0) f2; rw [val_in m0] at this; exact this
            refine ⟨_, rfl, _, rfl, G, _, rfl, ga, _, rfl, _, rfl, l, _, _, _, rfl, rfl, SqL.of (f1 _ _ hl), atI_nat (j := 0) at0, G, _, rfl, gb, rfl, _, rfl, ?_⟩
            by_cases hq : g z = g h0
            · refine ite2 (fun w => ?_) (fun _ => ⟨rfl, ⟨_, rfl⟩, fun y2 hy2 => ?_⟩)
              · rw [hq] at w
                simp at w
              · rw [List.take_add_one, hh] at hy2
                rcases List.mem_append.mp hy2 with hy2 | hy2
                · exact hb y2 hy2
                · have hy2 : y2 = z := by simpa using hy2
                  rw [hy2]
                  simpa using hq
            · refine ite2 (fun _ => ⟨_, rfl, raiseP fun d hd => ?_⟩) (fun w => absurd (by simpa using hq) w)
              have e : hs.find? (fun h => decide (g h ≠ g h0)) = some z := find_first hb hh (by simpa using hq)
              rw [e] at hf
              injection hf with hf
              rw [hf]
              exact k H5 d f1 hd
          · rintro σ H4 ⟨rfl, ⟨w6, rfl⟩, hb⟩
            rw [List.length_map, List.take_length] at hb
            have := List.find?_some hf
            rw [hb h (List.mem_of_find?_eq_some hf)] at this
            cases this
end
end K07

/-! sorted of a tuple of texts. Law-independent. -/
namespace Stt
open PySem PySem.Spec PyProof.Rows L2
section
variable {prog : Program} {w : World} {A : Around} {E : Value → Shared → Prop} {s : Shared}
theorem collect_tuple {l : Addr} {vs : List Value} {Q : List Value → Shared → Prop} (hl : s.heap.IsTuple l vs.toArray) (hsz : vs.length ≤ sizeLine)
    (h : Q vs { s with heap := (s.heap.push (seqObj "list" #[] 0)).update s.heap.objs.size (Obj.mapSeq (· ++ vs.toArray)) }) :
    wpAny (model prog w) A (collect (.ref l)) Q E s := by
  obtain ⟨o, ho, hc, n, hd⟩ := id hl
  unfold collect
  refine wpAny_bind (wpAny_runValue (codeAny_builtin entry_proto_collect' ?_))
  show wpAny _ _ (do again (.builtin "list.__iadd__" ⟨[← newList [], .ref l], []⟩)) _ _ s
  refine wpAny_bind (wpAny_newList (wpAny_pure ⟨Code.quiet_builtin _ (by decide +kernel), codeAny_builtin entry_list_iadd' ?_⟩))
  show wpAny _ _ (Builtin.List.listExtendWith (.ref s.heap.objs.size) (.ref l) (.ref s.heap.objs.size)) _ _ { s with heap := s.heap.push (seqObj "list" #[] 0) }
  unfold Builtin.List.listExtendWith
  have ho' : (s.heap.push (seqObj "list" #[] 0)).get? l = some o := Heap.get?_push_of_some _ ho
  refine wpAny_bind (wpAny_typeOf (T := "tuple") ⟨o, ho', hc⟩ ?_)
  have ht : (Value.type "tuple" == Value.type "tuple") = true := by rfl
  rw [if_pos (by rw [ht]; simp)]
  refine wpAny_bind (listItems_at ho' hd ?_)
  refine wpAny_bind (listItems_at (xs := #[]) (n := 0) (Heap.get?_push_size _ rfl) rfl ?_)
  rw [if_neg (by simp)]
  refine wpAny_bind (listUpdate_at (xs := #[]) (n := 0) (Heap.get?_push_size _ rfl) rfl ?_ (Nat.zero_le _) (by show (#[] ++ vs.toArray).size ≤ sizeLine + 1; simp only [Array.size_append, List.size_toArray, List.length_nil]; omega))
  refine wpAny_pure ?_
  show wpAny (model prog w) A (do
      let o ← load s.heap.objs.size
      match o.data with
      | .seq xs _ => pure xs.toList
      | _ => unsupported "internal:collect") Q E { s with heap := (s.heap.push (seqObj "list" #[] 0)).update s.heap.objs.size (Obj.mapSeq (· ++ vs.toArray)) }
  refine wpAny_bind (wpAny_load (get?_update_seq (Heap.get?_push_size _ rfl) _) ?_)
  show wpAny _ _ (pure ((#[] : Array Value) ++ vs.toArray).toList) Q E _
  rw [show ((#[] : Array Value) ++ vs.toArray).toList = vs by simp]
  exact wpAny_pure h
theorem sorted_strsT {l : Addr} {vs : List Value} {ss : List Str} {Q : Value → Shared → Prop} (hl : s.heap.IsTuple l vs.toArray) (hS : StrsAre vs ss) (h64 : vs.length < 64)
    (h : ∀ (out : Array Value) (ss' : List Str), StrsAre out.toList ss' → ss'.Perm ss → sortedS ss' = true → Q (.ref (s.heap.objs.size + 1)) { s with heap := sortedAll s.heap vs out }) :
    wpAny (model prog w) A (call (.builtin "sorted") [.ref l]) Q E s := by
  have hz : vs.length ≤ sizeLine := by rw [sizeLine_eq]; omega
  refine Calls.call_function_entry kind_sorted plain_sorted entry_sorted (args_sorted1 _) ?_
  unfold Builtin.«sorted»
  refine wpAny_bind (m := checkCount "sorted" 1 1 _) (wpAny_pure ?_)
  refine wpAny_bind (collect_tuple hl hz ?_)
  refine wpAny_bind (wpAny_newList ?_)
  have hsz : ((s.heap.push (seqObj "list" #[] 0)).update s.heap.objs.size (Obj.mapSeq (· ++ vs.toArray))).objs.size = s.heap.objs.size + 1 := by
    rw [Heap.size_update, size_push']
  have hoL : (((s.heap.push (seqObj "list" #[] 0)).update s.heap.objs.size (Obj.mapSeq (· ++ vs.toArray))).push (seqObj "list" vs.toArray 0)).get? (s.heap.objs.size + 1) = some (seqObj "list" vs.toArray 0) := by
    rw [← hsz]; exact Heap.get?_push_size _ rfl
  show wpAny _ _ _ _ _ { s with heap := ((s.heap.push (seqObj "list" #[] 0)).update s.heap.objs.size (Obj.mapSeq (· ++ vs.toArray))).push (seqObj "list" vs.toArray 0) }
  rw [hsz]
  refine wpAny_bind (wpAny_holding (wpAny_call_entry slot_list_sort ⟨_, hoL, rfl⟩ entry_list_sort (list_sort_treeK strKind_oneLt hoL hS.keysOf (fun v₁ v₂ rest e => keyKind_strs (by rw [← e]; exact hS)) h64 fun st' hp hs => ⟨_, rfl, ?_⟩) (args_list_sort _)))
  obtain ⟨ss', h1, h2, h3⟩ := sorted_out_str hS hp hs
  exact wpAny_pure ⟨_, rfl, h _ ss' h1 h2 h3⟩
end
/-- sorted of a list or a tuple of texts -/
def rSortedSq (K : PySem.W.Frag) : List V → Hp → VK → Prop := fun vs H Q => ∃ (a : Addr) (xs : List Str), vs = [V.ref a] ∧ (SqL K H a (xs.map V.str) ∨ SqT K H a (xs.map V.str)) ∧ xs.length < 64 ∧
  ∀ (ys : List Str) (p : Addr), ys.Perm xs → sortedS ys = true → H p = none → Q (.ref p) (upd H p (.lst (ys.map V.str)))
theorem cr_sortedSq {X : Cx} : CallR X (.builtin "sorted") (rSortedSq X.K) := by
  intro pins s σ H vs us Q I r h
  obtain ⟨a, xs, rfl, hs | hs, h64, q⟩ := h
  · exact cr_sortedS pins s σ H _ us Q I r ⟨a, xs, rfl, hs, h64, q⟩
  obtain ⟨its, rv, hl, _⟩ := I.tuple hs
  rw [Vals.ref1 r]
  have hlen0 := rv.length
  rw [List.length_map] at hlen0
  refine sorted_strsT hl rv.strs (by rw [← hlen0]; exact h64) fun out ys h1 h2 h3 => ?_
  obtain ⟨ep, he'⟩ := PyProof.Rows.sortedAll_at s.heap its out
  have hlen : (ys.map V.str).length ≤ sizeLine := by rw [List.length_map, h2.length_eq]; exact small64 h64
  exact ⟨.ref _, upd H (s.heap.objs.size + 1) (.lst (ys.map V.str)), I.laid (t' := s.toks) (fun _ _ => PyProof.Rows.sortedAll_old) (Nat.le_succ _) ⟨hlen, out.toList, ep, vals_of_strs h1, he'⟩, rfl, q ys _ h2 h3 (I.hok.fresh (Nat.le_succ _))⟩
end Stt

namespace K07
open PySem PySem.Spec PyProof.Rows L2 Tr Sq Dk Exs
/-! ### a village that is refused -/
theorem houseFlaw_none : ∀ {rs : List Str} {seen : List V} {i : Nat}, (∀ h ∈ rs, nameOk h = true) → rs.Nodup → (∀ h ∈ rs, V.str h ∉ seen) → flawFrom seen (rs.map V.str) i = none
  | [], _, _, _, _, _ => rfl
  | h :: r, seen, i, hn, hd, hs => by
    show (if isNm (.str h) = true ∧ V.str h ∉ seen then flawFrom (seen ++ [V.str h]) (r.map V.str) (i + 1) else some i) = none
    rw [if_pos ⟨hn h List.mem_cons_self, hs h List.mem_cons_self⟩]
    obtain ⟨h1, h2⟩ := List.nodup_cons.mp hd
    refine houseFlaw_none (fun x hx => hn x (List.mem_cons_of_mem _ hx)) h2 (fun x hx hm => ?_)
    rcases List.mem_append.mp hm with hm | hm
    · exact hs x (List.mem_cons_of_mem _ hx) hm
    · have : V.str x = V.str h := by simpa using hm
      rw [V.str.inj this] at hx
      exact h1 hx
theorem houseFlaw_good {rs : List Str} (hn : ∀ h ∈ rs, nameOk h = true) (hd : rs.Nodup) (hne : rs ≠ []) : houseFlaw (some (rs.map V.str)) = none := by
  show (if (rs.map V.str).length = 0 then some 0 else flawFrom [] (rs.map V.str) 0) = none
  rw [if_neg (by rw [List.length_map]; exact fun z => hne (List.length_eq_zero_iff.mp z))]
  exact houseFlaw_none hn hd (fun _ _ h => by cases h)
/-- all but the new village stays -/
def But (v : Addr) (H H' : Hp) : Prop := ∀ b o, b ≠ v → H b = some o → H' b = some o
def spInitX (K : PySem.W.Frag) (CH CP CJ : Addr) : Sp := fun vs H _ E => ∃ (v C dx : Addr) (x y : V), vs = [.ref v, x, y] ∧ H v = some (.ins C dx []) ∧ Cls K C ∧ NoAttr K C "_houses" ∧
  ((∃ (o : Option (List V)) (i : Nat), RX H x o ∧ (∀ xs, o = some xs → ∀ z, V.str z ∈ xs → z.length ≤ 1000) ∧ houseFlaw o = some i ∧ ∀ H' d, But v H H' → H' d = none → E (.ref CH) (some d) (upd H' d (.xd [("index", .int (i : Nat))]))) ∨
   ∃ (t : Bool) (l : Addr) (hs0 : List Str) (o : Option (List (Option (List V)))), x = .ref l ∧ Lt H t l (hs0.map V.str) ∧ l ≠ v ∧ hs0.Nodup ∧ hs0 ≠ [] ∧ hs0.length ≤ 60 ∧ (∀ h ∈ hs0, nameOk h = true ∧ h.length ≤ 1000) ∧ (∀ H', But v H H' → EX H' y o) ∧
    ∀ hs, hs.Perm hs0 → sortedS hs = true → ∃ h0, hs.head? = some h0 ∧
     ((∃ i, pathsO hs o = .inl i ∧ ∀ H' d, But v H H' → H' d = none → E (.ref CP) (some d) (upd H' d (.xd [("index", .int (i : Nat))]))) ∨
      ∃ g h, pathsO hs o = .inr g ∧ hs.find? (fun h => decide (g h ≠ g h0)) = some h ∧ ∀ H' d, But v H H' → H' d = none → E (.ref CJ) (some d) (upd H' d (.xd [("house", .str h)]))))
section
variable {P : Program} {w : World} {K : PySem.W.Frag} {mg : Str → Option Value} {base : Heap}
theorem ok_initX {CH CP CJ f fC fP : Addr} {fd fdC fdP : FuncData} (F : FnM K "__init__" "Village.__init__" sInit f fd)
    (GC : FnOk P w K mg base (L2.CX P w) 3 fC fdC ["houses"] (spCheckX CH)) (bC : L2.Binds K fdC ["houses"] []) (kC : PySem.W.keepIn K (.ref fC) = true) (gC : mg "check_houses" = some (.ref fC))
    (GP : FnOk P w K mg base (L2.CX P w) 4 fP fdP ["houses", "paths"] (spPathsX CP CJ)) (bP : L2.Binds K fdP ["houses", "paths"] []) (kP : PySem.W.keepIn K (.ref fP) = true) (gP : mg "checked_paths" = some (.ref fP))
    (gS : mg "sorted" = none) : FnOk P w K mg base (L2.CX P w) 5 f fd ["self", "houses", "paths"] (spInitX K CH CP CJ) := by
  refine F.ok scInit (fun vs H Q E h => ?_) (fun cdv A outer s H vs Q E hr h => ?_)
  · obtain ⟨v, C, dx, x, y, rfl, _⟩ := h
    rfl
  · obtain ⟨v, C, dx, x, y, rfl, hv, cl, n1, k⟩ := h
    refine ⟨_, pss_cons (ps_expr (pe_callS GC (hr.mono (by decide)) rfl gC kC bC (fun σ => passAt (takes_of rfl rfl rfl rfl) σ) (pa_cons (pv 1) pa_nil)))
      (pss_cons (ps_fld (pv 0) (pe_callB Stt.cr_sortedSq (by rfl) gS (by decide +kernel) (pa_cons (pv 1) pa_nil)) rfl)
      (pss_cons (ps_fld (pv 0) (pe_callS GP hr rfl gP kP bP (fun σ => passAt (takes_of rfl rfl rfl rfl) σ) (pa_cons (pe_fld (pv 0) rfl) (pa_cons (pv 2) pa_nil))) rfl)
      (pss_one ps_never))), ?_⟩
    rcases k with ⟨o, i, hx, hlen, hfl, k⟩ | ⟨t, l, hs0, o, rfl, hl, hlv, hnd, hne, h60, hgood, hy, k⟩
    · exact ⟨_, rfl, x, o, rfl, hx, hlen, (fun h => by rw [hfl] at h; cases h), fun j hj H' d e hd => by
        rw [hfl] at hj
        injection hj with hj
        subst hj
        exact k H' d (fun b o _ h => e _ _ h) hd⟩
    · have hrx : RX H (.ref l) (some (hs0.map V.str)) := by
        have hp : ∀ y ∈ hs0.map V.str, ∃ n, Pl H y n := fun y hy => by
          obtain ⟨z, _, rfl⟩ := List.mem_map.mp hy
          exact ⟨_, .str z⟩
        cases t with
        | false => exact .lst hl hp (by rw [List.length_map]; omega)
        | true => exact .tup hl hp (by rw [List.length_map]; omega)
      have hgd := houseFlaw_good (fun h hh => (hgood h hh).1) hnd hne
      refine ⟨_, rfl, .ref l, _, rfl, hrx, fun xs e z hz => ?_, fun _ H1 x1 => ?_, fun i hi => by rw [hgd] at hi; cases hi⟩
      · injection e with e
        rw [← e] at hz
        obtain ⟨z2, h2, e2⟩ := List.mem_map.mp hz
        rw [← V.str.inj e2]
        exact (hgood z2 h2).2
      refine ⟨_, rfl, l, hs0, rfl, sqk_or (hl.ex x1).sq, by omega, fun ys p hys hsr hp => ?_⟩
      have hv1 : H1 v = some (.ins C dx []) := x1 _ _ hv
      have hvp : v ≠ p := ne_of_none hv1 hp
      refine ⟨_, rfl, v, C, dx, [], rfl, by rw [upd_ne hvp]; exact hv1, cl, n1, by decide, ?_⟩
      show tSeq _ _ _ _ (upd (upd H1 p (.lst (ys.map V.str))) v (.ins C dx [("_houses", .ref p)]))
      have keep : But v H (upd (upd H1 p (.lst (ys.map V.str))) v (.ins C dx [("_houses", .ref p)])) := fun b o hb e => by
        have := x1 _ _ e
        rw [upd_ne hb, upd_ne (ne_of_none this hp)]
        exact this
      have g1 : upd (upd H1 p (.lst (ys.map V.str))) v (.ins C dx [("_houses", .ref p)]) v = some (.ins C dx [("_houses", .ref p)]) := upd_same
      have g2 : upd (upd H1 p (.lst (ys.map V.str))) v (.ins C dx [("_houses", .ref p)]) p = some (.lst (ys.map V.str)) := by rw [upd_ne hvp.symm]; exact upd_same
      generalize upd (upd H1 p (.lst (ys.map V.str))) v (.ins C dx [("_houses", .ref p)]) = H2 at keep g1 g2
      have hyl : ys.length = hs0.length := hys.length_eq
      obtain ⟨h0, hh0, k⟩ := k ys hys hsr
      refine ⟨_, rfl, v, C, dx, _, .ref p, rfl, g1, cl, n1, rfl, _, rfl, p, y, ys, h0, o, rfl, g2, hys.nodup_iff.mpr hnd, hh0, by omega, hy _ keep, ?_⟩
      rcases k with ⟨i, e, k⟩ | ⟨g, h, e, hf, k⟩
      · exact .inl ⟨i, e, fun H' d e2 hd => k H' d (fun b o hb h => e2 _ _ (keep _ _ hb h)) hd⟩
      · exact .inr ⟨g, h, e, hf, fun H' d e2 hd => k H' d (fun b o hb h => e2 _ _ (keep _ _ hb h)) hd⟩
end
end K07

/-! A dict comprehension whose keys are tuples. Law-independent. -/
namespace L2
open PySem PySem.Spec PyProof.Rows
section
variable {X : Cx}
/-- one entry set, its key a tuple that is known -/
theorem tupKeySet {ps : List (Addr × Obj)} {σ : St} {H : Hp} {s : Shared} {R : Value → Shared → Prop} {d b : Addr} {es : List (List Key × V)} {k : List Key} {x : V} {u : Value} {Q : Unit → Shared → Prop} (J : Inv X ps σ H s) (hd : H d = some (.dT es)) (hb : H b = some (.tup (k.map kV)))
    (room : X.A.units < cLine) (few : es.length < sizeLine) (hx : RelV x u) (go : ∀ z, Inv X ps σ (upd H d (.dT (putK es k x))) z → Q () z) : wpAny (model X.prog X.w) X.A (dictSet d (.ref b) u) Q R s := by
  obtain ⟨h1, h2, ys, h3, h4⟩ := dt_of J.hok hd
  have few1 : ys.length ≤ sizeLine := (Paired.length h3) ▸ h1
  have few2 : (putK es k x).length ≤ sizeLine := Nat.le_trans (length_putK es k x) few
  refine wpAny_dictSet_heap (hsz := few1) (show (tupleKind (mixKind X.prog X.w)).room X.A from room) (key_of J.hok hb) h4 fun hp dd same => go _ ?_
  obtain ⟨o, ents, ep, g1, g2, g3, g4, _, g5⟩ := dd
  refine d_write J (by rw [hd]; exact True.intro) same ⟨o, g1⟩ ⟨few2, h2, _, KT.keeps (h3.put k hb hx) (fun c zs hc => ?_), o, ents, ep, g1, g2, g3, g4, g5⟩
  rw [upd_ne (fun e => by rw [e, hd] at hc; cases hc)]
  exact hc
/-- {k: v for target in iter if ..}, each k a tuple: d the new dict -/
def tDcT (wi : TI) (g : TG) (tt : TT) (tk tv : TE) (vs : List Nat) : TE := fun σ H Q => wi σ H fun J H1 => ∀ d, H1 d = none → ∃ W : Nat → Nat → Hp → Prop, (∃ m, W 0 m (upd H1 d (.dT []))) ∧ ∀ i m H, W i m H →
  (J.stop i H ∧ Q (.ref d) H) ∨ (J.go i H ∧ ∃ Nx : Hp → Prop, (∀ H', Nx H' → ∃ m', m' < m ∧ W (i + 1) m' H') ∧ ∀ x H', J.yld i H x H' → g x (wipe σ vs) H' fun σ2 H2 => wipe σ2 vs = wipe σ vs ∧ tt σ2 H2 fun yes H3 =>
    if yes = true then tk σ2 H3 fun y H4 => tv σ2 H4 fun z H5 => ∃ es k b, y = .ref b ∧ H5 b = some (.tup (k.map kV)) ∧ H5 d = some (.dT es) ∧ es.length < sizeLine ∧ Nx (upd H5 d (.dT (putK es k z))) else Nx H3)
theorem dcT_run {pins : List (Addr × Obj)} {s0 : Shared} {σ : St} {H : Hp} {Q : VK} {ke ve tg it : Expr} {ifs : List Expr} {sc : Scope} {own : List (Str × Nat)} {p1 p2 : Pos} {wi : TI} {g : TG} {tt : TT} {tk tv : TE} {use : Option (Value → Sem Unit)} {Qf : Value → Shared → Prop}
    (room : X.A.units < cLine) (calm : X.calm = true) (nd : X.N.Nodup) (J0 : Inv X pins σ H s0) (pi : PI X tg it wi) (bo : BlkOk X.N X.env.scope sc own)
    (pg : ∀ (s : Shared) (H : Hp) (C : Addr) (cl : List (Str × Addr)) (fp : List Addr), PG (X.blk s H sc (compEnvC sc cl C X.env) fp) tg g) (pt : ∀ (s : Shared) (H : Hp) (C : Addr) (cl : List (Str × Addr)) (fp : List Addr), PTs (X.blk s H sc (compEnvC sc cl C X.env) fp) ifs tt)
    (pk : ∀ (s : Shared) (H : Hp) (C : Addr) (cl : List (Str × Addr)) (fp : List Addr), PE (X.blk s H sc (compEnvC sc cl C X.env) fp) ke tk) (pw : ∀ (s : Shared) (H : Hp) (C : Addr) (cl : List (Str × Addr)) (fp : List Addr), PE (X.blk s H sc (compEnvC sc cl C X.env) fp) ve tv)
    (fold : ∀ x, foldedSetIterable it X.env x = pure x) (rd : tDcT wi g tt tk tv (own.map (·.2)) σ H Q)
    (fin : ∀ d C z m H', Inv X pins σ H' z → Q (.ref d) H' → z.heap.Ns C m → FpOk X pins H' C → compPost (model X.prog X.w) X.A X.xe use Qf (.ref d) C (.ok .next) z) :
    wpAny (model X.prog X.w) X.A (comprehension (.DictComp ke ve [⟨tg, it, ifs, 0⟩] sc p1) sc X.env p2 newDict false (eval it X.env) use) Qf X.xe s0 := by
  have frees : ∀ y ∈ sc.names, y.2 = .free → ∃ c, X.env.cells.lookup y.1 = some c := fun y my e => (bo.free y my e).elim (fun q => J0.ok.has _ (.inl q)) (fun q => J0.ok.has _ (.inr q))
  refine wpAny_comprehension_free (use := use) rfl fold (closure_ok frees) bo.kind (fun y my e => (bo.uniq y my).trans (congrArg some e)) (thn (pi.run pins s0 σ H _ J0 rd) fun xv z1 hz => thn hz fun iv z2 hz2 => ?_)
  obtain ⟨ia, fp, tn, J, H2, e0, J2, T, st2, fo2, q⟩ := hz2
  cases e0
  refine wpAny_newObj_type (newEnv_comp ?_)
  generalize hd : z2.heap.objs.size = d
  have new : H2 d = none := J2.hok.fresh (Nat.le_of_eq hd)
  obtain ⟨W, ⟨m0, w0⟩, turn⟩ := q d new
  generalize hz3 : ({ z2 with heap := z2.heap.push { cls := .type "dict", data := .dict #[] } } : Shared) = z3
  have push3 : z3.heap = z2.heap.push { cls := .type "dict", data := .dict #[] } := by rw [← hz3]
  have J3 : Inv X pins σ (upd H2 d (.dT [])) z3 := by
    rw [← hz3]
    exact J2.laid (t' := z2.toks) (fun b o e => Heap.get?_push_of_some _ e) (Nat.le_of_eq hd) (by rw [← hd]; exact dt_empty z2.heap J2.big)
  have less : ∀ b ∈ fp, b < z2.heap.objs.size := fun b mb => let ⟨_, e, _⟩ := T.obj _ _ st2 b mb; Heap.lt_size e
  have fo3 : ∀ b ∈ fp, FpOk X pins (upd H2 d (.dT [])) b ∧ b < z3.heap.objs.size := fun b mb =>
    ⟨⟨(upd_ne (by rw [← hd]; exact Nat.ne_of_lt (less b mb))).trans (fo2 b mb).1, (fo2 b mb).2⟩, by rw [push3, Heap.size_push]; exact Nat.lt_succ_of_lt (less b mb)⟩
  have st3 : tn 0 z3.heap := T.keep _ _ _ st2 fun b _ o e => by rw [push3]; exact Heap.get?_push_of_some _ e
  have J4 := block_start J3 bo nd fo3
  have g3 := pg z3 (upd H2 d (.dT [])) z3.heap.objs.size (cellsFrom (z3.heap.objs.size + 1) sc.names (cloFrom X.env.cells sc.names [])) fp
  have t3 := pt z3 (upd H2 d (.dT [])) z3.heap.objs.size (cellsFrom (z3.heap.objs.size + 1) sc.names (cloFrom X.env.cells sc.names [])) fp
  have k3 := pk z3 (upd H2 d (.dT [])) z3.heap.objs.size (cellsFrom (z3.heap.objs.size + 1) sc.names (cloFrom X.env.cells sc.names [])) fp
  have v3 := pw z3 (upd H2 d (.dT [])) z3.heap.objs.size (cellsFrom (z3.heap.objs.size + 1) sc.names (cloFrom X.env.cells sc.names [])) fp
  show codeAny _ _ (.compStart (.DictComp ke ve [⟨tg, it, ifs, 0⟩] sc p1) 0 (.ref ia) (.ref d) (compEnvC sc (cellsFrom (z3.heap.objs.size + 1) sc.names (cloFrom X.env.cells sc.names [])) z3.heap.objs.size X.env)) (compPost (model X.prog X.w) X.A X.xe use Qf (.ref d) z3.heap.objs.size) { z3 with heap := pushCells (z3.heap.push { cls := .type "dict", data := .dict #[] }) sc.names }
  have bare : ∀ b ∈ fp, (upd H2 d (.dT [])) b = none := fun b mb => (fo3 b mb).1.1
  generalize hce : compEnvC sc (cellsFrom (z3.heap.objs.size + 1) sc.names (cloFrom X.env.cells sc.names [])) z3.heap.objs.size X.env = ce at J4 g3 t3 k3 v3 ⊢
  have here : ce.locals = z3.heap.objs.size := by subst hce; rfl
  generalize upd H2 d (.dT []) = H3 at J3 J4 g3 t3 k3 v3 w0 bare fo3
  generalize hz4 : ({ z3 with heap := pushCells (z3.heap.push { cls := .type "dict", data := .dict #[] }) sc.names } : Shared) = z4 at J4 ⊢
  have st4 : tn 0 z4.heap := T.keep _ _ _ st3 fun b _ o e => by rw [← hz4]; exact pushCells_keeps _ _ _ _ (Heap.get?_push_of_some _ e)
  have fpok : ∀ {σ' : St} {H' : Hp} {z : Shared}, Inv (X.blk z3 H3 sc ce fp) [] σ' H' z → (∀ b ∈ fp, H' b = none) → ∀ b ∈ fp, FpOk (X.blk z3 H3 sc ce fp) [] H' b := fun {σ' H' z} J' hn b mb =>
    ⟨hn b mb, (J'.ok.exf b mb).1, J'.ok.exfs b mb, .inl mb, fun x c e => (J'.ok.exf b mb).2 x c e, fun p hp => absurd (show p ∈ ([] : List (Addr × Obj)) ++ [] from hp) (by simp)⟩
  have whole : codeAny (model X.prog X.w) X.A (.compLoop (.DictComp ke ve [⟨tg, it, ifs, 0⟩] sc p1) 0 (.ref ia) (.ref d) ce) (compPost (model X.prog X.w) X.A X.xe use Qf (.ref d) z3.heap.objs.size) z4 := by
    refine compLoop_anyD (fun n z => ∃ i H', Inv (X.blk z3 H3 sc ce fp) [] (wipe σ (own.map (·.2))) H' z ∧ tn i z.heap ∧ (∀ b ∈ fp, H' b = none) ∧ W i n H') (fun n z5 hz5 => ?_) m0 ⟨0, H3, J4, st4, bare, w0⟩
    obtain ⟨i, H5, J5, st5, n5, w5⟩ := hz5
    rcases turn i n H5 w5 with ⟨stop, qq⟩ | ⟨go, Nx, hNx, one⟩
    · refine thnF (T.done (X.blk z3 H3 sc ce fp) rfl rfl rfl calm i [] z5 _ H5 (fun _ _ => False) J5 (fpok J5 n5) st5 stop) fun r z6 ⟨er, J6⟩ => ?_
      cases er
      have J7 : Inv X pins σ H5 z6 := J3.call' (ch := fp) J6.os J6.base J6.hok J6.bare fun b mb => let f := (fo3 b mb).1.2; ⟨f.2.2.1, f.1, f.2.2.2.1, f.2.2.2.2⟩
      have nC : H5 z3.heap.objs.size = none := here ▸ (show H5 ce.locals = none from J6.free)
      obtain ⟨m, hm, _⟩ := J6.loc
      have hm : z6.heap.Ns ce.locals m := hm
      exact fin d z3.heap.objs.size z6 m H5 J7 qq (here ▸ hm) (J3.fpOk (Nat.le_refl _) nC)
    · refine thnF (T.item (X.blk z3 H3 sc ce fp) rfl rfl rfl calm i [] z5 _ H5 (fun _ _ => False) J5 (fpok J5 n5) st5 go) fun r z6 ⟨u, er, h6⟩ => ?_
      cases er
      refine thnF h6 fun _ z7 ⟨x, H7, J7, r7, y7, st7, n7⟩ => ?_
      refine thnF (g3.run _ z7 _ H7 x u _ (J7.pinned (fpok J7 n7) (T.obj _ _ st7)) r7 (one x H7 y7)) fun _ z8 ⟨σ8, H8, J8, e8, q8⟩ => thnF (t3.run _ z8 σ8 H8 _ J8 q8) fun yes z9 ⟨H9, J9, q9⟩ => ?_
      have back : ∀ {z : Shared} {H' : Hp}, Inv (X.blk z3 H3 sc ce fp) ([] ++ pinsAt fp z7.heap) σ8 H' z → Nx H' → ∃ m, m < n ∧ ∃ i H', Inv (X.blk z3 H3 sc ce fp) [] (wipe σ (own.map (·.2))) H' z ∧ tn i z.heap ∧ (∀ b ∈ fp, H' b = none) ∧ W i m H' := fun {z H'} J' nx => by
        obtain ⟨m', less', w'⟩ := hNx H' nx
        have kept : ∀ b ∈ fp, ∀ o, z7.heap.get? b = some o → z.heap.get? b = some o ∧ H' b = none := fun b mb o e => let p := J'.pin (b, o) (List.mem_append_right _ (List.mem_append_right _ (mem_pinsAt mb e))); ⟨p.1, p.2.1⟩
        refine ⟨m', less', i + 1, H', J'.unpinned (pins := []) |>.weak ((wipe_length _ _).symm.trans ((congrArg List.length e8).symm.trans (wipe_length _ _)) |> fun e => by rw [← e8, wipe_length]) (fun j v e => (wipe_some (by rw [e8]; exact e)).1), T.keep _ _ _ st7 fun b mb o e => (kept b mb o e).1, fun b mb => ?_, w'⟩
        obtain ⟨o, e, _⟩ := T.obj _ _ st7 b mb
        exact (kept b mb o e).2
      cases yes with
      | false => exact back J9 (by simpa using q9)
      | true =>
        have q9 : tk σ8 H9 fun y H4 => tv σ8 H4 fun z H5 => ∃ es k b, y = .ref b ∧ H5 b = some (.tup (k.map kV)) ∧ H5 d = some (.dT es) ∧ es.length < sizeLine ∧ Nx (upd H5 d (.dT (putK es k z))) := by simpa using q9
        refine thnF (k3.run _ z9 σ8 H9 _ J9 q9) fun kv z10 ⟨yk, H10, J10, r10, q10⟩ => thnF (v3.run _ z10 σ8 H10 _ J10 q10) fun vv z11 ⟨yv, H11, J11, r11, es, k, b, ek, hb, he, few, nx⟩ => ?_
        subst ek
        cases (show kv = Value.ref b from r10)
        exact tupKeySet (X := X.blk z3 H3 sc ce fp) J11 he hb room few r11 fun z12 J12 => back J12 nx
  exact codeAny_compStart_dict whole (T.self X.A 0 _ _ _ st4 whole)
/-- as a value -/
theorem pe_dcT {ke ve tg it : Expr} {ifs : List Expr} {sc : Scope} {own : List (Str × Nat)} {p1 : Pos} {wi : TI} {g : TG} {tt : TT} {tk tv : TE} (room : X.A.units < cLine) (calm : X.calm = true) (nd : X.N.Nodup) (pi : PI X tg it wi) (bo : BlkOk X.N X.env.scope sc own)
    (pg : ∀ (s : Shared) (H : Hp) (C : Addr) (cl : List (Str × Addr)) (fp : List Addr), PG (X.blk s H sc (compEnvC sc cl C X.env) fp) tg g) (pt : ∀ (s : Shared) (H : Hp) (C : Addr) (cl : List (Str × Addr)) (fp : List Addr), PTs (X.blk s H sc (compEnvC sc cl C X.env) fp) ifs tt)
    (pk : ∀ (s : Shared) (H : Hp) (C : Addr) (cl : List (Str × Addr)) (fp : List Addr), PE (X.blk s H sc (compEnvC sc cl C X.env) fp) ke tk) (pw : ∀ (s : Shared) (H : Hp) (C : Addr) (cl : List (Str × Addr)) (fp : List Addr), PE (X.blk s H sc (compEnvC sc cl C X.env) fp) ve tv)
    (fold : ∀ x, foldedSetIterable it X.env x = pure x := by intro _; rfl) : PE X (.DictComp ke ve [⟨tg, it, ifs, 0⟩] sc p1) (tDcT wi g tt tk tv (own.map (·.2))) := by
  refine ⟨fun pins s σ H Q J h => ?_⟩
  rw [arm_eval_DictComp]
  exact dcT_run room calm nd J pi bo pg pt pk pw fold h fun d C z m H' J' q hn fr => ⟨m, hn, fun hp sb => ⟨.ref d, H', J'.turned (t' := z.toks) (fun b o hb e => (sb.2 b hb).trans e) fr.1 fr.2.1 fr.2.2.2.1 fr.2.2.2.2.1 fr.2.2.2.2.2, rfl, q⟩⟩
/-- y = {k: v for ..}, y a plain local name, each k a tuple -/
theorem ps_setDcT {i : Nat} {y : Str} {py : Pos} {ke ve tg it : Expr} {ifs : List Expr} {sc : Scope} {own : List (Str × Nat)} {p1 p2 : Pos} {wi : TI} {g : TG} {tt : TT} {tk tv : TE} (room : X.A.units < cLine) (calm : X.calm = true) (nd : X.N.Nodup) (hy : X.N[i]? = some y) (hyl : X.env.scope.names.lookup y = some .local)
    (sw : swapsWith (.DictComp ke ve [⟨tg, it, ifs, 0⟩] sc p1) (some (.Name y py)) p2.line X.env = pure true) (pi : PI X tg it wi) (bo : BlkOk X.N X.env.scope sc own)
    (pg : ∀ (s : Shared) (H : Hp) (C : Addr) (cl : List (Str × Addr)) (fp : List Addr), PG (X.blk s H sc (compEnvC sc cl C X.env) fp) tg g) (pt : ∀ (s : Shared) (H : Hp) (C : Addr) (cl : List (Str × Addr)) (fp : List Addr), PTs (X.blk s H sc (compEnvC sc cl C X.env) fp) ifs tt)
    (pk : ∀ (s : Shared) (H : Hp) (C : Addr) (cl : List (Str × Addr)) (fp : List Addr), PE (X.blk s H sc (compEnvC sc cl C X.env) fp) ke tk) (pw : ∀ (s : Shared) (H : Hp) (C : Addr) (cl : List (Str × Addr)) (fp : List Addr), PE (X.blk s H sc (compEnvC sc cl C X.env) fp) ve tv)
    (fold : ∀ x, foldedSetIterable it X.env x = pure x := by intro _; rfl) : PS X (.Assign [.Name y py] (.DictComp ke ve [⟨tg, it, ifs, 0⟩] sc p1) p2) (tAsg (tDcT wi g tt tk tv (own.map (·.2))) (gName i)) := by
  refine ⟨fun pins s σ H D J h => ?_⟩
  rw [exec_Assign_Name_used _ _ _ _ sw]
  refine wpAny_bind (wpAny_standAt (wpAny_bind ?_))
  have h : tDcT wi g tt tk tv (own.map (·.2)) σ H (fun x H1 => gName i x σ H1 D.nx) := h
  show wpAny _ X.A (do let _ ← comprehension (.DictComp ke ve [⟨tg, it, ifs, 0⟩] sc p1) sc X.env (firstIterPos [⟨tg, it, ifs, 0⟩] p1) newDict false (eval it X.env) (some (assign (.Name y py) X.env))) _ _ s
  refine wpAny_bind (thn (dcT_run (Qf := fun _ s' => SP X pins D .next s') room calm nd J pi bo pg pt pk pw fold h fun L C z m H1 J1 q hn fr => ?_) fun _ s' z => wpAny_pure (wpAny_pure z))
  refine wpAny_assign_Name (store_ok2 (v := V.ref L) J1 nd hy (.inl hyl) rfl (fun s2 J2 ⟨b, sb, hb⟩ => ?_) (.inr hyl))
  obtain ⟨k0, k1, k2, k3, k4, k5⟩ := fr
  have nC : C ≠ b := hb.elim (fun z => z ▸ k1) (fun z e => k4 y b z e.symm)
  exact ⟨m, hn.sameBut sb nC, fun h3 s3 => ⟨_, H1, J2.turned (t' := s2.toks) (fun x o hx e => (s3.2 x hx).trans e) k0 k1 k3 k4 k5, q⟩⟩
end
end L2
namespace Dk
open PySem PySem.Spec PyProof.Rows L2
/-- such a comprehension over what is walked -/
theorem dcT_it {J : It} {n : Nat} {G : Hp → Prop} {Y : Nat → Hp → V → Hp → Prop} (w : Walk J n G Y) {g : TG} {tt : TT} {tk tv : TE} {vs : List Nat} {σ : L2.St} {H1 : Hp} {D : Addr} {Qd : Hp → Prop} (Pv : Nat → Hp → Prop) (h0 : Pv 0 (upd H1 D (.dT []))) (hG : ∀ i H, i ≤ n → Pv i H → G H)
    (hs : ∀ i x H H', i < n → Pv i H → Y i H x H' → g x (wipe σ vs) H' fun σ2 H2 => wipe σ2 vs = wipe σ vs ∧ tt σ2 H2 fun b H3 =>
      if b = true then tk σ2 H3 fun y H4 => tv σ2 H4 fun z H5 => ∃ es k b, y = .ref b ∧ H5 b = some (.tup (k.map kV)) ∧ H5 D = some (.dT es) ∧ es.length < sizeLine ∧ Pv (i + 1) (upd H5 D (.dT (putK es k z))) else Pv (i + 1) H3) (hd : ∀ H, Pv n H → Qd H) :
    ∃ W : Nat → Nat → Hp → Prop, (∃ m, W 0 m (upd H1 D (.dT []))) ∧ ∀ i m H, W i m H →
      (J.stop i H ∧ Qd H) ∨ (J.go i H ∧ ∃ Nx : Hp → Prop, (∀ H', Nx H' → ∃ m', m' < m ∧ W (i + 1) m' H') ∧ ∀ x H', J.yld i H x H' → g x (wipe σ vs) H' fun σ2 H2 => wipe σ2 vs = wipe σ vs ∧ tt σ2 H2 fun b H3 =>
        if b = true then tk σ2 H3 fun y H4 => tv σ2 H4 fun z H5 => ∃ es k b, y = .ref b ∧ H5 b = some (.tup (k.map kV)) ∧ H5 D = some (.dT es) ∧ es.length < sizeLine ∧ Nx (upd H5 D (.dT (putK es k z))) else Nx H3) :=
  out_it w (B := fun Nx x H' => g x (wipe σ vs) H' fun σ2 H2 => wipe σ2 vs = wipe σ vs ∧ tt σ2 H2 fun b H3 =>
        if b = true then tk σ2 H3 fun y H4 => tv σ2 H4 fun z H5 => ∃ es k b, y = .ref b ∧ H5 b = some (.tup (k.map kV)) ∧ H5 D = some (.dT es) ∧ es.length < sizeLine ∧ Nx (upd H5 D (.dT (putK es k z))) else Nx H3) Pv h0 hG hs hd
/-! dicts whose keys are pairs of texts, told by a list of pairs and a function -/
def kp (q : Str × Str) : List Key := [Sum.inr q.1, Sum.inr q.2]
theorem kp_inj {a b : Str × Str} : kp a = kp b ↔ a = b := by
  obtain ⟨x, y⟩ := a
  obtain ⟨z, w⟩ := b
  simp [kp]
def tabP (ps : List (Str × Str)) (g : Str × Str → V) : List (List Key × V) := ps.map fun q => (kp q, g q)
theorem tabP_length (ps : List (Str × Str)) (g : Str × Str → V) : (tabP ps g).length = ps.length := List.length_map _
theorem tabP_congr {ps : List (Str × Str)} {g g' : Str × Str → V} (h : ∀ x ∈ ps, g x = g' x) : tabP ps g = tabP ps g' := List.map_congr_left fun x hx => by rw [h x hx]
theorem valP_in {q : Str × Str} {g : Str × Str → V} : ∀ {ps : List (Str × Str)}, q ∈ ps → valV (tabP ps g) (kp q) = some (g q)
  | [], h => by simp at h
  | p :: r, h => by
    unfold valV tabP
    rw [List.map_cons, List.find?_cons]
    by_cases e : p = q
    · subst e
      simp
    · have ne : decide ((kp p, g p).1 = kp q) = false := decide_eq_false (fun z => e (kp_inj.mp z))
      rw [ne]
      exact valP_in (ps := r) ((List.mem_cons.mp h).resolve_left (fun z => e z.symm))
theorem anyP {q : Str × Str} {g : Str × Str → V} : ∀ (ps : List (Str × Str)), ((tabP ps g).any fun kv => decide (kv.1 = kp q)) = decide (q ∈ ps)
  | [] => rfl
  | p :: r => by
    show (decide (kp p = kp q) || (tabP r g).any _) = _
    rw [anyP r, Bool.eq_iff_iff, Bool.or_eq_true, decide_eq_true_iff, decide_eq_true_iff, decide_eq_true_iff, List.mem_cons, kp_inj]
    exact ⟨fun z => z.imp (fun e => e.symm) id, fun z => z.imp (fun e => e.symm) id⟩
theorem putP_new {ps : List (Str × Str)} {g : Str × Str → V} {q : Str × Str} {v : V} (h : q ∉ ps) (hv : v = g q) : putK (tabP ps g) (kp q) v = tabP (ps ++ [q]) g := by
  unfold putK
  rw [anyP, if_neg (by simpa using h)]
  unfold tabP
  rw [List.map_append, hv]
  rfl
end Dk

/-! max(a, b), min(a, b) of two texts. Law-independent. -/
namespace Mm
open PySem PySem.Spec PyProof.Rows L2
section
variable {P : Program} {w : World} {A : Around} {E : Value → Shared → Prop} {s : Shared} {x y : Str} {t u : Tok}
/-- the text at a place of a pair -/
def txt (x y : Str) : Nat → Str
  | 0 => x
  | _ => y
theorem at_txt {v : Value} {i : Nat} (h : (#[Value.str x t, Value.str y u] : Array Value)[i]? = some v) : ∃ k, v = .str (txt x y i) k := by
  match i, h with
  | 0, h => exact ⟨t, (Option.some.inj h).symm⟩
  | 1, h => exact ⟨u, (Option.some.inj h).symm⟩
  | i + 2, h => simp at h
theorem cmp_gtT : CmpOf P w A .Gt (fun i v => (#[Value.str x t, Value.str y u] : Array Value)[i]? = some v) (fun i j => Srs.ltT (txt x y j) (txt x y i)) := fun i j a b z Q R ha hb h => by
  obtain ⟨k1, rfl⟩ := at_txt ha
  obtain ⟨k2, rfl⟩ := at_txt hb
  exact PySem.P.gt_str h
theorem cmp_ltT : CmpOf P w A .Lt (fun i v => (#[Value.str x t, Value.str y u] : Array Value)[i]? = some v) (fun i j => Srs.ltT (txt x y i) (txt x y j)) := fun i j a b z Q R ha hb h => by
  obtain ⟨k1, rfl⟩ := at_txt ha
  obtain ⟨k2, rfl⟩ := at_txt hb
  exact PyProof.Rows.lt_str h
theorem max_two {Q : Value → Shared → Prop} (hh : A.handled = none) (h : ∀ h' tk, (∀ c o, s.heap.get? c = some o → h'.get? c = some o) → Q (if Srs.ltT x y then .str y u else .str x t) { s with heap := h', toks := tk }) :
    wpAny (model P w) A (call (.builtin "max") [.str x t, .str y u]) Q E s := by
  have tup : (s.heap.push { cls := .type "tuple", data := .seq #[.str x t, .str y u] }).IsTuple s.heap.objs.size #[.str x t, .str y u] := ⟨_, Heap.get?_push_size _ rfl, rfl, 0, rfl⟩
  have big : (s.heap.push { cls := .type "tuple", data := .seq #[.str x t, .str y u] }).objs.size = s.heap.objs.size + 1 := Heap.size_push ..
  refine call_max_two (wpAny_pyIter_tuple tup ⟨_, [_, s.heap.objs.size], [_], _, _, _, _, rfl, Walks.tuple (A := A.in1) hh _ s.heap.objs.size (by rw [big]; exact Nat.ne_of_lt (Nat.lt_succ_self _)) #[.str x t, .str y u], ⟨⟨_, Heap.get?_push_size _ rfl, rfl, rfl⟩, tup.push _⟩, fun c mc => ?_, by simp, cmp_gtT, fun v h' tk best hk => ?_⟩)
  · show c < ((s.heap.push _).push _).objs.size
    rw [Heap.size_push, big]
    simp only [List.mem_cons, List.not_mem_nil, or_false] at mc
    rcases mc with m | m <;> rw [m]
    · rw [big]; exact Nat.lt_succ_self _
    · exact Nat.lt_succ_of_lt (Nat.lt_succ_self _)
  · have old := h h' tk fun c o e => by
      refine hk c o (fun m => ?_) (Heap.get?_push_of_some _ (Heap.get?_push_of_some _ e))
      have lt := Heap.lt_size e
      rw [List.mem_singleton.mp m, big] at lt
      exact absurd lt (Nat.not_lt.mpr (Nat.le_succ _))
    have which : v = if Srs.ltT x y then Value.str y u else Value.str x t := by
      cases c : Srs.ltT x y <;> simp [argBest, txt, c] at best <;> simp [best]
    rw [which]
    exact old
theorem min_two {Q : Value → Shared → Prop} (hh : A.handled = none) (h : ∀ h' tk, (∀ c o, s.heap.get? c = some o → h'.get? c = some o) → Q (if Srs.ltT y x then .str y u else .str x t) { s with heap := h', toks := tk }) :
    wpAny (model P w) A (call (.builtin "min") [.str x t, .str y u]) Q E s := by
  have tup : (s.heap.push { cls := .type "tuple", data := .seq #[.str x t, .str y u] }).IsTuple s.heap.objs.size #[.str x t, .str y u] := ⟨_, Heap.get?_push_size _ rfl, rfl, 0, rfl⟩
  have big : (s.heap.push { cls := .type "tuple", data := .seq #[.str x t, .str y u] }).objs.size = s.heap.objs.size + 1 := Heap.size_push ..
  refine call_min_two (wpAny_pyIter_tuple tup ⟨_, [_, s.heap.objs.size], [_], _, _, _, _, rfl, Walks.tuple (A := A.in1) hh _ s.heap.objs.size (by rw [big]; exact Nat.ne_of_lt (Nat.lt_succ_self _)) #[.str x t, .str y u], ⟨⟨_, Heap.get?_push_size _ rfl, rfl, rfl⟩, tup.push _⟩, fun c mc => ?_, by simp, cmp_ltT, fun v h' tk best hk => ?_⟩)
  · show c < ((s.heap.push _).push _).objs.size
    rw [Heap.size_push, big]
    simp only [List.mem_cons, List.not_mem_nil, or_false] at mc
    rcases mc with m | m <;> rw [m]
    · rw [big]; exact Nat.lt_succ_self _
    · exact Nat.lt_succ_of_lt (Nat.lt_succ_self _)
  · have old := h h' tk fun c o e => by
      refine hk c o (fun m => ?_) (Heap.get?_push_of_some _ (Heap.get?_push_of_some _ e))
      have lt := Heap.lt_size e
      rw [List.mem_singleton.mp m, big] at lt
      exact absurd lt (Nat.not_lt.mpr (Nat.le_succ _))
    have which : v = if Srs.ltT y x then Value.str y u else Value.str x t := by
      cases c : Srs.ltT y x <;> simp [argBest, txt, c] at best <;> simp [best]
    rw [which]
    exact old
end
section
variable {X : Cx}
theorem call_maxS (calm : X.calm = true) : CallR X (.builtin "max") (fun xs H Q => ∃ x y : Str, xs = [.str x, .str y] ∧ Q (.str (if Srs.ltT x y then y else x)) H) := by
  intro pins s σ H xs us Q I r h
  obtain ⟨x, y, rfl, q⟩ := h
  obtain ⟨u, w', rfl, ⟨t, rfl⟩, ⟨t', rfl⟩⟩ := vals2 r
  refine max_two (I.ok.hd calm) fun h' tk k => ⟨_, H, I.kept k, ?_, q⟩
  cases Srs.ltT x y <;> exact ⟨_, rfl⟩
theorem call_minS (calm : X.calm = true) : CallR X (.builtin "min") (fun xs H Q => ∃ x y : Str, xs = [.str x, .str y] ∧ Q (.str (if Srs.ltT y x then y else x)) H) := by
  intro pins s σ H xs us Q I r h
  obtain ⟨x, y, rfl, q⟩ := h
  obtain ⟨u, w', rfl, ⟨t, rfl⟩, ⟨t', rfl⟩⟩ := vals2 r
  refine min_two (I.ok.hd calm) fun h' tk k => ⟨_, H, I.kept k, ?_, q⟩
  cases Srs.ltT y x <;> exact ⟨_, rfl⟩
end
end Mm

/-! Dicts whose keys are tuples: values, list of items, made of pairs, emptied; either of two readings. Law-independent. -/
namespace Dt
open PySem PySem.Spec PyProof.Rows L2 Dk
section
variable {X : Cx}
/-! ### either of two readings -/
theorem pi_or {tg e : Expr} {u v : TI} (a : PI X tg e u) (b : PI X tg e v) : PI X tg e (fun σ H R => u σ H R ∨ v σ H R) :=
  ⟨fun pins s σ H R I h => h.elim (fun z => a.run pins s σ H R I z) (fun z => b.run pins s σ H R I z)⟩
theorem pe_or {e : Expr} {u v : TE} (a : PE X e u) (b : PE X e v) : PE X e (fun σ H Q => u σ H Q ∨ v σ H Q) :=
  ⟨fun pins s σ H Q I h => h.elim (fun z => a.run pins s σ H Q I z) (fun z => b.run pins s σ H Q I z)⟩
theorem cr_or {f : Value} {u v : List V → Hp → VK → Prop} (a : CallR X f u) (b : CallR X f v) : CallR X f (fun xs H Q => u xs H Q ∨ v xs H Q) :=
  fun pins s σ H xs us Q I r h => h.elim (fun z => a pins s σ H xs us Q I r z) (fun z => b pins s σ H xs us Q I r z)
theorem mt_or {f : String} {u v : V → List V → Hp → VK → Prop} (a : MtR X f u) (b : MtR X f v) : MtR X f (fun x xs H Q => u x xs H Q ∨ v x xs H Q) :=
  fun pins s σ H x xs w us Q I rx r h => h.elim (fun z => a pins s σ H x xs w us Q I rx r z) (fun z => b pins s σ H x xs w us Q I rx r z)
/-! ### the entries -/
theorem entsT {P : Program} {w : World} {H : Hp} {h : Heap} {d : Addr} {kvs : List (List Key × V)} (ok : ObjOk P w H h d (.dT kvs)) : (d == sysModules) = false ∧ kvs.length ≤ sizeLine ∧ ∃ (es : Array DictEntry) (ep : Nat), h.DictRaw d es ep ∧ es.size = kvs.length ∧
    ∀ i k v, kvs[i]? = some (k, v) → ∃ (hi : i < es.size) (q : Addr), es[i].key = .ref q ∧ H q = some (.tup (k.map kV)) ∧ RelV v es[i].val := by
  obtain ⟨z, hs, xs, pr, o, es, ep, ho, hx, hdt, he, _⟩ := ok
  have l1 : es.size = xs.length := size_of_entries he
  have l2 : kvs.length = xs.length := Paired.length pr
  refine ⟨hs, z, es, ep, ⟨o, ho, hx, hdt⟩, by omega, fun i k v e => ?_⟩
  obtain ⟨b, hb, e1, e2, e3⟩ := paired_get pr e
  have q := entry_at he i
  rw [hb] at q
  obtain ⟨hi, q⟩ := Array.getElem?_eq_some_iff.mp q
  exact ⟨hi, b.2.1, by rw [q]; rfl, e2, by rw [q]; exact e3⟩
theorem frzT {pins : List (Addr × Obj)} {σ : L2.St} {H : Hp} {s : Shared} {d : Addr} {o : Obj} {kvs : List (List Key × V)} (I : Inv X pins σ H s) (h : H d = some (.frz o (.dT kvs))) : (d == sysModules) = false ∧ kvs.length ≤ sizeLine ∧ ∃ (es : Array DictEntry) (ep : Nat), o.data = .dict es ep ∧ s.heap.DictRaw d es ep ∧ es.size = kvs.length ∧
    ∀ i k v, kvs[i]? = some (k, v) → ∃ (hi : i < es.size) (q : Addr), es[i].key = .ref q ∧ H q = some (.tup (k.map kV)) ∧ RelV v es[i].val := by
  obtain ⟨hd, ok⟩ := (show ObjOk X.prog X.w H s.heap d (.frz o (.dT kvs)) from I.hok d _ h)
  obtain ⟨h1, h2, es, ep, ⟨o', ho, hx, hdt⟩, h4, h5⟩ := entsT ok
  rw [hd] at ho
  cases ho
  exact ⟨h1, h2, es, ep, hdt, ⟨_, hd, hx, hdt⟩, h4, h5⟩
/-! ### for v in d.values() -/
def ItvT (d : Addr) (o : Obj) (kvs : List (List Key × V)) : It :=
  ⟨fun i H => H d = some (.frz o (.dT kvs)) ∧ i < kvs.length, fun i H x H' => H' = H ∧ ∃ k, kvs[i]? = some (k, x), fun i H => H d = some (.frz o (.dT kvs)) ∧ kvs.length ≤ i⟩
theorem turnVT {P : Program} {w : World} {K : PySem.W.Frag} {tg : Expr} {d : Addr} {o : Obj} {kvs : List (List Key × V)} {es : Array DictEntry} {ep : Nat} (it : Addr) (hod : o.data = .dict es ep) : Turn P w K tg (ItvT d o kvs) [it] it (fun i h => h.IsValIter it d i kvs.length ep) where
  mem := List.mem_singleton.mpr rfl
  obj := fun i h st b hb => by
    obtain rfl := List.mem_singleton.mp hb
    obtain ⟨oi, e, _, dd⟩ := st
    exact ⟨oi, e, fun v z => by rw [dd] at z; cases z⟩
  keep := fun i h h' st k => st.at fun oi e => k it (List.mem_singleton.mpr rfl) oi e
  item := by
    rintro X rfl rfl rfl hc i pins s σ H E I hf st ⟨hd, hi⟩
    obtain ⟨f0, f1, f2, f3, f4, f5⟩ := hf it (List.mem_singleton.mpr rfl)
    obtain ⟨hs, _, es', ep', hdt, hm, hsz, ent⟩ := frzT I hd
    obtain ⟨rfl, rfl⟩ := dict_ep hod hdt
    obtain ⟨⟨k, v⟩, hkv⟩ : ∃ p, kvs[i]? = some p := ⟨kvs[i], List.getElem?_eq_getElem hi⟩
    obtain ⟨hi2, q, _, _, rv⟩ := ent i k v hkv
    rw [← hsz] at st
    refine wpAny_pyNext_values_item_raw st hm hi2 fun h' st' sb => ?_
    obtain ⟨oi, e, c, dd⟩ := id st'
    refine ⟨_, rfl, go_of (s := { s with heap := h' }) e c dd (by decide) ⟨v, H, I.turned (t' := s.toks) (fun b ob hb e => (sb.2 b hb).trans e) f0 f1 f3 f4 f5, rv, ⟨rfl, k, hkv⟩, ?_, fun b hb => (hf b hb).1⟩⟩
    show h'.IsValIter it d (i + 1) kvs.length _
    rw [← hsz]
    exact st'
  done := by
    rintro X rfl rfl rfl hc i pins s σ H E I hf st ⟨hd, hi⟩
    obtain ⟨f0, f1, f2, f3, f4, f5⟩ := hf it (List.mem_singleton.mpr rfl)
    obtain ⟨hs, _, es', ep', hdt, hm, hsz, ent⟩ := frzT I hd
    obtain ⟨rfl, rfl⟩ := dict_ep hod hdt
    rw [← hsz] at st
    exact wpAny_pyNext_values_end_raw (I.ok.hd hc) st hm (by omega) fun h' eb => ⟨rfl, I.turned (t' := s.toks) (fun b ob hb e => eb b ob hb e) f0 f1 f3 f4 f5⟩
  self := fun A i s Q E st h => wpAny_pyIter_valiter st h
def iValsT (td : TE) : TI := fun σ H R => td σ H fun x H1 => ∃ d o kvs, x = .ref d ∧ H1 d = some (.frz o (.dT kvs)) ∧ R (ItvT d o kvs) H1
theorem pi_valuesT {tg e : Expr} {td : TE} {apos cpos : Pos} (he : PE X e td) (hb : attributeBase e "values" X.env (eval e X.env) = eval e X.env := by rfl) (line : (apos.endLine == cpos.line) = true := by rfl) : PI X tg (.Call (.Attribute e "values" apos) [] [] cpos) (iValsT td) := by
  refine ⟨fun pins s σ H R I h => ?_⟩
  refine wpAny_Call_method (T := "dict") (id := "dict.values") hb rfl line F.plainAttrs_dict F.slot_dict_values F.type_dict_values (thn (he.run pins s σ H _ I h) fun u s1 ⟨x, H1, I1, rx, d, o, kvs, ex, hd, q⟩ => ?_)
  subst ex
  obtain rfl : u = Value.ref d := rx
  obtain ⟨hs, _, es, ep, hdt, hm, hsz, ent⟩ := frzT I1 hd
  refine ⟨hm.typeIs, fun b hb => (let ⟨ob, e1, e2, _⟩ := hm; ⟨ob, by cases hb; exact e1, e2.2.1⟩), ?_⟩
  have I2 : Inv X pins σ H1 { s1 with heap := s1.heap.push { cls := .type "dict_values", data := .fields #[.ref d] } } := I1.kept (t' := s1.toks) fun b ob q => Heap.get?_push_of_some _ q
  have fin : wpAny (model X.prog X.w) X.A (pyIter (.ref s1.heap.objs.size)) (PIE X pins σ tg R) X.xe { s1 with heap := s1.heap.push { cls := .type "dict_values", data := .fields #[.ref d] } } := by
    refine wpAny_pyIter_values_raw (d := d) ⟨_, Heap.get?_push_size _ rfl, rfl, rfl⟩ (hm.push _) (pi_one (tk := s1.toks) I2 _ (turnVT _ hdt) ⟨_, Heap.get?_push_size _ rfl, rfl, ?_⟩ q)
    rw [hsz]
    rfl
  show wpAny _ _ (callWith cpos (.builtin "dict.values") [.ref d] [] []) _ X.xe s1
  exact method_meetsIn F.slot_dict_values F.entry_dict_values rfl (PySem.evalArgs_none ⟨rfl, hm.typeIs, F.args_dict_values_1 _, _, meets_dict_values_raw d hs, ⟨es, ep, hm⟩, fin⟩)
theorem walk_valuesT {d : Addr} {o : Obj} {kvs : List (List Key × V)} : Walk (ItvT d o kvs) kvs.length (fun H => H d = some (.frz o (.dT kvs))) (fun i H x H' => H' = H ∧ ∃ k, kvs[i]? = some (k, x)) where
  goes := fun i H hi q => ⟨q, hi⟩
  stops := fun H q => ⟨q, Nat.le_refl _⟩
  yields := fun i H v H' _ q y => y
/-! ### list(d.items()) -/
/-- new tuples of two, at their addresses -/
def putP : Hp → List Addr → List (V × V) → Hp
  | H, a :: as, p :: ps => putP (upd H a (.tup [p.1, p.2])) as ps
  | H, _, _ => H
theorem putP_off {b : Addr} : ∀ (as : List Addr) (ps : List (V × V)) (H : Hp), b ∉ as → putP H as ps b = H b
  | [], _, _, _ => rfl
  | _ :: _, [], _, _ => rfl
  | a :: as, p :: ps, H, h => (putP_off as ps _ (fun z => h (List.mem_cons_of_mem _ z))).trans (upd_ne (fun z => h (z ▸ List.mem_cons_self)))
theorem putP_at : ∀ (as : List Addr) (ps : List (V × V)) (H : Hp), as.length = ps.length → as.Nodup → Paired (fun (t : Addr) (p : V × V) => putP H as ps t = some (.tup [p.1, p.2])) as ps
  | [], [], _, _, _ => .nil
  | [], _ :: _, _, h, _ => by cases h
  | _ :: _, [], _, h, _ => by cases h
  | a :: as, p :: ps, H, h, hn =>
    let hn' := List.nodup_cons.mp hn
    .cons ((putP_off as ps (upd H a (.tup [p.1, p.2])) hn'.1).trans upd_same) (putP_at as ps (upd H a (.tup [p.1, p.2])) (Nat.succ.inj h) hn'.2)
theorem refs_vals : ∀ as : List Addr, Vals (as.map V.ref) (as.map Value.ref)
  | [] => .nil
  | _ :: as => .cons rfl (refs_vals as)
theorem paired_ix {α β : Type} {F : α → β → Prop} : ∀ {xs : List α} {ys : List β}, Paired F xs ys → ∀ {x : α}, x ∈ xs → ∃ (j : Nat) (y : β), xs[j]? = some x ∧ ys[j]? = some y ∧ F x y
  | _, _, .cons h t, x, hx => (List.mem_cons.mp hx).elim (fun e => ⟨0, _, by rw [e]; rfl, rfl, e ▸ h⟩) (fun hx => let ⟨j, y, e1, e2, e3⟩ := paired_ix t hx; ⟨j + 1, y, e1, e2, e3⟩)
/-- the list and its new tuples are tracked -/
theorem dil_laid {pins : List (Addr × Obj)} {σ : L2.St} {H : Hp} {s : Shared} {h' : Heap} {tk : Nat} {es : Array DictEntry} {ps : List (V × V)} {acc : Array Value} {c : Nat} {as : List Addr} {L : Addr} (low : s.heap.objs.size ≤ L) (I : Inv X pins σ H s) (few : as.length ≤ sizeLine) (same : ps.length = as.length) (ent : ∀ (j : Nat) (p : V × V), ps[j]? = some p → ∃ hj : j < es.size, RelV p.1 es[j].key ∧ RelV p.2 es[j].val)
    (kept : ∀ b o, s.heap.get? b = some o → h'.get? b = some o) (hS : h'.get? L = some { cls := .type "list", dict := none, data := .seq acc c, slots := #[] }) (G : PySem.W.DilG es L h' as) (hacc : acc.toList = as.map Value.ref) :
    ∃ H' : Hp, Evl.Ex H H' ∧ H L = none ∧ (∀ t ∈ as, H t = none) ∧ L ∉ as ∧ H' L = some (.lst (as.map V.ref)) ∧ Paired (fun (t : Addr) (p : V × V) => H' t = some (.tup [p.1, p.2])) as ps ∧ Inv X pins σ H' { s with heap := h', toks := tk } := by
  have out : L ∉ as := fun z => Nat.lt_irrefl _ (G.above _ z)
  have nd : as.Nodup := List.Pairwise.imp (fun {a b} (h : a < b) => Nat.ne_of_lt h) G.rise
  have fresh : ∀ t ∈ as, H t = none := fun t ht => I.hok.fresh (Nat.le_trans low (Nat.le_of_lt (G.above t ht)))
  have freshS : H L = none := I.hok.fresh low
  have there := putP_at as ps (upd H L (.lst (as.map V.ref))) same.symm nd
  have off : ∀ b, b ∉ as → b ≠ L → putP (upd H L (.lst (as.map V.ref))) as ps b = H b := fun b h1 h2 => (putP_off as ps _ h1).trans (upd_ne h2)
  have old : ∀ b o, s.heap.get? b = some o → b ∉ as ∧ b ≠ L := fun b o e => ⟨fun z => absurd (Heap.lt_size e) (Nat.not_lt.mpr (Nat.le_trans low (Nat.le_of_lt (G.above b z)))), Nat.ne_of_lt (Nat.lt_of_lt_of_le (Heap.lt_size e) low)⟩
  have stay : Evl.Ex H (putP (upd H L (.lst (as.map V.ref))) as ps) := fun b u e => (off b (fun z => by rw [fresh b z] at e; cases e) (fun z => by rw [z, freshS] at e; cases e)).trans e
  have atS : putP (upd H L (.lst (as.map V.ref))) as ps L = some (.lst (as.map V.ref)) := (putP_off as ps _ out).trans upd_same
  refine ⟨_, stay, freshS, fresh, out, atS, there, I.call' (ch := []) rfl ⟨fun b o q _ _ _ => kept b o q, fun b o q _ _ _ => ⟨o.slots, kept b o q⟩, fun b o q n _ => (off b (old b o q).1 (old b o q).2).trans n, fun b o q _ => ⟨o, kept b o q⟩, fun b xs q => stay b _ q, fun b o u q => stay b _ q, fun b ps q => ⟨#[], by rw [stay b _ q]; simp⟩⟩ (fun b u q => ?_) I.bare fun b z => absurd z (by simp)⟩
  by_cases hb : b ∈ as
  · obtain ⟨j, p, e1, e2, e3⟩ := paired_ix there hb
    obtain rfl := Option.some.inj (q.symm.trans e3)
    obtain ⟨hj, r1, r2⟩ := ent j p e2
    obtain ⟨_, g⟩ := G.pairs j b e1
    exact ⟨by show 2 ≤ sizeLine; decide, [es[j].key, es[j].val], .cons r1 (.cons r2 .nil), ⟨_, g, rfl, _, rfl⟩⟩
  · by_cases hb2 : b = L
    · subst hb2
      obtain rfl := Option.some.inj (q.symm.trans atS)
      exact ⟨by rw [List.length_map]; exact few, acc.toList, c, by rw [hacc]; exact refs_vals as, by rw [Array.toArray_toList]; exact hS⟩
    · rw [off b hb hb2] at q
      exact (I.hok b u q).stay (fun d v _ y => kept d v y) (fun d y => stay d _ y) fun d xs y => stay d _ y
/-- an entry as a tuple of its key and its value -/
def EntT (H : Hp) (t : Addr) (kv : List Key × V) : Prop := ∃ b, H t = some (.tup [.ref b, kv.2]) ∧ H b = some (.tup (kv.1.map kV))
def tListItemsT (te : TE) : TE := fun σ H Q => te σ H fun x H1 => ∃ (d : Addr) (kvs : List (List Key × V)), x = .ref d ∧ H1 d = some (.dT kvs) ∧
  ∀ (H' : Hp) (p : Addr) (ts : List Addr), Evl.Ex H1 H' → H1 p = none → (∀ t ∈ ts, H1 t = none) → p ∉ ts → H' p = some (.lst (ts.map V.ref)) → Paired (EntT H') ts kvs → Q (.ref p) H'
theorem pe_listItemsT {e : Expr} {te : TE} {p apos cpos pos : Pos} (hc : X.calm = true) (he : PE X e te) (hg : Gl X "list") (hm : X.mg "list" = none) (hv : bootBuiltins "list" = some (.type "list")) (hb : attributeBase e "items" X.env (eval e X.env) = eval e X.env := by rfl) (line : (apos.endLine == cpos.line) = true := by rfl)
    (hs : starEach [.Call (.Attribute e "items" apos) [] [] cpos] X.env = (false, eval (.Call (.Attribute e "items" apos) [] [] cpos) X.env) :: starEach [] X.env := by rfl) : PE X (.Call (.Name "list" p) [.Call (.Attribute e "items" apos) [] [] cpos] [] pos) (tListItemsT te) := by
  refine ⟨fun pins s σ H Q I hq => wpAny_Call_Name_kw (ld_blt I hg hm hv (PyProof.Rows.callWith_type1 ?_ hs rfl))⟩
  rw [hs]
  show wpAny _ _ (spliced ((false, eval (.Call (.Attribute e "items" apos) [] [] cpos) X.env) :: backTo pos (starEach [] X.env))) _ _ s
  refine Calls.spliced_cons (wpAny_Call_method (T := "dict") (id := "dict.items") hb rfl line F.plainAttrs_dict F.slot_dict_items F.type_dict_items (thn (he.run pins s σ H _ I hq) fun u s1 ⟨x, H1, I1, rx, d, kvs, ex, hd, q⟩ => ?_))
  subst ex
  obtain rfl : u = Value.ref d := rx
  obtain ⟨hs0, hz, es, ep, raw, size, ent⟩ := entsT (I1.hok d _ hd)
  have I2 : Inv X pins σ H1 { s1 with heap := s1.heap.push { cls := .type "dict_items", data := .fields #[.ref d] } } := I1.kept (t' := s1.toks) fun b ob q => Heap.get?_push_of_some _ q
  refine ⟨raw.typeIs, fun b hb' => (let ⟨ob, e1, e2, _⟩ := raw; ⟨ob, by cases hb'; exact e1, e2.2.1⟩), ?_⟩
  show wpAny _ _ (callWith cpos (.builtin "dict.items") [.ref d] [] []) _ X.xe s1
  refine method_meetsIn F.slot_dict_items F.entry_dict_items rfl (PySem.evalArgs_none ⟨rfl, raw.typeIs, F.args_dict_items_1 _, _, meets_dict_items_raw d hs0, ⟨es, ep, raw⟩, Calls.spliced_nil ?_⟩)
  refine PySem.W.dil_call (I1.ok.hd hc) ⟨_, Heap.get?_push_size _ rfl, rfl, rfl⟩ (raw.push _) (by omega) fun h' tk acc c as kept hS few G hacc => ?_
  -- the keys' addresses
  have keys : ∃ ps : List (V × V), ps.length = as.length ∧ (∀ (j : Nat) (p : V × V), ps[j]? = some p → ∃ hj : j < es.size, RelV p.1 es[j].key ∧ RelV p.2 es[j].val) ∧ ∀ (j : Nat) (p : V × V), ps[j]? = some p → ∃ b kv, kvs[j]? = some kv ∧ p = (.ref b, kv.2) ∧ H1 b = some (.tup (kv.1.map kV)) := by
    have one : ∀ j : Nat, ∃ p : V × V, j < kvs.length → (∃ hj : j < es.size, RelV p.1 es[j].key ∧ RelV p.2 es[j].val) ∧ ∃ b kv, kvs[j]? = some kv ∧ p = (.ref b, kv.2) ∧ H1 b = some (.tup (kv.1.map kV)) := fun j => by
      by_cases lt : j < kvs.length
      · obtain ⟨hj, b, e1, e2, e3⟩ := ent j _ _ (List.getElem?_eq_getElem lt)
        exact ⟨(.ref b, kvs[j].2), fun _ => ⟨⟨hj, e1, e3⟩, b, kvs[j], List.getElem?_eq_getElem lt, rfl, e2⟩⟩
      · exact ⟨(.non, .non), fun z => absurd z lt⟩
    obtain ⟨f, hf⟩ := Classical.axiomOfChoice one
    have get : ∀ (j : Nat) (p : V × V), ((List.range kvs.length).map f)[j]? = some p → j < kvs.length ∧ p = f j := fun j p e => by
      rw [List.getElem?_map] at e
      obtain ⟨i, hi, rfl⟩ := Option.map_eq_some_iff.mp e
      obtain ⟨lt, hi⟩ := List.getElem?_eq_some_iff.mp hi
      rw [List.getElem_range] at hi
      rw [List.length_range] at lt
      exact ⟨lt, by rw [hi]⟩
    refine ⟨(List.range kvs.length).map f, by rw [List.length_map, List.length_range, few, size], fun j p e => ?_, fun j p e => ?_⟩
    · obtain ⟨lt, rfl⟩ := get j p e
      exact (hf j lt).1
    · obtain ⟨lt, rfl⟩ := get j p e
      exact (hf j lt).2
  obtain ⟨ps, l1, l2, l3⟩ := keys
  obtain ⟨H', k1, k2, k3, k4, k5, k6, J⟩ := dil_laid (tk := tk) (Nat.le_refl _) I2 (by omega) l1 l2 kept hS G hacc
  refine ⟨.ref _, H', J, rfl, q H' _ as k1 (I1.hok.fresh (by rw [Heap.size_push]; exact Nat.le_succ _)) k3 k4 k5 ?_⟩
  have mix : ∀ {as : List Addr} {ps : List (V × V)}, Paired (fun (t : Addr) (p : V × V) => H' t = some (.tup [p.1, p.2])) as ps → ∀ {kvs : List (List Key × V)}, kvs.length = as.length → (∀ (j : Nat) (p : V × V), ps[j]? = some p → ∃ b kv, kvs[j]? = some kv ∧ p = (.ref b, kv.2) ∧ H1 b = some (.tup (kv.1.map kV))) → Paired (EntT H') as kvs := by
    intro as ps h
    induction h with
    | nil =>
      intro kvs hl _
      obtain rfl := List.length_eq_zero_iff.mp hl
      exact .nil
    | cons a r ih =>
      intro kvs hl hj
      cases kvs with
      | nil => cases hl
      | cons kv kvs =>
        obtain ⟨b, kv', e1, e2, e3⟩ := hj 0 _ rfl
        obtain rfl : kv = kv' := Option.some.inj e1
        subst e2
        exact .cons ⟨b, a, k1 _ _ e3⟩ (ih (Nat.succ.inj hl) fun j p e => hj (j + 1) p e)
  exact mix k6 (by omega) l3
/-! ### dict(pairs) -/
def mergeT (kvs more : List (List Key × V)) : List (List Key × V) := more.foldl (fun acc kv => putK acc kv.1 kv.2) kvs
theorem ktMerge {H : Hp} : ∀ {more : List (List Key × V)} {rs xs : List (List Key × Addr × Value)} {kvs : List (List Key × V)}, KT H more rs → KT H kvs xs → KT H (mergeT kvs more) (storedAllH xs rs) := by
  intro more rs xs kvs r
  unfold KT at r
  induction r generalizing kvs xs with
  | nil => exact fun q => q
  | @cons p q ps qs h t ih =>
    intro r0
    have e : KT H (putK kvs p.1 p.2) (storedH xs q.1 q.2.1 q.2.2) := by
      have := KT.put r0 p.1 h.2.1 h.2.2
      rw [← h.1]
      exact this
    exact ih e
theorem refs_of : ∀ {ts : List Addr} {us : List Value}, Vals (ts.map V.ref) us → us = ts.map Value.ref
  | [], _, .nil => rfl
  | t :: r, _, .cons h k => by rw [refs_of k]; exact congrArg (· :: _) h
theorem ktOf {H : Hp} : ∀ {kvs : List (List Key × V)} {ps : List (List Key × Addr × Value)}, KT H kvs ps → ∀ x ∈ ps, ∃ kv ∈ kvs, kv.1 = x.1 ∧ H x.2.1 = some (.tup (x.1.map kV))
  | _, _, .nil, x, hx => absurd hx (by simp)
  | _, _, .cons h t, x, hx => (List.mem_cons.mp hx).elim (fun e => ⟨_, List.mem_cons_self, by rw [e]; exact h.1, by rw [e, ← h.1]; exact h.2.1⟩) (fun hx => let ⟨kv, h1, h2⟩ := ktOf t x hx; ⟨kv, List.mem_cons_of_mem _ h1, h2⟩)
theorem entsOf {pins : List (Addr × Obj)} {σ : L2.St} {H : Hp} {s : Shared} (I : Inv X pins σ H s) : ∀ {ts : List Addr} {kvs : List (List Key × V)}, Paired (EntT H) ts kvs → ∃ ps : List (List Key × Addr × Value), KT H kvs ps ∧ ∀ (j : Nat) (t : Addr) (p : List Key × Addr × Value), ts[j]? = some t → ps[j]? = some p → s.heap.IsTuple t #[.ref p.2.1, p.2.2]
  | _, _, .nil => ⟨[], .nil, fun j t p h => by simp at h⟩
  | _, _, @Paired.cons _ _ _ t kv _ _ h k => by
    obtain ⟨b, h1, h2⟩ := h
    obtain ⟨ps, k1, k2⟩ := entsOf I k
    obtain ⟨_, its, rv, o, g1, g2, n, g3⟩ := (show ObjOk X.prog X.w H s.heap t (.tup [.ref b, kv.2]) from I.hok t _ h1)
    obtain ⟨u1, u2, rfl, r1, r2⟩ := Vals.two rv
    obtain rfl : u1 = Value.ref b := r1
    refine ⟨(kv.1, b, u2) :: ps, .cons ⟨rfl, h2, r2⟩ k1, fun j t' p e1 e2 => ?_⟩
    cases j with
    | zero =>
      obtain rfl := Option.some.inj e1
      obtain rfl := Option.some.inj e2
      exact ⟨o, g1, g2, n, g3⟩
    | succ j => exact k2 j t' p e1 e2
theorem mergeT_len : ∀ (more kvs : List (List Key × V)), (mergeT kvs more).length ≤ kvs.length + more.length
  | [], kvs => Nat.le_refl _
  | p :: r, kvs => by
    have h1 := mergeT_len r (putK kvs p.1 p.2)
    have h2 := length_putK kvs p.1 p.2
    show (mergeT (putK kvs p.1 p.2) r).length ≤ _
    rw [List.length_cons]
    omega
theorem call_dictT (calm : X.calm = true) (room : X.A.units + 2 < cLine) : CallR X (.type "dict") (fun xs H Q => ∃ (a : Addr) (ts : List Addr) (kvs : List (List Key × V)), xs = [.ref a] ∧ SqL X.K H a (ts.map V.ref) ∧ Paired (EntT H) ts kvs ∧ ∀ p, H p = none → Q (.ref p) (upd H p (.dT (mergeT [] kvs)))) := by
  intro pins s σ H xs us Q I r q
  obtain ⟨a, ts, kvs, rfl, hq, hp, q⟩ := q
  obtain ⟨u, rfl, rx⟩ := vals1 r
  cases rx
  obtain ⟨its, rv, pl, hz⟩ := I.list hq
  obtain rfl := refs_of rv
  rw [List.length_map] at hz
  have tl : ts.length = kvs.length := Paired.length hp
  obtain ⟨ps, kt, tups⟩ := entsOf I hp
  have pl1 : ps.length = kvs.length := (Paired.length kt).symm
  have items : PairItems s.heap (ts.map Value.ref).toArray (fun j => ts.getD j 0) (ps.map fun p => (Value.ref p.2.1, p.2.2)) := by
    refine ⟨by simp; omega, fun j k v e => ?_⟩
    rw [List.getElem?_map] at e
    obtain ⟨p, hp', ep⟩ := Option.map_eq_some_iff.mp e
    obtain ⟨e1, e2⟩ := Prod.mk.inj ep
    obtain ⟨t, ht⟩ : ∃ t, ts[j]? = some t := ⟨_, List.getElem?_eq_getElem (show j < ts.length by have := (List.getElem?_eq_some_iff.mp hp').1; omega)⟩
    have gd : ts.getD j 0 = t := by simp [List.getD, ht]
    refine ⟨by show _ = some (Value.ref (ts.getD j 0)); rw [gd]; simp [ht], ?_⟩
    show PairAt s.heap (ts.getD j 0) k v
    rw [gd, ← e1, ← e2]
    exact .inl (tups j t p ht hp')
  have P := PairArg.list (prog := X.prog) (w := X.w) a (ts.map Value.ref).toArray (fun j => ts.getD j 0) (ps.map fun p => (Value.ref p.2.1, p.2.2))
  refine call_dict_pairsH (knd := tupleKind (mixKind X.prog X.w)) (ps := ps) P (I.ok.hd calm) (show X.A.units + 2 < cLine from room) ⟨?_, items⟩ ⟨by rw [List.length_map], fun i key v e => ?_⟩ (fun h' hk x hx => ?_) (by rw [List.length_map]; omega) fun h' tk dd kept => ?_
  · obtain ⟨o, n, e1, e2, e3, e4⟩ := pl
    exact ⟨o, n, e1, e2, e3, e4⟩
  · have e : (ps.map fun p => (Value.ref p.2.1, p.2.2))[i]? = some (key, v) := e
    rw [List.getElem?_map] at e
    obtain ⟨p, hp', ep⟩ := Option.map_eq_some_iff.mp e
    obtain ⟨e1, e2⟩ := Prod.mk.inj ep
    exact ⟨p.1, p.2.1, by rw [hp', ← e2], e1.symm⟩
  · obtain ⟨kv, _, _, hb⟩ := ktOf kt x hx
    obtain ⟨o, its, n, h1, h2, h3, h4⟩ := key_of I.hok hb
    exact ⟨o, its, n, hk _ _ (Nat.ne_of_lt (Heap.lt_size h1)) (by simp) h1, h2, h3, h4⟩
  · have low : (s.heap.objs.size == sysModules) = false := beq_eq_false_iff_ne.mpr (Nat.ne_of_gt I.big)
    have few : (mergeT [] kvs).length ≤ sizeLine := Nat.le_trans (mergeT_len kvs []) (by rw [List.length_nil, Nat.zero_add, ← tl]; exact hz)
    obtain ⟨o, es, ep, g1, g2, g3, g4, _, g5⟩ := dd
    refine ⟨.ref s.heap.objs.size, upd H s.heap.objs.size (.dT (mergeT [] kvs)), I.laid (t' := tk) (fun b ob e => kept b ob (by simp) e) (Nat.le_refl _) (show ObjOk X.prog X.w _ _ _ (.dT (mergeT [] kvs)) from ⟨few, low, _, KT.keeps (ktMerge kt .nil) fun c ys ec => ?_, o, es, ep, g1, g2, g3, g4, g5⟩), rfl, q _ (I.hok.fresh (Nat.le_refl _))⟩
    rw [upd_ne (fun z => by rw [z, I.hok.fresh (Nat.le_refl _)] at ec; cases ec)]
    exact ec
/-! ### d.clear() -/
def rClearT : V → List V → Hp → VK → Prop := fun x vs H Q => ∃ (a : Addr) (kvs : List (List Key × V)), x = .ref a ∧ vs = [] ∧ H a = some (.dT kvs) ∧ Q .non (upd H a (.dT []))
theorem mt_clearT : MtR X "dict.clear" rClearT := by
  intro pins s σ H x vs v us Q I rx rv h
  obtain ⟨a, kvs, rfl, rfl, e, q⟩ := h
  obtain rfl : v = Value.ref a := rx
  obtain rfl := rv.zero
  obtain ⟨h0, few, es, ep, raw, size, _⟩ := entsT (I.hok a _ e)
  refine call_meetsIn PySem.F.slot_dict_clear raw.typeIs PySem.F.entry_dict_clear (PySem.F.args_dict_clear_1 _) (meets_dict_clear_raw a) ⟨es, ep, raw, by omega, fun h' raw' same => ?_⟩
  obtain ⟨o, g1, g2, g3⟩ := raw'
  exact ⟨.non, _, d_write (ob := .dT []) (t' := s.toks) I (by rw [e]; exact True.intro) same ⟨o, g1⟩ ⟨Nat.zero_le _, h0, [], .nil, o, _, _, g1, g2, g3, rfl, List.nodup_nil⟩, rfl, q⟩
/-! ### xs.count(pair) -/
def pdPair (q : Str × Str) : PyData := .tuple [.str q.1, .str q.2]
theorem eqv_pair (p q : Str × Str) : PyData.eqv (pdPair p) (pdPair q) = decide (p = q) := by
  obtain ⟨a, b⟩ := p
  obtain ⟨c, d⟩ := q
  rw [Bool.eq_iff_iff]
  simp [pdPair, PyData.eqv, PyData.eqvAll]
theorem count_pair (q : Str × Str) : ∀ qs : List (Str × Str), (qs.map pdPair).countP (fun y => PyData.eqv y (pdPair q)) = qs.count q
  | [] => rfl
  | p :: r => by
    rw [List.map_cons, List.countP_cons, count_pair q r, List.count_cons, eqv_pair]
    by_cases e : p = q <;> simp [e]
theorem plain_pairs : ∀ qs : List (Str × Str), PyData.plainAll (qs.map pdPair) = true
  | [] => rfl
  | p :: r => by
    rw [List.map_cons]
    unfold PyData.plainAll
    rw [plain_pairs r]
    rfl
theorem depth_pairs : ∀ qs : List (Str × Str), PyData.depthAll (qs.map pdPair) ≤ 1
  | [] => by simp [PyData.depthAll]
  | p :: r => by
    have := depth_pairs r
    rw [List.map_cons]
    unfold PyData.depthAll
    have : PyData.depth (pdPair p) ≤ 1 := by simp [pdPair, PyData.depth, PyData.depthAll]
    omega
/-- tuples of two texts -/
def TwoAt (H : Hp) (t : Addr) (q : Str × Str) : Prop := H t = some (.tup [.str q.1, .str q.2])
theorem dp_pairs {K : PySem.W.Frag} {H : Hp} : ∀ {ts : List Addr} {qs : List (Str × Str)}, Paired (TwoAt H) ts qs → DpAll K H (ts.map V.ref) (qs.map pdPair)
  | _, _, .nil => .nil
  | _, _, .cons h k => .cons (.tup (SqT.of h) (.cons (.str _) (.cons (.str _) .nil))) (dp_pairs k)
def rCntP (K : PySem.W.Frag) : V → List V → Hp → VK → Prop := fun x xs H Q => ∃ (p b : Addr) (ts : List Addr) (qs : List (Str × Str)) (z : Str × Str), x = .ref p ∧ xs = [.ref b] ∧ SqL K H p (ts.map V.ref) ∧ Paired (TwoAt H) ts qs ∧ TwoAt H b z ∧ Q (.int (qs.count z : Nat)) H
theorem mt_countP (room : X.A.units + 3 < cLine) : MtR X "list.count" (rCntP X.K) := by
  intro pins s σ H x xs v us Q I rx rxs h
  obtain ⟨p, b, ts, qs, z, rfl, rfl, hq, hp, hb, q⟩ := h
  obtain rfl : v = Value.ref p := rx
  obtain ⟨u, rfl, ru⟩ := rxs.one
  obtain ⟨its, rv, pl, few⟩ := I.list hq
  obtain ⟨as, rs⟩ := Dp.readsAll I _ _ _ (dp_pairs hp) rv
  obtain ⟨bs, rb⟩ := Dp.reads I _ _ _ (.tup (SqT.of hb) (.cons (.str _) (.cons (.str _) .nil)) : Dp X.K H (.ref b) (pdPair z)) ru
  refine PySem.SeqAt.count_list_data pl.isList (by simpa using rs) rb (plain_pairs qs) rfl (by have := depth_pairs qs; omega) ?_
  show EP X pins σ Q (.int (((qs.map pdPair).countP fun y => PyData.eqv y (pdPair z) : Nat) : Int) s.toks) _
  rw [count_pair]
  exact ⟨.int (qs.count z : Nat), H, I.tok _, ⟨s.toks, rfl⟩, q⟩
/-! ### min(pair), max(pair) -/
theorem call_minP (calm : X.calm = true) : CallR X (.builtin "min") (fun xs H Q => ∃ (t : Addr) (x y : Str), xs = [.ref t] ∧ SqT X.K H t [.str x, .str y] ∧ Q (.str (if Srs.ltT y x then y else x)) H) := by
  intro pins s σ H xs us Q I r h
  obtain ⟨t, x, y, rfl, hq, q⟩ := h
  obtain ⟨u, rfl, rx⟩ := vals1 r
  cases rx
  obtain ⟨its, rv, tup, _⟩ := I.tuple hq
  obtain ⟨u1, u2, rfl, ⟨k1, rfl⟩, ⟨k2, rfl⟩⟩ := Vals.two rv
  have tup : s.heap.IsTuple t #[.str x k1, .str y k2] := let ⟨o, h1, h2, n, h3⟩ := tup; ⟨o, h1, h2, n, h3⟩
  have low : t < s.heap.objs.size := let ⟨o, h1, _⟩ := tup; Heap.lt_size h1
  refine call_min_walk (wpAny_pyIter_tuple tup ⟨_, [_, t], [_], _, _, _, _, rfl, Walks.tuple (A := X.A.in1) (I.ok.hd calm) _ t (Nat.ne_of_lt low) #[.str x k1, .str y k2], ⟨⟨_, Heap.get?_push_size _ rfl, rfl, rfl⟩, tup.push _⟩, fun c mc => ?_, by simp, Mm.cmp_ltT, fun v h' tk best hk => ?_⟩)
  · show c < (s.heap.push _).objs.size
    rw [Heap.size_push]
    simp only [List.mem_cons, List.not_mem_nil, or_false] at mc
    rcases mc with m | m <;> rw [m]
    · exact Nat.lt_succ_self _
    · exact Nat.lt_succ_of_lt low
  · have J : Inv X pins σ H { s with heap := h', toks := tk } := I.kept (t' := tk) fun c o e => by
      refine hk c o (fun m => ?_) (Heap.get?_push_of_some _ e)
      have lt := Heap.lt_size e
      rw [List.mem_singleton.mp m] at lt
      exact absurd lt (Nat.lt_irrefl _)
    refine ⟨.str (if Srs.ltT y x then y else x), H, J, ?_, q⟩
    cases c : Srs.ltT y x <;> simp [argBest, Mm.txt, c] at best <;> subst best <;> exact ⟨_, rfl⟩
theorem call_maxP (calm : X.calm = true) : CallR X (.builtin "max") (fun xs H Q => ∃ (t : Addr) (x y : Str), xs = [.ref t] ∧ SqT X.K H t [.str x, .str y] ∧ Q (.str (if Srs.ltT x y then y else x)) H) := by
  intro pins s σ H xs us Q I r h
  obtain ⟨t, x, y, rfl, hq, q⟩ := h
  obtain ⟨u, rfl, rx⟩ := vals1 r
  cases rx
  obtain ⟨its, rv, tup, _⟩ := I.tuple hq
  obtain ⟨u1, u2, rfl, ⟨k1, rfl⟩, ⟨k2, rfl⟩⟩ := Vals.two rv
  have tup : s.heap.IsTuple t #[.str x k1, .str y k2] := let ⟨o, h1, h2, n, h3⟩ := tup; ⟨o, h1, h2, n, h3⟩
  have low : t < s.heap.objs.size := let ⟨o, h1, _⟩ := tup; Heap.lt_size h1
  refine call_max_walk (wpAny_pyIter_tuple tup ⟨_, [_, t], [_], _, _, _, _, rfl, Walks.tuple (A := X.A.in1) (I.ok.hd calm) _ t (Nat.ne_of_lt low) #[.str x k1, .str y k2], ⟨⟨_, Heap.get?_push_size _ rfl, rfl, rfl⟩, tup.push _⟩, fun c mc => ?_, by simp, Mm.cmp_gtT, fun v h' tk best hk => ?_⟩)
  · show c < (s.heap.push _).objs.size
    rw [Heap.size_push]
    simp only [List.mem_cons, List.not_mem_nil, or_false] at mc
    rcases mc with m | m <;> rw [m]
    · exact Nat.lt_succ_self _
    · exact Nat.lt_succ_of_lt low
  · have J : Inv X pins σ H { s with heap := h', toks := tk } := I.kept (t' := tk) fun c o e => by
      refine hk c o (fun m => ?_) (Heap.get?_push_of_some _ e)
      have lt := Heap.lt_size e
      rw [List.mem_singleton.mp m] at lt
      exact absurd lt (Nat.lt_irrefl _)
    refine ⟨.str (if Srs.ltT x y then y else x), H, J, ?_, q⟩
    cases c : Srs.ltT x y <;> simp [argBest, Mm.txt, c] at best <;> subst best <;> exact ⟨_, rfl⟩
end
end Dt

namespace K07
open PySem PySem.Spec PyProof.Rows L2 Sq Exs
/-! ### _law_same: of equal things -/
abbrev sSame : Stmt := top 40
def flatS : V → Bool
  | .non => true
  | .bl _ => true
  | .int _ => true
  | .str _ => true
  | _ => false
/-- a thing at the foot: flat, a list of such, an empty dict -/
def Shv (H : Hp) (v : V) : Prop := flatS v = true ∨ (∃ c zs, v = .ref c ∧ H c = some (.lst zs) ∧ (∀ z ∈ zs, flatS z = true) ∧ zs.length ≤ 1000) ∨ ∃ c, v = .ref c ∧ H c = some (.dK [])
theorem Shv.ex {H H' : Hp} {v : V} (h : Shv H v) (e : Evl.Ex H H') : Shv H' v := by
  rcases h with h | ⟨c, zs, h1, h2, h3, h4⟩ | ⟨c, h1, h2⟩
  · exact .inl h
  · exact .inr (.inl ⟨c, zs, h1, e _ _ h2, h3, h4⟩)
  · exact .inr (.inr ⟨c, h1, e _ _ h2⟩)
/-- equal and of the same kinds, to the depth n -/
def Sm (H : Hp) : Nat → V → V → Prop
  | 0, _, _ => False
  | n + 1, x, y => (flatS x = true ∧ x = y) ∨ (∃ a b xs ys, x = .ref a ∧ y = .ref b ∧ H a = some (.lst xs) ∧ H b = some (.lst ys) ∧ xs.length ≤ 1000 ∧ Paired (Sm H n) xs ys) ∨
    (∃ a b xs ys, x = .ref a ∧ y = .ref b ∧ Rd H a (.tup xs) ∧ H b = some (.tup ys) ∧ xs.length ≤ 1000 ∧ Paired (Sm H n) xs ys) ∨
    (∃ (a b : Addr) (ks : List (Key × V)), x = .ref a ∧ y = .ref b ∧ H a = some (.dK ks) ∧ H b = some (.dK ks) ∧ (∀ p ∈ ks, flatS p.2 = true ∨ (6 ≤ n ∧ Shv H p.2)) ∧ ks.length ≤ 1000 ∧ 3 ≤ n) ∨
    (∃ (a b : Addr) (ks : List (List Key × V)), x = .ref a ∧ y = .ref b ∧ H a = some (.dT ks) ∧ H b = some (.dT ks) ∧ (∀ p ∈ ks, flatS p.2 = true) ∧ (∀ p ∈ ks, p.1.length ≤ 1000) ∧ ks.length ≤ 1000 ∧ 4 ≤ n)
theorem flat_sm {H : Hp} {n : Nat} {x : V} (h : flatS x = true) : Sm H (n + 1) x x := .inl ⟨h, rfl⟩
theorem flat_kV (k : Key) : flatS (kV k) = true := by cases k <;> rfl
theorem Sm.ex {H H' : Hp} (e : Evl.Ex H H') : ∀ n x y, Sm H n x y → Sm H' n x y
  | 0, _, _, h => h
  | n + 1, x, y, h => by
    rcases h with h | ⟨a, b, xs, ys, h1, h2, h3, h4, h5, h6⟩ | ⟨a, b, xs, ys, h1, h2, h3, h4, h5, h6⟩ | ⟨a, b, ks, h1, h2, h3, h4, h5, h6, h7⟩ | ⟨a, b, ks, h1, h2, h3, h4, h5, h6, h7⟩
    · exact .inl h
    · exact .inr (.inl ⟨a, b, xs, ys, h1, h2, e _ _ h3, e _ _ h4, h5, Paired.mapP h6 fun _ _ z => Sm.ex e n _ _ z⟩)
    · exact .inr (.inr (.inl ⟨a, b, xs, ys, h1, h2, rdEx e h3, e _ _ h4, h5, Paired.mapP h6 fun _ _ z => Sm.ex e n _ _ z⟩))
    · exact .inr (.inr (.inr (.inl ⟨a, b, ks, h1, h2, e _ _ h3, e _ _ h4, (fun p hp => (h5 p hp).imp id fun z => ⟨z.1, z.2.ex e⟩), h6, h7⟩)))
    · exact .inr (.inr (.inr (.inr ⟨a, b, ks, h1, h2, e _ _ h3, e _ _ h4, h5, h6, h7⟩)))
theorem flats_sm {H : Hp} {n : Nat} : ∀ {zs : List V}, (∀ z ∈ zs, flatS z = true) → Paired (Sm H (n + 1)) zs zs
  | [], _ => .nil
  | z :: r, h => .cons (flat_sm (h z List.mem_cons_self)) (flats_sm fun y hy => h y (List.mem_cons_of_mem _ hy))
theorem shv_sm {H : Hp} {m : Nat} {v : V} (h : flatS v = true ∨ (3 ≤ m ∧ Shv H v)) : Sm H (m + 1) v v := by
  rcases h with h | ⟨hm, h | ⟨c, zs, rfl, h2, h3, h4⟩ | ⟨c, rfl, h2⟩⟩
  · exact flat_sm h
  · exact flat_sm h
  · obtain ⟨k, rfl⟩ : ∃ k, m = k + 1 := ⟨m - 1, by omega⟩
    exact .inr (.inl ⟨c, c, zs, zs, rfl, rfl, h2, h2, h4, flats_sm h3⟩)
  · exact .inr (.inr (.inr (.inl ⟨c, c, [], rfl, rfl, h2, h2, (fun p hp => by cases hp), by show 0 ≤ 1000; decide, hm⟩)))
theorem items_sm {H2 H3 : Hp} {m : Nat} (e : Evl.Ex H2 H3) : ∀ {ks : List (Key × V)} {ts us : List Addr}, (∀ p ∈ ks, flatS p.2 = true ∨ (3 ≤ m ∧ Shv H3 p.2)) → Paired (fun t (q : Key × V) => H2 t = some (HO.tup [kV q.1, q.2])) ts ks → Paired (fun t (q : Key × V) => H3 t = some (HO.tup [kV q.1, q.2])) us ks → Paired (Sm H3 (m + 2)) (ts.map V.ref) (us.map V.ref)
  | [], _, _, _, .nil, .nil => .nil
  | k :: ks, _, _, hf, .cons a b, .cons c d => .cons (.inr (.inr (.inl ⟨_, _, _, _, rfl, rfl, .inl (e _ _ a), c, by show 2 ≤ 1000; decide, .cons (flat_sm (flat_kV _)) (.cons (shv_sm (hf k List.mem_cons_self)) .nil)⟩))) (items_sm e (fun p hp => hf p (List.mem_cons_of_mem _ hp)) b d)
theorem keys_sm {H : Hp} {n : Nat} : ∀ k : List Key, Paired (Sm H (n + 1)) (k.map kV) (k.map kV)
  | [] => .nil
  | x :: r => .cons (flat_sm (flat_kV x)) (keys_sm r)
theorem itemsT_sm {H2 H3 : Hp} {m : Nat} (e : Evl.Ex H2 H3) : ∀ {ks : List (List Key × V)} {ts us : List Addr}, (∀ p ∈ ks, flatS p.2 = true) → (∀ p ∈ ks, p.1.length ≤ 1000) → Paired (Dt.EntT H2) ts ks → Paired (Dt.EntT H3) us ks → Paired (Sm H3 (m + 3)) (ts.map V.ref) (us.map V.ref)
  | [], _, _, _, _, .nil, .nil => .nil
  | k :: ks, _, _, hf, hl, .cons a b, .cons c d => by
    obtain ⟨x, a1, a2⟩ := a
    obtain ⟨y, c1, c2⟩ := c
    refine .cons (.inr (.inr (.inl ⟨_, _, _, _, rfl, rfl, .inl (e _ _ a1), c1, by show 2 ≤ 1000; decide, .cons ?_ (.cons (flat_sm (hf k List.mem_cons_self)) .nil)⟩))) (itemsT_sm e (fun p hp => hf p (List.mem_cons_of_mem _ hp)) (fun p hp => hl p (List.mem_cons_of_mem _ hp)) b d)
    exact .inr (.inr (.inl ⟨x, y, _, _, rfl, rfl, .inl (e _ _ a2), c2, by rw [List.length_map]; exact hl k List.mem_cons_self, keys_sm k.1⟩))
def spSame (n : Nat) : Sp := fun vs H Q _ => ∃ x y : V, vs = [x, y] ∧ Sm H n x y ∧ ∀ H', Evl.Ex H H' → Q (.bl true) H'
section
variable {P : Program} {w : World} {K : PySem.W.Frag} {mg : Str → Option Value} {base : Heap}
theorem scSame : FnScope ["found", "due", "x", "y"] ["found", "due"] (defScope sSame) := ⟨rfl, rfl, rfl, by decide +kernel, rfl, by decide +kernel, by decide +kernel⟩
theorem ok_same {f : Addr} {fd : FuncData} (F : FnP K "_law_same" sSame f fd) (g : mg "_law_same" = some (.ref f)) (gI : mg "int" = none) (gB : mg "bool" = none) (gL : mg "list" = none) (gT : mg "tuple" = none) (gD : mg "dict" = none) (gS : mg "isinstance" = none) (gLen : mg "len" = none) (gA : mg "all" = none) (gZ : mg "zip" = none) :
    ∀ n, FnOk P w K mg base CX0 n f fd ["found", "due"] (spSame n)
  | 0 => ⟨fun vs H Q E h => by obtain ⟨x, y, _, h, _⟩ := h; exact h.elim, fun A outer s H args us vs Q E _ _ _ _ h => by obtain ⟨x, y, _, h, _⟩ := h; exact h.elim⟩
  | n + 1 => by
    have ih : FnOk P w K mg base CX0 n f fd ["found", "due"] (spSame n) := ok_same F g gI gB gL gT gD gS gLen gA gZ n
    have bS : L2.Binds K fd ["found", "due"] [] := F.bindsN fun _ _ _ _ _ _ us hl => match us, hl with | [_, _], _ => rfl
    refine F.ok scSame (fun vs H Q E h => ?_) (fun cdv A outer s H vs Q E hr h => ?_)
    · obtain ⟨x, y, rfl, _⟩ := h
      rfl
    · obtain ⟨x, y, rfl, hs, k⟩ := h
      refine' ⟨_, PSs.nox (pss_cons (ps_if (pt_val (pe_callB call_isiT (by rfl) gS (by decide +kernel) (pa_cons (pv 1) (pa_cons (pe_tup (pa_cons (pe_bltn (v := .ty "list") rfl gL (by decide +kernel) rfl) (pa_cons (pe_bltn (v := .ty "tuple") rfl gT (by decide +kernel) rfl) pa_nil))) pa_nil))))
          (pss_cons (ps_if (PW.pt (pw_or (pt_cmpR op_ne (pe_callB call_isi (by rfl) gS (by decide +kernel) (pa_cons (pv 0) (pa_cons (pe_bltn (v := .ty "list") rfl gL (by decide +kernel) rfl) pa_nil))) (pe_callB call_isi (by rfl) gS (by decide +kernel) (pa_cons (pv 1) (pa_cons (pe_bltn (v := .ty "list") rfl gL (by decide +kernel) rfl) pa_nil))) (nomark _))
              (pw_or1 (pt_cmpR op_ne (pe_callB call_isi (by rfl) gS (by decide +kernel) (pa_cons (pv 0) (pa_cons (pe_bltn (v := .ty "tuple") rfl gT (by decide +kernel) rfl) pa_nil))) (pe_callB call_isi (by rfl) gS (by decide +kernel) (pa_cons (pv 1) (pa_cons (pe_bltn (v := .ty "tuple") rfl gT (by decide +kernel) rfl) pa_nil))) (nomark _))))) (pss_one (ps_ret pe_bl)) pss_nil)
          (pss_one (ps_ret (pe_and (pe_cmpR op_eq (pe_callB call_len_seq (by rfl) gLen PySem.boot_len (pa_cons (pv 0) pa_nil)) (pe_callB call_len_seq (by rfl) gLen PySem.boot_len (pa_cons (pv 1) pa_nil)) (nomark _)) (pe_one (pe_callB (cr_all rfl) (by rfl) gA (by decide +kernel) (pa_cons ?lc pa_nil))))))) pss_nil)
        (pss_cons (ps_if (pt_val (pe_callB call_isi (by rfl) gS (by decide +kernel) (pa_cons (pv 1) (pa_cons (pe_bltn (v := .ty "dict") rfl gD (by decide +kernel) rfl) pa_nil))))
          (pss_one (ps_ret (pe_and (pe_callB call_isi (by rfl) gS (by decide +kernel) (pa_cons (pv 0) (pa_cons (pe_bltn (v := .ty "dict") rfl gD (by decide +kernel) rfl) pa_nil))) (pe_one (pe_call ih hr rfl g F.kp bS .nil pass0 (pa_cons (Dt.pe_or (LiI.pe_listItems rfl (pv 0) (by rfl) gL (by decide +kernel)) (Dt.pe_listItemsT rfl (pv 0) (by rfl) gL (by decide +kernel))) (pa_cons (Dt.pe_or (LiI.pe_listItems rfl (pv 1) (by rfl) gL (by decide +kernel)) (Dt.pe_listItemsT rfl (pv 1) (by rfl) gL (by decide +kernel))) pa_nil))))))) pss_nil)
        (pss_cons (ps_if (pt_val (pe_callB call_isi (by rfl) gS (by decide +kernel) (pa_cons (pv 1) (pa_cons (pe_bltn (v := .ty "int") rfl gI (by decide +kernel) rfl) pa_nil))))
          (pss_one (ps_ret (pe_and (pe_callB call_isi (by rfl) gS (by decide +kernel) (pa_cons (pv 0) (pa_cons (pe_bltn (v := .ty "int") rfl gI (by decide +kernel) rfl) pa_nil)))
            (pe_and (pe_cmpR op_eq (pe_callB call_isi (by rfl) gS (by decide +kernel) (pa_cons (pv 0) (pa_cons (pe_bltn (v := .ty "bool") rfl gB (by decide +kernel) rfl) pa_nil))) (pe_callB call_isi (by rfl) gS (by decide +kernel) (pa_cons (pv 1) (pa_cons (pe_bltn (v := .ty "bool") rfl gB (by decide +kernel) rfl) pa_nil))) (nomark _))
            (pe_one (pe_cmpR op_eq (pv 0) (pv 1) (nomark _))))))) pss_nil)
        (pss_one (ps_ret (pe_and (pe_not (pe_callB call_isiT (by rfl) gS (by decide +kernel) (pa_cons (pv 0) (pa_cons (pe_tup (pa_cons (pe_bltn (v := .ty "int") rfl gI (by decide +kernel) rfl) (pa_cons (pe_bltn (v := .ty "list") rfl gL (by decide +kernel) rfl) (pa_cons (pe_bltn (v := .ty "tuple") rfl gT (by decide +kernel) rfl) (pa_cons (pe_bltn (v := .ty "dict") rfl gD (by decide +kernel) rfl) pa_nil))))) pa_nil))))
          (pe_one (pe_cmpR op_eq (pv 0) (pv 1) (nomark _))))))))), ?rd⟩
      case lc =>
        refine pe_lc (own := [("x", 2), ("y", 3)]) (g := gTup K 2 (gCons (gName 2) (gCons (gName 3) gNil))) (tt := tYes) (te := tCall (spSame n) [] E0 (tCons (tVar 2) (tCons (tVar 3) tNil))) rfl scSame.nd (pi_zip2 (by rfl) gZ (pa_cons (pv 0) (pa_cons (pv 1) pa_nil)))
          (blkOk_by (own := [("x", 2), ("y", 3)]) (N := ["found", "due", "x", "y"]) (sc := defScope sSame) (by decide +kernel)) (fun _ _ _ _ _ => pg_tup rfl (pgs_cons (pg_name (i := 2) scSame.nd rfl (.inl rfl)) (pgs_cons (pg_name (i := 3) scSame.nd rfl (.inl rfl)) pgs_nil))) (fun _ _ _ _ _ => pts_nil) ?_
        intro _ _ _ _ _
        exact pe_call ih hr rfl g F.kp bS .nil pass0 (pa_cons (pv 2) (pa_cons (pv 3) pa_nil))
      rcases hs with ⟨hf, rfl⟩ | ⟨a, b, xs, ys, rfl, rfl, ha, hb, hl, hp⟩ | ⟨a, b, xs, ys, rfl, rfl, ha, hb, hl, hp⟩ | ⟨a, b, ks, rfl, rfl, ha, hb, hfl, hkl, hn⟩ | ⟨a, b, ks, rfl, rfl, ha, hb, hfl, hk1, hkl, hn⟩
      · cases x with
        | non =>
          refine ⟨_, rfl, by show 2 ≤ sizeLine; decide, fun t ht => ?_⟩
          have e1 := Evl.Ex.new (o := .tup [V.ty "list", V.ty "tuple"]) ht
          have px : Pl (upd H t (.tup [V.ty "list", V.ty "tuple"])) .non "NoneType" := .non
          refine ⟨_, _, _, _, _, _, rfl, upd_same, cls_tys ["list", "tuple"], px.ty, px.any ["list", "tuple"] (by decide), _, rfl, iteF ?_⟩
          refine ⟨_, rfl, _, _, _, _, _, rfl, .ty _, px.ty, px.one "dict", _, rfl, iteF ?_⟩
          refine ⟨_, rfl, _, _, _, _, _, rfl, .ty _, px.ty, px.one "int", _, rfl, iteF ?_⟩
          refine ⟨_, rfl, by show 4 ≤ sizeLine; decide, fun t2 ht2 => ?_⟩
          have e2 := Evl.Ex.new (o := .tup [V.ty "int", V.ty "list", V.ty "tuple", V.ty "dict"]) ht2
          refine ⟨_, _, _, _, _, _, rfl, upd_same, cls_tys ["int", "list", "tuple", "dict"], (px.ext e2).ty, (px.ext e2).any ["int", "list", "tuple", "dict"] (by decide), _, rfl, _, rfl, iteT ?_⟩
          refine ⟨_, rfl, _, rfl, rfl, ?_⟩
          rw [decide_eq_true (rfl : (.non : V) = .non)]
          exact k _ (e1.trans e2)
        | bl z =>
          refine ⟨_, rfl, by show 2 ≤ sizeLine; decide, fun t ht => ?_⟩
          have e1 := Evl.Ex.new (o := .tup [V.ty "list", V.ty "tuple"]) ht
          have px : Pl (upd H t (.tup [V.ty "list", V.ty "tuple"])) (.bl z) "bool" := .bl z
          refine ⟨_, _, _, _, _, _, rfl, upd_same, cls_tys ["list", "tuple"], px.ty, px.any ["list", "tuple"] (by decide), _, rfl, iteF ?_⟩
          refine ⟨_, rfl, _, _, _, _, _, rfl, .ty _, px.ty, px.one "dict", _, rfl, iteF ?_⟩
          refine ⟨_, rfl, _, _, _, _, _, rfl, .ty _, px.ty, px.one "int", _, rfl, iteT ?_⟩
          refine ⟨_, rfl, _, _, _, _, _, rfl, .ty _, px.ty, px.one "int", _, rfl, iteT ?_⟩
          refine ⟨_, rfl, _, _, _, _, _, rfl, .ty _, px.ty, px.one "bool", _, rfl, _, _, _, _, _, rfl, .ty _, px.ty, px.one "bool", rfl, _, rfl, iteT ?_⟩
          refine ⟨_, rfl, _, rfl, rfl, ?_⟩
          rw [decide_eq_true (rfl : ((.bl z) : V) = (.bl z))]
          exact k _ e1
        | int z =>
          refine ⟨_, rfl, by show 2 ≤ sizeLine; decide, fun t ht => ?_⟩
          have e1 := Evl.Ex.new (o := .tup [V.ty "list", V.ty "tuple"]) ht
          have px : Pl (upd H t (.tup [V.ty "list", V.ty "tuple"])) (.int z) "int" := .int z
          refine ⟨_, _, _, _, _, _, rfl, upd_same, cls_tys ["list", "tuple"], px.ty, px.any ["list", "tuple"] (by decide), _, rfl, iteF ?_⟩
          refine ⟨_, rfl, _, _, _, _, _, rfl, .ty _, px.ty, px.one "dict", _, rfl, iteF ?_⟩
          refine ⟨_, rfl, _, _, _, _, _, rfl, .ty _, px.ty, px.one "int", _, rfl, iteT ?_⟩
          refine ⟨_, rfl, _, _, _, _, _, rfl, .ty _, px.ty, px.one "int", _, rfl, iteT ?_⟩
          refine ⟨_, rfl, _, _, _, _, _, rfl, .ty _, px.ty, px.one "bool", _, rfl, _, _, _, _, _, rfl, .ty _, px.ty, px.one "bool", rfl, _, rfl, iteT ?_⟩
          refine ⟨_, rfl, _, rfl, rfl, ?_⟩
          rw [decide_eq_true (rfl : ((.int z) : V) = (.int z))]
          exact k _ e1
        | str z =>
          refine ⟨_, rfl, by show 2 ≤ sizeLine; decide, fun t ht => ?_⟩
          have e1 := Evl.Ex.new (o := .tup [V.ty "list", V.ty "tuple"]) ht
          have px : Pl (upd H t (.tup [V.ty "list", V.ty "tuple"])) (.str z) "str" := .str z
          refine ⟨_, _, _, _, _, _, rfl, upd_same, cls_tys ["list", "tuple"], px.ty, px.any ["list", "tuple"] (by decide), _, rfl, iteF ?_⟩
          refine ⟨_, rfl, _, _, _, _, _, rfl, .ty _, px.ty, px.one "dict", _, rfl, iteF ?_⟩
          refine ⟨_, rfl, _, _, _, _, _, rfl, .ty _, px.ty, px.one "int", _, rfl, iteF ?_⟩
          refine ⟨_, rfl, by show 4 ≤ sizeLine; decide, fun t2 ht2 => ?_⟩
          have e2 := Evl.Ex.new (o := .tup [V.ty "int", V.ty "list", V.ty "tuple", V.ty "dict"]) ht2
          refine ⟨_, _, _, _, _, _, rfl, upd_same, cls_tys ["int", "list", "tuple", "dict"], (px.ext e2).ty, (px.ext e2).any ["int", "list", "tuple", "dict"] (by decide), _, rfl, _, rfl, iteT ?_⟩
          refine ⟨_, rfl, _, rfl, rfl, ?_⟩
          rw [decide_eq_true (rfl : ((.str z) : V) = (.str z))]
          exact k _ (e1.trans e2)
        | _ => cases hf
      · refine ⟨_, rfl, by show 2 ≤ sizeLine; decide, fun t ht => ?_⟩
        have e1 := Evl.Ex.new (o := .tup [V.ty "list", V.ty "tuple"]) ht
        have pa : Pl (upd H t (.tup [V.ty "list", V.ty "tuple"])) (.ref a) "list" := .lst (e1 _ _ ha)
        have pb : Pl (upd H t (.tup [V.ty "list", V.ty "tuple"])) (.ref b) "list" := .lst (e1 _ _ hb)
        refine ⟨_, _, _, _, _, _, rfl, upd_same, cls_tys ["list", "tuple"], pb.ty, pb.any ["list", "tuple"] (by decide), _, rfl, iteT ?_⟩
        refine ⟨_, rfl, _, _, _, _, _, rfl, .ty _, pa.ty, pa.one "list", _, rfl, _, _, _, _, _, rfl, .ty _, pb.ty, pb.one "list", rfl, _, rfl, iteF ?_⟩
        refine ⟨_, rfl, _, _, _, _, _, rfl, .ty _, pa.ty, pa.one "tuple", _, rfl, _, _, _, _, _, rfl, .ty _, pb.ty, pb.one "tuple", rfl, _, rfl, iteF ?_⟩
        refine ⟨_, rfl, a, _, rfl, .inl (SqL.of (e1 _ _ ha)), _, rfl, b, _, rfl, .inl (SqL.of (e1 _ _ hb)), rfl, _, rfl, ?_⟩
        have hlen : xs.length = ys.length := hp.length
        refine ite2 (fun _ => ?_) (fun z => absurd (decide_eq_true (by rw [hlen])) z)
        refine ⟨_, rfl, _, rfl, false, false, a, b, xs, ys, rfl, SqL.of (e1 _ _ ha), SqL.of (e1 _ _ hb), fun D hD => ?_⟩
        refine lc_it (walk_zip2 (t1 := false) (t2 := false) (xs := xs) (ys := ys) (n := xs.length) (by rw [hlen, Nat.min_self])) (fun i H' => Evl.Ex (upd H t (.tup [V.ty "list", V.ty "tuple"])) H' ∧ H' D = some (.lst ((List.replicate i true).map V.bl))) ⟨Evl.Ex.new hD, upd_same⟩ ?_ ?_ ?_
        · rintro i H' _ ⟨e2, _⟩
          exact ⟨SqL.of (e2 _ _ (e1 _ _ ha)), SqL.of (e2 _ _ (e1 _ _ hb))⟩
        · rintro i z H' H'' hi ⟨e2, g2⟩ ⟨T, u, v, rfl, hT, rfl, hu, hv⟩
          replace hu : xs[i]? = some u := hu
          replace hv : ys[i]? = some v := hv
          obtain ⟨v', hv', hsm⟩ := paired_get hp hu
          rw [hv] at hv'
          cases hv'
          have e3 := e2.trans (Evl.Ex.new (o := .tup [u, v]) hT)
          refine ⟨T, _, rfl, SqT.of upd_same, rfl, _, _, rfl, _, _, rfl, rfl, rfl, ?_⟩
          refine ⟨_, rfl, _, rfl, u, v, rfl, Sm.ex (e1.trans e3) n u v hsm, fun H3 e4 => ?_⟩
          have g3 := e4 _ _ ((Evl.Ex.new (o := .tup [u, v]) hT) _ _ g2)
          refine ⟨_, g3, ?_, (e3.trans e4).mut hD, ?_⟩
          · rw [sizeLine_eq, List.length_map, List.length_replicate]
            omega
          · rw [upd_same, List.replicate_succ', List.map_append]
            rfl
        · rintro H' ⟨e2, g2⟩
          refine ⟨D, _, rfl, SqL.of g2, ?_⟩
          rw [List.all_replicate]
          have : (if xs.length = 0 then true else id true) = true := by split <;> rfl
          first | (rw [this]; exact k H' (e1.trans e2)) | (simp; exact k H' (e1.trans e2))
      · refine ⟨_, rfl, by show 2 ≤ sizeLine; decide, fun t ht => ?_⟩
        have e1 := Evl.Ex.new (o := .tup [V.ty "list", V.ty "tuple"]) ht
        have pa : Pl (upd H t (.tup [V.ty "list", V.ty "tuple"])) (.ref a) "tuple" := .rdt (rdEx e1 ha)
        have pb : Pl (upd H t (.tup [V.ty "list", V.ty "tuple"])) (.ref b) "tuple" := .tup (e1 _ _ hb)
        refine ⟨_, _, _, _, _, _, rfl, upd_same, cls_tys ["list", "tuple"], pb.ty, pb.any ["list", "tuple"] (by decide), _, rfl, iteT ?_⟩
        refine ⟨_, rfl, _, _, _, _, _, rfl, .ty _, pa.ty, pa.one "list", _, rfl, _, _, _, _, _, rfl, .ty _, pb.ty, pb.one "list", rfl, _, rfl, iteF ?_⟩
        refine ⟨_, rfl, _, _, _, _, _, rfl, .ty _, pa.ty, pa.one "tuple", _, rfl, _, _, _, _, _, rfl, .ty _, pb.ty, pb.one "tuple", rfl, _, rfl, iteF ?_⟩
        refine ⟨_, rfl, a, _, rfl, .inr (.inl (rdEx e1 ha)), _, rfl, b, _, rfl, .inr (SqT.of (e1 _ _ hb)), rfl, _, rfl, ?_⟩
        have hlen : xs.length = ys.length := hp.length
        refine ite2 (fun _ => ?_) (fun z => absurd (decide_eq_true (by rw [hlen])) z)
        refine ⟨_, rfl, _, rfl, true, true, a, b, xs, ys, rfl, .inl (rdEx e1 ha), SqT.of (e1 _ _ hb), fun D hD => ?_⟩
        refine lc_it (walk_zip2 (t1 := true) (t2 := true) (xs := xs) (ys := ys) (n := xs.length) (by rw [hlen, Nat.min_self])) (fun i H' => Evl.Ex (upd H t (.tup [V.ty "list", V.ty "tuple"])) H' ∧ H' D = some (.lst ((List.replicate i true).map V.bl))) ⟨Evl.Ex.new hD, upd_same⟩ ?_ ?_ ?_
        · rintro i H' _ ⟨e2, _⟩
          exact ⟨.inl (rdEx (e1.trans e2) ha), SqT.of (e2 _ _ (e1 _ _ hb))⟩
        · rintro i z H' H'' hi ⟨e2, g2⟩ ⟨T, u, v, rfl, hT, rfl, hu, hv⟩
          replace hu : xs[i]? = some u := hu
          replace hv : ys[i]? = some v := hv
          obtain ⟨v', hv', hsm⟩ := paired_get hp hu
          rw [hv] at hv'
          cases hv'
          have e3 := e2.trans (Evl.Ex.new (o := .tup [u, v]) hT)
          refine ⟨T, _, rfl, SqT.of upd_same, rfl, _, _, rfl, _, _, rfl, rfl, rfl, ?_⟩
          refine ⟨_, rfl, _, rfl, u, v, rfl, Sm.ex (e1.trans e3) n u v hsm, fun H3 e4 => ?_⟩
          have g3 := e4 _ _ ((Evl.Ex.new (o := .tup [u, v]) hT) _ _ g2)
          refine ⟨_, g3, ?_, (e3.trans e4).mut hD, ?_⟩
          · rw [sizeLine_eq, List.length_map, List.length_replicate]
            omega
          · rw [upd_same, List.replicate_succ', List.map_append]
            rfl
        · rintro H' ⟨e2, g2⟩
          refine ⟨D, _, rfl, SqL.of g2, ?_⟩
          rw [List.all_replicate]
          have : (if xs.length = 0 then true else id true) = true := by split <;> rfl
          first | (rw [this]; exact k H' (e1.trans e2)) | (simp; exact k H' (e1.trans e2))
      · refine ⟨_, rfl, by show 2 ≤ sizeLine; decide, fun t ht => ?_⟩
        have e1 := Evl.Ex.new (o := .tup [V.ty "list", V.ty "tuple"]) ht
        have pa : Pl (upd H t (.tup [V.ty "list", V.ty "tuple"])) (.ref a) "dict" := .dic (e1 _ _ ha)
        have pb : Pl (upd H t (.tup [V.ty "list", V.ty "tuple"])) (.ref b) "dict" := .dic (e1 _ _ hb)
        refine ⟨_, _, _, _, _, _, rfl, upd_same, cls_tys ["list", "tuple"], pb.ty, pb.any ["list", "tuple"] (by decide), _, rfl, iteF ?_⟩
        refine ⟨_, rfl, _, _, _, _, _, rfl, .ty _, pb.ty, pb.one "dict", _, rfl, iteT ?_⟩
        refine ⟨_, rfl, _, _, _, _, _, rfl, .ty _, pa.ty, pa.one "dict", _, rfl, iteT ?_⟩
        refine Or.inl ⟨_, rfl, a, ks, rfl, e1 _ _ ha, fun H2 p ts e2 hp1 hp2 hp3 g2 hpr => ?_⟩
        refine Or.inl ⟨_, rfl, b, ks, rfl, e2 _ _ (e1 _ _ hb), fun H3 q us e3 hq1 hq2 hq3 g3 hqr => ?_⟩
        obtain ⟨m, rfl⟩ : ∃ m, n = m + 3 := ⟨n - 3, by omega⟩
        exact ⟨_, _, rfl, .inr (.inl ⟨p, q, ts.map V.ref, us.map V.ref, rfl, rfl, e3 _ _ g2, g3, by rw [List.length_map, Paired.length hpr]; exact hkl, items_sm e3 (fun p hp => (hfl p hp).imp id fun z => ⟨by omega, z.2.ex (e1.trans ((show Evl.Ex _ H2 from e2).trans (show Evl.Ex H2 H3 from e3)))⟩) hpr hqr⟩), fun H4 e4 => k H4 (e1.trans ((show Evl.Ex _ H2 from e2).trans ((show Evl.Ex H2 H3 from e3).trans e4)))⟩
      · refine ⟨_, rfl, by show 2 ≤ sizeLine; decide, fun t ht => ?_⟩
        have e1 := Evl.Ex.new (o := .tup [V.ty "list", V.ty "tuple"]) ht
        have pa : Pl (upd H t (.tup [V.ty "list", V.ty "tuple"])) (.ref a) "dict" := .dct (e1 _ _ ha)
        have pb : Pl (upd H t (.tup [V.ty "list", V.ty "tuple"])) (.ref b) "dict" := .dct (e1 _ _ hb)
        refine ⟨_, _, _, _, _, _, rfl, upd_same, cls_tys ["list", "tuple"], pb.ty, pb.any ["list", "tuple"] (by decide), _, rfl, iteF ?_⟩
        refine ⟨_, rfl, _, _, _, _, _, rfl, .ty _, pb.ty, pb.one "dict", _, rfl, iteT ?_⟩
        refine ⟨_, rfl, _, _, _, _, _, rfl, .ty _, pa.ty, pa.one "dict", _, rfl, iteT ?_⟩
        refine Or.inr ⟨_, rfl, a, ks, rfl, e1 _ _ ha, fun H2 p ts e2 hp1 hp2 hp3 g2 hpr => ?_⟩
        refine Or.inr ⟨_, rfl, b, ks, rfl, e2 _ _ (e1 _ _ hb), fun H3 q us e3 hq1 hq2 hq3 g3 hqr => ?_⟩
        obtain ⟨m, rfl⟩ : ∃ m, n = m + 4 := ⟨n - 4, by omega⟩
        exact ⟨_, _, rfl, .inr (.inl ⟨p, q, ts.map V.ref, us.map V.ref, rfl, rfl, e3 _ _ g2, g3, by rw [List.length_map, Paired.length hpr]; exact hkl, itemsT_sm e3 hfl hk1 hpr hqr⟩), fun H4 e4 => k H4 (e1.trans ((show Evl.Ex _ H2 from e2).trans ((show Evl.Ex H2 H3 from e3).trans e4)))⟩
end
end K07

namespace K07
open PySem PySem.Spec PyProof.Rows L2 Tr Sq Dk Exs
/-! ### ask_house, beside; _law_odd_name -/
abbrev sAskH : Stmt := top 27
def spAskH (C CN : Addr) : Sp := fun vs H Q E => ∃ (v : Addr) (x : V) (n : String) (hs : List Str) (ps : Prs) (m : VilD), vs = [.ref v, x] ∧ Vil H C v hs ps m ∧ Pl H x n ∧
  (isHouse hs x = true → Q .non H) ∧ (isHouse hs x = false → ∀ d, H d = none → E (.ref CN) (some d) (upd H d (.xd [("thing", x)])))
def spBeside (C CN : Addr) : Sp := fun vs H Q E => ∃ (v : Addr) (x : V) (n : String) (hs : List Str) (ps : Prs) (m : VilD), vs = [.ref v, x] ∧ Vil H C v hs ps m ∧ Pl H x n ∧
  (∀ z, x = .str z → z ∈ hs → ∀ p, H p = none → Q (.ref p) (upd H p (.lst ((nearL ps z).map V.str)))) ∧ (isHouse hs x = false → ∀ d, H d = none → E (.ref CN) (some d) (upd H d (.xd [("thing", x)])))
section
variable {P : Program} {w : World} {K : PySem.W.Frag} {mg : Str → Option Value} {base : Heap}
theorem scAskH : FnScope ["village", "thing"] ["village", "thing"] (defScope sAskH) := ⟨rfl, rfl, rfl, by decide +kernel, rfl, by decide +kernel, by decide +kernel⟩
theorem ok_askH {C CN f f1 fH : Addr} {fd fdH : FuncData} (F : FnP K "ask_house" sAskH f fd) (T1 : Err P w K mg base "NoHouse" "thing" CN f1) (GH : FnOk P w K mg base CX0 2 fH fdH ["village", "thing"] (spIsHouse C)) (bH : L2.Binds K fdH ["village", "thing"] []) (kH : PySem.W.keepIn K (.ref fH) = true) (gH : mg "is_house" = some (.ref fH)) :
    FnOk P w K mg base (L2.CX P w) 3 f fd ["village", "thing"] (spAskH C CN) := by
  refine F.ok scAskH (fun vs H Q E h => ?_) (fun cdv A outer s H vs Q E hr h => ?_)
  · obtain ⟨v, x, n, hs, ps, m, rfl, _⟩ := h
    rfl
  · obtain ⟨v, x, n, hs, ps, m, rfl, Vh, hx, k1, k2⟩ := h
    refine ⟨_, pss_one (ps_if (pt_not (pt_val (pe_call GH hr rfl gH kH bH .nil pass0 (pa_cons (pv 0) (pa_cons (pv 1) pa_nil))))) (pss_one (ps_raise1 rfl T1 (hr.mono (by decide)) (takes_of rfl rfl rfl rfl) rfl (pv 1))) pss_nil), ?_⟩
    refine ⟨_, rfl, _, rfl, v, x, n, hs, ps, m, rfl, Vh, hx, _, rfl, ?_⟩
    cases hi : isHouse hs x with
    | true => exact iteF (k1 hi)
    | false => exact iteT ⟨_, rfl, raiseP fun d hd => k2 hi d hd⟩
end
end K07

namespace K07
open PySem PySem.Spec PyProof.Rows L2 Tr Sq Dk Dt Exs
/-! ### a list of pairs as data -/
theorem dp_prs {K : PySem.W.Frag} {H : Hp} : ∀ {qs : PrL}, PrsAt H qs → DpAll K H (refsL qs) ((qs.map (·.2)).map Dt.pdPair)
  | [], _ => .nil
  | q :: r, h => .cons (.tup (SqT.of (h q List.mem_cons_self)) (.cons (.str _) (.cons (.str _) .nil))) (dp_prs fun t ht => h t (List.mem_cons_of_mem _ ht))
theorem shaped_prs (l : Prs) (h : ∀ q ∈ l, PyData.strOk q.1 = true ∧ PyData.strOk q.2 = true) : SeqAt.shaped (.list (l.map Dt.pdPair)) = true := by
  have a : ∀ l : Prs, (∀ q ∈ l, PyData.strOk q.1 = true ∧ PyData.strOk q.2 = true) → PyData.canLayAll0 (l.map Dt.pdPair) = true := by
    intro l
    induction l with
    | nil => exact fun _ => by simp [PyData.canLayAll0]
    | cons q r ih =>
      intro h
      obtain ⟨h1, h2⟩ := h q List.mem_cons_self
      simp [PyData.canLayAll0, PyData.canLay0, Dt.pdPair, h1, h2, ih fun z hz => h z (List.mem_cons_of_mem _ hz)]
  unfold SeqAt.shaped
  simp only [PyData.canLay0, a l h, PyData.depth, Bool.true_and]
  have := Dt.depth_pairs l
  exact decide_eq_true (by omega)
theorem eqv_prs_nil (l : Prs) : PyData.eqv (.list (l.map Dt.pdPair)) (.list []) = l.isEmpty := by
  cases l with
  | nil => simp [PyData.eqv, PyData.eqvAll]
  | cons q r => simp [PyData.eqv, PyData.eqvAll]
end K07

/-! == and != by an own __eq__ with either answer; C(..) that may raise at the slots. Law-independent. -/
namespace Oeq
open PySem PySem.W PySem.Spec PySem.Calls PyProof.Rows L2
section
variable {prog : Program} {w : World} {A : Around} {E : Value → Shared → Prop} {s : Shared} {K : Frag} {x C L f : Addr} {h₀ : Heap} {m : Str → Option Value} {ox : Obj} {od : Option Obj} {name : Str} {b tb : Value}
theorem ifBound_B {M : Model} {args : List Value} {Q : Option Value → Shared → Prop} {id : String} (X : K.In s.heap) (I : InstAt s.heap x ox C od) (hs : findIn K (.ref C) name = some (some (.builtin id))) (hb : ∀ self, bindSpecial (.builtin id) self = pure (.builtin id, [self]))
    (h : wpAny M A (call (.builtin id) (.ref x :: args)) (fun v => Q (some v)) E s) : wpAny M A (callSpecialIfBound? (.ref x) name args) Q E s := by
  simp only [callSpecialIfBound?, bindSpecialIfBound?]
  refine wpAny_holding (wpAny_bind (wpAny_bind (wpAny_bind (I.type.here ((looks_findIn X hs).here ?_)))))
  refine wpAny_bind (wpAny_askSetting (wpAny_ite ?_))
  have fin : wpAny M A (call (.builtin id) ([.ref x] ++ args) >>= fun v => pure (some v)) Q E s := wpAny_bind (wpAny_mono h (fun v s' h' => wpAny_pure h') fun _ _ h' => h')
  split
  · refine wpAny_bind ?_
    rw [hb]
    exact wpAny_pure (wpAny_pure (by exact fin))
  · refine wpAny_tryCatch (wpAny_bind ?_)
    rw [hb]
    exact wpAny_pure (wpAny_pure (by exact fin))
theorem ne_check {M : Model} {rest : List Value} {Q : Unit → Shared → Prop} (X : K.In s.heap) (I : InstAt s.heap x ox C od) (hm : mroIn K C (.type "object") = some true) (ha : argsOk "object.__ne__" ⟨.ref x :: rest, []⟩) (hq : Q () s) : wpAny M A (checkBuiltinCall "object.__ne__" ⟨.ref x :: rest, []⟩) Q E s := by
  simp only [checkBuiltinCall, F.cmpKind_ne, F.cmpSplit_ne]
  refine wpAny_bind ?_
  refine wpAny_bind ?_
  refine I.type.here ((looks_mroIn X hm).here ?_)
  cases hsig : Manifest.signature? "object.__ne__" with
  | none => exact wpAny_pure hq
  | some sig =>
    simp only [argsOk, hsig] at ha
    have h2 : Bind.checkArgs "object.__ne__" sig ⟨.ref x :: rest, []⟩ = pure () := ha
    simp only [Bool.not_true, Bool.false_eq_true, if_false]
    show wpAny M A (Bind.checkArgs "object.__ne__" sig ⟨.ref x :: rest, []⟩) Q E _
    rw [h2]
    exact wpAny_pure hq
theorem ne_K {Q : Value → Shared → Prop} (hu : A.units + 1 < cLine) (F₀ : Fr h₀ L s.heap m) (X₀ : K.In h₀) (I : InstAt s.heap x ox C od) (hb : Looks (model prog w) s.heap (typeOf b) tb) (hn : notFirst K C tb = true)
    (hne : findIn K (.ref C) "__ne__" = some (some (.builtin "object.__ne__"))) (hs : findIn K (.ref C) "__eq__" = some (some (.ref f))) (hf : isFn K (.ref f) = true) (hm : mroIn K C (.type "object") = some true)
    (h : wpAny (model prog w) A.in1 (call (.ref f) [.ref x, b]) (fun v s' => ∃ r, v = .bool r ∧ Q (.bool (!r)) s') E s) : wpAny (model prog w) A (richCompare .NotEq (.ref x) b) Q E s := by
  have X := X₀.keeps F₀.keep
  have one : wpAny (model prog w) A (tryCompare (.ref x) (cmpInfo .NotEq).2.1 b) (fun r s' => ∃ v, r = some v ∧ Q v s') E s := by
    unfold tryCompare
    refine wpAny_bind (ifBound_B X I hne F.cmp_object.ne.bind (wpAny_call (codeAny_call_builtin F.cmp_object.ne.plain F.cmpEntry_ne (ne_check X I hm (F.cmpArgs_ne _ _) ?_))))
    have hu2 : A.in1.units < cLine := hu
    unfold Builtin.«object.__ne__»
    repeat (first
      | with_reducible refine wpAny_cRoomFor hu2 ?_
      | (refine wpAny_bind (m := callSpecialIfBound? (.ref x) (Str.ofString "__eq__") [b])
          (ifBound_K X I hs hf (wpAny_mono h (fun r s' hr => by
            obtain ⟨b, rfl, hq⟩ := hr
            repeat (first | exact ⟨_, rfl, hq⟩ | exact wpAny_pure ⟨_, rfl, hq⟩ | exact wpAny_truthy_bool ⟨_, rfl, hq⟩ | (refine wpAny_bind (m := truthy (.bool _)) (wpAny_truthy_bool ?_)) | wp_step)) fun _ _ e => e)))
      | wp_step)
  unfold richCompare
  simp only [oneThing_ref]
  refine wpAny_holding (wpAny_bind (wpAny_cRoomFor (Nat.lt_of_succ_lt hu) ?_))
  refine wpAny_bind (I.type.here (wpAny_bind (hb.here ?_)))
  split
  · rename_i q
    have e : subIn K tb (.ref C) = some false := by
      rcases Bool.or_eq_true_iff.mp hn with e | e
      · rw [beq_iff_eq.mp e] at q; simp at q
      · exact beq_iff_eq.mp e
    refine wpAny_bind ((looks_subIn X e).here ?_)
    simp only [Bool.false_eq_true, if_false]
    refine wpAny_bind (wpAny_mono one (fun r s' z => ?_) fun _ _ e => e)
    obtain ⟨v, rfl, hq⟩ := z
    exact wpAny_pure hq
  · refine wpAny_bind (wpAny_pure ?_)
    simp only [Bool.false_eq_true, if_false]
    refine wpAny_bind (wpAny_mono one (fun r s' z => ?_) fun _ _ e => e)
    obtain ⟨v, rfl, hq⟩ := z
    exact wpAny_pure hq
end
/-- x == y, x != y, where x is of the class C with its own == -/
def rOwn (K : Frag) (C : Addr) (sp : Sp) (E : XK) (neg : Bool) : R2 := fun x y H Q => ∃ (a dx : Addr) (fs : List (Str × V)) (t : Value), x = .ref a ∧ H a = some (.ins C dx fs) ∧ TyX K H y t ∧ notFirst K C t = true ∧ sp [x, y] H (fun v H' => ∃ b, v = .bl b ∧ Q (.bl (b != neg)) H') E
section
variable {X : Cx} {CX : CXT} {n : Nat} {C f : Addr} {fd : FuncData} {ps : List Str} {sp : Sp} {E : XK}
theorem op_own (F₁ : FnOk X.prog X.w X.K X.mg X.base CX n f fd ps sp) (hs : findIn X.K (.ref C) "__eq__" = some (some (.ref f))) (hf : isFn X.K (.ref f) = true) (hb : L2.Binds X.K fd ps []) (hx : Passes CX X E) (hr : Room n X.A) : OpR X (compareOp .Eq) (rOwn X.K C sp E false) := by
  intro pins s σ H x y v u Q I rx ry hq
  obtain ⟨a, dx, fs, t, rfl, ha, ty, hn, hq⟩ := hq
  cases rx
  obtain ⟨mA, J, _⟩ := ins_get I.hok ha
  obtain ⟨od, J, _⟩ := J.look
  obtain ⟨P, Z, p, _⟩ := kit_of I ry ty
  obtain ⟨m, hF⟩ := I.fr
  show wpAny (model X.prog X.w) X.A (richCompare .Eq (.ref a) u) (EP X pins σ Q) X.xe s
  refine cmp_K (op := .Eq) (tb := t) hr.units0 hF I.ok.mod.kin J (Z.ty _ _ I.kIn p) hn hs hf ?_
  have hl := F₁.len _ _ _ _ hq
  refine wpAny_call (codeAny_mono (F₁.run X.A X.stack s H ⟨[.ref a, u], []⟩ [.ref a, u] [.ref a, y] _ E hr I.env0 (by
    have := hb s [.ref a, u] I.kIn (by simpa using hl)
    simpa using this) (.cons rfl (.cons ry .nil)) hq) fun r s' hq => ?_)
  cases r with
  | error e => exact hx pins σ H s e s' I hq
  | ok fl =>
    cases fl with
    | ret w =>
      obtain ⟨z, H', I', rz, b, ez, q⟩ := I.after hq
      subst ez
      cases rz
      rw [show (b != false) = b by cases b <;> rfl] at q
      exact ⟨.bl b, H', I', rfl, q⟩
    | next => exact False.elim hq
    | brk => exact False.elim hq
    | cont => exact False.elim hq
theorem op_ownNe (F₁ : FnOk X.prog X.w X.K X.mg X.base CX n f fd ps sp) (hne : findIn X.K (.ref C) "__ne__" = some (some (.builtin "object.__ne__"))) (hm : mroIn X.K C (.type "object") = some true) (hs : findIn X.K (.ref C) "__eq__" = some (some (.ref f))) (hf : isFn X.K (.ref f) = true) (hb : L2.Binds X.K fd ps []) (hx : Passes CX X E) (hr : Room (n + 1) X.A) : OpR X (compareOp .NotEq) (rOwn X.K C sp E true) := by
  intro pins s σ H x y v u Q I rx ry hq
  obtain ⟨a, dx, fs, t, rfl, ha, ty, hn, hq⟩ := hq
  cases rx
  obtain ⟨mA, J, _⟩ := ins_get I.hok ha
  obtain ⟨od, J, _⟩ := J.look
  obtain ⟨P, Z, p, _⟩ := kit_of I ry ty
  obtain ⟨m, hF⟩ := I.fr
  show wpAny (model X.prog X.w) X.A (richCompare .NotEq (.ref a) u) (EP X pins σ Q) X.xe s
  refine ne_K (tb := t) hr.in1.units0 hF I.ok.mod.kin J (Z.ty _ _ I.kIn p) hn hne hs hf hm ?_
  have hl := F₁.len _ _ _ _ hq
  have e0 : Env0 X.prog X.w X.K X.mg X.base X.A.in1 X.stack s H := by
    have e := I.env0
    exact ⟨e.frames, e.mod, e.bs, e.bsz, e.funs, e.frf, e.hok, e.bare⟩
  refine wpAny_call (codeAny_mono (F₁.run X.A.in1 X.stack s H ⟨[.ref a, u], []⟩ [.ref a, u] [.ref a, y] _ E hr.in1 e0 (by
    have := hb s [.ref a, u] I.kIn (by simpa using hl)
    simpa using this) (.cons rfl (.cons ry .nil)) hq) fun r s' hq => ?_)
  cases r with
  | error e => exact hx pins σ H s e s' I hq
  | ok fl =>
    cases fl with
    | ret w =>
      obtain ⟨z, H', I', rz, b, ez, q⟩ := I.after hq
      subst ez
      cases rz
      rw [show (b != true) = !b by cases b <;> rfl] at q
      exact ⟨b, rfl, .bl (!b), H', I', rfl, q⟩
    | next => exact False.elim hq
    | brk => exact False.elim hq
    | cont => exact False.elim hq
end
/-- C(..): what it may let out, at the slots -/
def tMakeS (C : Addr) (sp : Sp) (E : L2.St → XK) (t : TA) : TE := fun σ H Q => t σ H fun vs H1 => ∀ x dx, H1 x = none → H1 dx = none → dx ≠ x →
  sp (.ref x :: vs) (upd (upd H1 dx (.own x)) x (.ins C dx [])) (fun v H2 => v = .non ∧ Q (.ref x) H2) (E σ)
section
variable {X : Cx} {CX : CXT} {k : Nat} {f C : Addr} {fd : FuncData} {ps : List Str} {sp : Sp} {E : L2.St → XK} {x : Str} {p pos : Pos} {e : Expr} {es : List Expr} {t : TA}
theorem run_makeS {pins : List (Addr × Obj)} {σ : L2.St} {H : Hp} {s : Shared} {Q : VK} {us : List Value} {vs : List V} (M : Mk X.K C f) (F : FnOk X.prog X.w X.K X.mg X.base CX k f fd ps sp) (hr : Room (k + 1) X.A) (hb : L2.Binds X.K fd ps [])
    (hx : PassesAt CX X σ (E σ)) (I : Inv X pins σ H s) (r : Vals vs us)
    (h : ∀ x dx, H x = none → H dx = none → dx ≠ x → sp (.ref x :: vs) (upd (upd H dx (.own x)) x (.ins C dx [])) (fun v H2 => v = .non ∧ Q (.ref x) H2) (E σ)) :
    wpAny (model X.prog X.w) X.A (call (.ref C) us) (EP X pins σ Q) X.xe s := by
  have hq := h (s.heap.objs.size + 1) s.heap.objs.size (I.hok.fresh (Nat.le_succ _)) (I.hok.fresh (Nat.le_refl _)) (Nat.ne_of_lt (Nat.lt_succ_self _))
  have I2 := Inv.made (C := C) I
  have r2 : Vals (V.ref (s.heap.objs.size + 1) :: vs) (Value.ref (s.heap.objs.size + 1) :: us) := .cons rfl r
  have hl : (Value.ref (s.heap.objs.size + 1) :: us).length = ps.length := by
    have e := r2.length
    rw [F.len _ _ _ _ hq] at e
    exact e.symm
  have b := hb _ (Value.ref (s.heap.objs.size + 1) :: us) I2.kIn (by rw [List.append_nil]; exact hl)
  rw [List.append_nil] at b
  refine wpAny_call (make_map (f := f) I.kIn M.makes M.init (beq_iff_eq.mp M.fn) (codeAny_mono (F.run _ X.stack _ _ ⟨Value.ref (s.heap.objs.size + 1) :: us, []⟩ (Value.ref (s.heap.objs.size + 1) :: us) _ _ (E σ) (hr.make C us [])
    (I2.env0.make C us []) b r2 hq) fun r s' hq' => ?_))
  cases r with
  | error e => exact hx pins _ _ e s' I2 hq'
  | ok fl =>
    cases fl with
    | ret u =>
      obtain ⟨v, H', I3, rv, ev, q3⟩ := I2.after hq'
      subst ev
      exact ⟨rv, ⟨V.ref (s.heap.objs.size + 1), H', I3, rfl, q3⟩⟩
    | next => exact False.elim hq'
    | brk => exact False.elim hq'
    | cont => exact False.elim hq'
theorem pe_makeS (M : Mk X.K C f) (F : FnOk X.prog X.w X.K X.mg X.base CX k f fd ps sp) (hr : Room (k + 1) X.A) (hg : Gl X x) (hm : X.mg x = some (.ref C)) (hb : L2.Binds X.K fd ps []) (hx : ∀ σ, PassesAt CX X σ (E σ))
    (ha : PA X (e :: es) t) (hdb : (x == ("__debug__" : Str)) = false := by decide) (he : starEach (e :: es) X.env = (false, eval e X.env) :: starEach es X.env := by rfl) (hpl : (backTo pos (starEach es X.env)).any (·.1) = false := by rfl) :
    PE X (.Call (.Name x p) (e :: es) [] pos) (tMakeS C sp E t) := by
  refine ⟨fun pins s σ H Q I h => ?_⟩
  refine wpAny_Call_Name_kw (ld_glob I hg hm ?_ hdb)
  refine PySem.W.callWith_K (h₀ := X.base) I.ok.mod.kin M.kp (thn (ha.run pos pins s σ H _ I h) fun us s1 ⟨vs, H1, I1, r, q⟩ => ⟨I1.kIn, ?_⟩) he hpl
  exact run_makeS M F hr hb (hx σ) I1 r q
end
end Oeq

namespace K07
open PySem PySem.Spec PyProof.Rows L2 Tr Sq Dk
/-! ### a village made of a list or a tuple of houses and of paths -/
abbrev LpL := List (Addr × Str × Str)
def LpsAt (H : Hp) (rs : LpL) : Prop := ∀ r ∈ rs, ∃ t, Lt H t r.1 [V.str r.2.1, V.str r.2.2]
theorem LpsAt.ex {H H' : Hp} {rs : LpL} (h : LpsAt H rs) (e : Evl.Ex H H') : LpsAt H' rs := fun r hr => (h r hr).imp fun _ z => z.ex e
theorem lt_ins {H : Hp} {t : Bool} {v C dx : Addr} {xs : List V} (h : Lt H t v xs) (hv : H v = some (.ins C dx [])) : False := by
  unfold Lt at h
  rw [hv] at h
  cases t <;> cases h
def spCheckL : Sp := fun vs H Q _ => ∃ (t : Bool) (l : Addr) (hs : List Str), vs = [.ref l] ∧ Lt H t l (hs.map V.str) ∧ hs ≠ [] ∧ hs.Nodup ∧ hs.length ≤ 1000 ∧ (∀ h ∈ hs, h ∈ names12) ∧ ∀ H', Evl.Ex H H' → Q .non H'
def spIsPairL : Sp := fun vs H Q _ => ∃ (b : Bool) (t : Addr) (x y : V), vs = [.ref t] ∧ Lt H b t [x, y] ∧ ∀ H', Evl.Ex H H' → Q (.bl true) H'
def spPathsCL : Sp := fun vs H Q _ => ∃ (tq : Bool) (l q : Addr) (hs hs0 : List Str) (qs : LpL), vs = [.ref l, .ref q] ∧ H l = some (.lst (hs.map V.str)) ∧ Lt H tq q (qs.map fun r => V.ref r.1) ∧ LpsAt H qs ∧ Tree hs (qs.map (·.2)) ∧ hs ≠ [] ∧ hs.length ≤ 1000 ∧ qs.length ≤ 1000 ∧ hs0 = hs ∧
  ∀ (r : Addr) (zs : PrL) (H' : Hp), H r = none → Evl.Ex H H' → H' r = some (.lst (refsL zs)) → PrsAt H' zs → (zs.map (·.2)).Perm ((qs.map (·.2)).map ordP) → (zs.map (·.2)).Pairwise (fun x y => Srs.lexT y x = false) → (∀ t ∈ zs, H t.1 = none) → Q (.ref r) H'
def spInitL (K : PySem.W.Frag) : Sp := fun vs H Q _ => ∃ (tl tq : Bool) (v l q C dx : Addr) (hs : List Str) (qs : LpL), vs = [.ref v, .ref l, .ref q] ∧ H v = some (.ins C dx []) ∧ Cls K C ∧ NoAttr K C "_houses" ∧ NoAttr K C "_paths" ∧ NoAttr K C "_near" ∧ Lt H tl l (hs.map V.str) ∧ Lt H tq q (qs.map fun r => V.ref r.1) ∧ LpsAt H qs ∧ Tree hs (qs.map (·.2)) ∧
  hs ≠ [] ∧ hs.length ≤ 12 ∧ qs.length ≤ 12 ∧ (∀ h ∈ hs, h ∈ names12) ∧
  ∀ (H' : Hp) (hs' : List Str) (ps' : Prs) (m : VilD), (∀ b o, b ≠ v → H b = some o → H' b = some o) → Vil H' C v hs' ps' m → hs'.Perm hs → sortedS hs' = true → ps'.Perm ((qs.map (·.2)).map ordP) → ps'.Pairwise (fun x y => Srs.lexT y x = false) → Tree hs' ps' → FreshV H hs' m → Q .non H'
section
variable {P : Program} {w : World} {K : PySem.W.Frag} {mg : Str → Option Value} {base : Heap}
theorem ok_checkL {f fN fL : Addr} {fd fdN fdL : FuncData} (F : FnP K "check_houses" sCheck f fd) (GN : FnOk P w K mg base CX0 1 fN fdN ["thing"] spIsName) (bN : L2.Binds K fdN ["thing"] []) (kN : PySem.W.keepIn K (.ref fN) = true) (gN : mg "is_name" = some (.ref fN))
    (GL : FnOk P w K mg base CX0 1 fL fdL ["thing"] spIsLst) (bL : L2.Binds K fdL ["thing"] []) (kL : PySem.W.keepIn K (.ref fL) = true) (gLs : mg "is_listed" = some (.ref fL)) (gLe : mg "len" = none) (gE : mg "enumerate" = none) : FnOk P w K mg base CX0 2 f fd ["houses"] spCheckL := by
  refine F.ok scCheck (fun vs H Q E h => ?_) (fun cdv A outer s H vs Q E hr h => ?_)
  · obtain ⟨t, l, hs, rfl, _⟩ := h
    rfl
  · obtain ⟨t, l, hs, rfl, hl, hne, hnd, h1k, hgood, k⟩ := h
    refine ⟨_, PSs.nox (pss_cons (ps_if (PW.pt (pw_or (pt_not (pt_val (pe_call GL hr rfl gLs kL bL .nil pass0 (pa_cons (pv 0) pa_nil)))) (pw_or1 (pt_cmpR op_eq (pe_callB call_len_seq (by rfl) gLe PySem.boot_len (pa_cons (pv 0) pa_nil)) pe_int (nomark _))))) pss_never pss_nil)
      (pss_cons (ps_set (i := 1) scCheck.nd rfl (.inl rfl) pe_dnewK)
      (pss_one (ps_for PassesOwn.never rfl (pi_enumA rfl gE (pa_cons (pv 0) pa_nil)) (pg_tup rfl (pgs_cons (pg_name (i := 2) scCheck.nd rfl (.inl rfl)) (pgs_cons (pg_name (i := 3) scCheck.nd rfl (.inl rfl)) pgs_nil)))
        (pss_cons (ps_if (PW.pt (pw_or (pt_not (pt_val (pe_call GN hr rfl gN kN bN .nil pass0 (pa_cons (pv 3) pa_nil)))) (pw_or1 (pt_cmp (pc_din (hu_of hr) (pv 3) (pv 1)) rfl)))) pss_never pss_nil)
        (pss_one (ps_dput (hu_of hr) (pv 1) (pv 3) pe_bl rfl))))))), ?_⟩
    have hl1 : 1 ≤ hs.length := List.length_pos_iff.mpr hne
    obtain ⟨nm, hpl, hlb⟩ := hl.pl
    refine ⟨_, rfl, _, nm, rfl, hpl, fun H1 x1 => ⟨_, rfl, ?_⟩⟩
    rw [hlb]
    refine ite2 (fun q => absurd q (by decide)) (fun _ => ?_)
    refine ⟨_, rfl, l, _, rfl, sqk_or (hl.ex x1).sq, rfl, _, rfl, ?_⟩
    refine ite2 (fun q => absurd q ?_) (fun _ => ?_)
    · simp [hne]
    · refine fun d hd => ⟨_, rfl, t, l, hs.map V.str, rfl, ?_, ?_⟩
      · exact (hl.ex (x1.trans (Evl.Ex.new hd))).sq
      · refine for_it (walk_enumA (t := t) (xs := hs.map V.str)) (fun i σ H' => ∃ v2 v3, σ = [some (.ref l), some (.ref d), v2, v3] ∧ Evl.Ex H H' ∧ H' d = some (.dK (tab (hs.take i) fun _ => .bl true))) ?_ ?_ ?_ ?_
        · exact ⟨none, none, rfl, x1.trans (Evl.Ex.new hd), upd_same⟩
        · rintro i σ H' _ ⟨v2, v3, rfl, x2, e2⟩
          exact (hl.ex x2).sq
        · rintro i y σ H' _ hi ⟨v2, v3, rfl, x2, e2⟩ ⟨T, u, z, rfl, hT, rfl, hu, hz⟩
          injection hu with hu
          subst hu
          rw [List.length_map] at hi
          obtain ⟨h, hh⟩ := getD_of hi
          have hz : (hs.map V.str)[i]? = some z := hz
          rw [List.getElem?_map, hh] at hz
          injection hz with hz
          subst hz
          have hm : h ∈ hs := List.mem_of_getElem? hh
          have hdT : d ≠ T := ne_of_none e2 hT
          refine ⟨T, _, rfl, SqT.of upd_same, rfl, _, _, rfl, _, _, rfl, rfl, _, rfl, h, rfl, hgood h hm, fun H3 x3 => ⟨_, rfl, ?_⟩⟩
          have e3 : H3 d = some (.dK (tab (hs.take i) fun _ => .bl true)) := x3 _ _ (by rw [upd_ne hdT]; exact e2)
          have hni : h ∉ hs.take i := fun z => by
            obtain ⟨j, hj⟩ := List.mem_iff_getElem?.mp z
            have lt : j < i := by
              have := (List.getElem?_eq_some_iff.mp hj).1
              rw [List.length_take] at this
              omega
            rw [List.getElem?_take_of_lt lt] at hj
            have := (List.getElem?_inj (by omega) hnd).mp (hj.trans hh.symm)
            omega
          refine ite2 (fun q => absurd q (by decide)) (fun _ => ⟨_, rfl, _, rfl, d, _, rfl, DGet.k (k := Sum.inr h) e3, _, rfl, ?_⟩)
          rw [val_out hni]
          refine iteF ?_
          refine ⟨_, rfl, _, rfl, d, _, rfl, DPut.k (k := Sum.inr h) e3 ?_, ?_⟩
          · rw [tab_length, List.length_take]
            exact Nat.lt_of_le_of_lt (show min i hs.length ≤ 1000 by omega) (by decide)
          · refine ⟨_, _, rfl, ?_, ?_⟩
            · exact ex_upd ((x2.trans (Evl.Ex.new hT)).trans x3) (by
                cases q : H d with
                | none => rfl
                | some o =>
                  rw [x1 _ _ q] at hd
                  cases hd)
            · rw [upd_same, put_new hni, List.take_add_one, hh]
              congr 2
              exact tab_congr fun x _ => by split <;> rfl
        · rintro σ H' ⟨v2, v3, rfl, x2, e2⟩
          exact k _ x2
theorem ok_isPairL {f fL : Addr} {fd fdL : FuncData} (F : FnP K "is_pair" sIsPair f fd) (GL : FnOk P w K mg base CX0 1 fL fdL ["thing"] spIsLst) (bL : L2.Binds K fdL ["thing"] []) (kL : PySem.W.keepIn K (.ref fL) = true) (gLs : mg "is_listed" = some (.ref fL)) (gLe : mg "len" = none) :
    FnOk P w K mg base CX0 2 f fd ["thing"] spIsPairL := by
  refine F.ok scIsPair (fun vs H Q E h => ?_) (fun cdv A outer s H vs Q E hr h => ?_)
  · obtain ⟨b, t, x, y, rfl, _⟩ := h
    rfl
  · obtain ⟨b, t, x, y, rfl, ht, k⟩ := h
    refine ⟨_, PSs.nox (pss_one (ps_ret (pe_and (pe_call GL hr rfl gLs kL bL .nil pass0 (pa_cons (pv 0) pa_nil)) (pe_one (pe_cmpR op_eq (pe_callB call_len_seq (by rfl) gLe PySem.boot_len (pa_cons (pv 0) pa_nil)) pe_int (nomark _)))))), ?_⟩
    obtain ⟨nm, hpl, hlb⟩ := ht.pl
    refine ⟨_, rfl, _, nm, rfl, hpl, fun H1 x1 => ⟨_, rfl, ?_⟩⟩
    rw [hlb]
    exact iteT ⟨_, rfl, t, _, rfl, sqk_or (ht.ex x1).sq, rfl, k _ x1⟩
theorem ok_pathsCL {f fL fP fJ fB : Addr} {fd fdL fdP fdJ fdB : FuncData} (F : FnP K "checked_paths" sPathsC f fd)
    (GL : FnOk P w K mg base CX0 1 fL fdL ["thing"] spIsLst) (bL : L2.Binds K fdL ["thing"] []) (kL : PySem.W.keepIn K (.ref fL) = true) (gLs : mg "is_listed" = some (.ref fL))
    (GP : FnOk P w K mg base CX0 2 fP fdP ["thing"] spIsPairL) (bP : L2.Binds K fdP ["thing"] []) (kP : PySem.W.keepIn K (.ref fP) = true) (gP : mg "is_pair" = some (.ref fP))
    (GJ : FnOk P w K mg base CX0 1 fJ fdJ ["group", "one", "other"] spJoined) (bJ : L2.Binds K fdJ ["group", "one", "other"] []) (kJ : PySem.W.keepIn K (.ref fJ) = true) (gJ : mg "joined_groups" = some (.ref fJ))
    (GB : FnOk P w K mg base CX0 1 fB fdB ["one", "other"] spBetween) (bB : L2.Binds K fdB ["one", "other"] []) (kB : PySem.W.keepIn K (.ref fB) = true) (gB : mg "path_between" = some (.ref fB))
    (gI : mg "isinstance" = none) (gT : mg "str" = none) (gE : mg "enumerate" = none) (gA : mg "all" = none) (gS : mg "sorted" = none) : FnOk P w K mg base CX0 3 f fd ["houses", "paths"] spPathsCL := by
  refine F.ok scPathsC (fun vs H Q E h => ?_) (fun cdv A outer s H vs Q E hr h => ?_)
  · obtain ⟨tq, l, q, hs, _, qs, rfl, _⟩ := h
    rfl
  · obtain ⟨tq, l, q, hs, _, qs, rfl, hl, hq, hP, T, hne, h1k, hq1k, _, k⟩ := h
    refine' ⟨_, PSs.nox (pss_cons (ps_if (pt_not (pt_val (pe_call GL (hr.mono (by decide)) rfl gLs kL bL .nil pass0 (pa_cons (pv 1) pa_nil)))) pss_never pss_nil)
      (pss_cons (ps_set (i := 2) scPathsC.nd rfl (.inr rfl) ?dc)
      (pss_cons (ps_set (i := 3) scPathsC.nd rfl (.inl rfl) (pe_lst pa_nil))
      (pss_cons (ps_for PassesOwn.never rfl (pi_enumA rfl gE (pa_cons (pv 1) pa_nil)) (pg_tup rfl (pgs_cons (pg_name (i := 4) scPathsC.nd rfl (.inl rfl)) (pgs_cons (pg_name (i := 5) scPathsC.nd rfl (.inl rfl)) pgs_nil)))
        (pss_cons (ps_if (PW.pt (pw_or (pt_not (pt_val (pe_call GP hr rfl gP kP bP .nil pass0 (pa_cons (pv 5) pa_nil)))) (pw_or1 (pt_not (pt_val (pe_callB (cr_all rfl) (by rfl) gA (by decide +kernel) (pa_cons ?lc pa_nil))))))) pss_never pss_nil)
        (pss_cons (ps_if (pt_cmpR op_eq (pe_dget (hu_of hr) (pv 2) (pe_ix ix_seq (pv 5) pe_int (fun _ _ => rfl)) (fun _ _ => rfl)) (pe_dget (hu_of hr) (pv 2) (pe_ix ix_seq (pv 5) pe_int (fun _ _ => rfl)) (fun _ _ => rfl)) (nomark _)) pss_never pss_nil)
        (pss_cons (ps_set (i := 2) scPathsC.nd rfl (.inr rfl) (pe_call GJ (hr.mono (by decide)) rfl gJ kJ bJ .nil pass0 (pa_cons (pv 2) (pa_cons (pe_dget (hu_of hr) (pv 2) (pe_ix ix_seq (pv 5) pe_int (fun _ _ => rfl)) (fun _ _ => rfl)) (pa_cons (pe_dget (hu_of hr) (pv 2) (pe_ix ix_seq (pv 5) pe_int (fun _ _ => rfl)) (fun _ _ => rfl)) pa_nil)))))
        (pss_one (ps_expr (pe_bm PySem.F.plainAttrs_list PySem.F.slot_list_append PySem.F.type_list_append mt_append (pv 3) (pa_cons (pe_call GB (hr.mono (by decide)) rfl gB kB bB .nil pass0 (pa_cons (pe_ix ix_seq (pv 5) pe_int (fun _ _ => rfl)) (pa_cons (pe_ix ix_seq (pv 5) pe_int (fun _ _ => rfl)) pa_nil))) pa_nil))))))))
      (pss_cons (ps_for PassesOwn.never rfl (pi_list (pv 0)) (pg_name (i := 6) scPathsC.nd rfl (.inl rfl))
        (pss_one (ps_if (pt_cmpR op_ne (pe_dget (hu_of hr) (pv 2) (pv 6) (fun _ _ => rfl)) (pe_dget (hu_of hr) (pv 2) (pe_ix ix_list (pv 0) pe_int (fun _ _ => rfl)) (fun _ _ => rfl)) (nomark _)) pss_never pss_nil)))
      (pss_one (ps_ret (pe_callB Srs.cr_sortedPT (by rfl) gS (by decide +kernel) (pa_cons (pv 3) pa_nil))))))))), ?rd⟩
    case dc =>
      exact pe_dc (own := [("house", 6)]) (g := gName 6) (tt := tYes) (tk := tVar 6) (tv := tVar 6) rfl scPathsC.nd (pi_list (pv 0))
        (blkOk_by (own := [("house", 6)]) (N := ["houses", "paths", "group", "told", "index", "pair", "house"]) (sc := defScope sPathsC) (by decide +kernel)) (fun _ _ _ _ _ => pg_name (i := 6) scPathsC.nd rfl (.inl rfl)) (fun _ _ _ _ _ => pts_nil) (fun _ _ _ _ _ => pv 6) (fun _ _ _ _ _ => pv 6)
    case lc =>
      refine pe_lc (own := [("house", 6)]) (g := gName 6) (tt := tYes) (te := tAndV (tCB (rIsi K) (tCons (tVar 6) (tCons (tC (.ty "str")) tNil))) (tDIn (tVar 6) (tVar 2))) rfl scPathsC.nd (pi_sq (pv 5))
        (blkOk_by (own := [("house", 6)]) (N := ["houses", "paths", "group", "told", "index", "pair", "house"]) (sc := defScope sPathsC) (by decide +kernel)) (fun _ _ _ _ _ => pg_name (i := 6) scPathsC.nd rfl (.inl rfl)) (fun _ _ _ _ _ => pts_nil) ?_
      intro _ _ _ _ _
      exact pe_and (pe_callB call_isi (by rfl) gI (by decide +kernel) (pa_cons (pv 6) (pa_cons (pe_bltn (v := .ty "str") rfl gT (by decide +kernel) rfl) pa_nil))) (pe_one (pe_cmp (pc_din (hu_of hr) (pv 6) (pv 2)) rfl))
    obtain ⟨I, I0, I1, I2⟩ := T.groups
    have hnd := T.nd
    obtain ⟨nmq, hplq, hlbq⟩ := hq.pl
    refine ⟨_, rfl, _, nmq, rfl, hplq, fun H1 x1 => ⟨_, rfl, ?_⟩⟩
    rw [hlbq]
    refine ite2 (fun q => absurd q (by decide)) (fun _ => ?_)
    refine ⟨_, rfl, l, rfl, ⟨_, SqL.of (x1 _ _ hl)⟩, fun D hD => ?_⟩
    refine dc_it (walk_list (xs := hs.map V.str)) (fun i H' => Evl.Ex H H' ∧ H' D = some (.dK (tab (hs.take i) fun x => .str x))) ?_ ?_ ?_ ?_
    · exact ⟨x1.trans (Evl.Ex.new hD), upd_same⟩
    · intro i H' _ hp
      exact SqL.of (hp.1 _ _ hl)
    · rintro i y H2 H3 hi ⟨e1, e2⟩ ⟨rfl, hy⟩
      rw [List.length_map] at hi
      obtain ⟨h, hh⟩ := getD_of hi
      rw [List.getElem?_map, hh] at hy
      cases hy
      have hni : h ∉ hs.take i := fun z => by
        obtain ⟨j, hj⟩ := List.mem_iff_getElem?.mp z
        have lt : j < i := by
          have := (List.getElem?_eq_some_iff.mp hj).1
          rw [List.length_take] at this
          omega
        rw [List.getElem?_take_of_lt lt] at hj
        have := (List.getElem?_inj (by omega) hnd).mp (hj.trans hh.symm)
        omega
      refine ⟨rfl, _, rfl, _, rfl, _, Sum.inr h, rfl, e2, ?_, ex_upd e1 ?_, ?_⟩
      · rw [tab_length, List.length_take]
        exact Nat.lt_of_le_of_lt (show min i hs.length ≤ 1000 by omega) (by decide)
      · cases q0 : H D with
        | none => rfl
        | some o => rw [x1 _ _ q0] at hD; cases hD
      · rw [upd_same, put_new hni, List.take_add_one, hh]
        congr 2
        exact tab_congr fun x _ => by split <;> simp_all
    · rintro H2 ⟨x2, e2⟩
      rw [List.length_map, List.take_length] at e2
      refine ⟨by show 0 ≤ sizeLine; decide, fun fo hfo => ?_⟩
      have hfoH : H fo = none := by
        cases q0 : H fo with
        | none => rfl
        | some o => rw [x2 _ _ q0] at hfo; cases hfo
      have hDf : D ≠ fo := ne_of_none e2 hfo
      refine ⟨_, rfl, tq, q, qs.map fun r => V.ref r.1, rfl, (hq.ex (x2.trans (Evl.Ex.new hfo))).sq, ?_⟩
      refine for_it (walk_enumA (t := tq) (xs := qs.map fun r => V.ref r.1)) (fun i σ H' => ∃ G g v4 v5 v6 zs, σ = [some (.ref l), some (.ref q), some (.ref G), some (.ref fo), v4, v5, v6] ∧ Evl.Ex H H' ∧ H' G = some (.dK (tab hs fun x => .str (g x))) ∧ I ((qs.map (·.2)).take i) g ∧
        H' fo = some (.lst (refsL zs)) ∧ PrsAt H' zs ∧ zs.map (·.2) = ((qs.map (·.2)).take i).map ordP ∧ ∀ t ∈ zs, H t.1 = none) ?_ ?_ ?_ ?_
      · exact ⟨D, id, none, none, none, [], rfl, x2.trans (Evl.Ex.new hfo), by rw [upd_ne hDf]; exact e2, I0 _ (fun x _ y _ e => e), upd_same, fun t ht => absurd ht (by simp), rfl, fun t ht => absurd ht (by simp)⟩
      · rintro i σ H' _ ⟨G, g, v4, v5, v6, zs, rfl, f1, _⟩
        exact (hq.ex f1).sq
      · rintro i y σ H3 H4 hi ⟨G, g, v4, v5, v6, zs, rfl, f1, f2, f3, f4, f5, f6, f7⟩ ⟨TT, u, z, rfl, hTT, rfl, hu, hz⟩
        injection hu with hu
        subst hu
        have hz : (qs.map fun r => V.ref r.1)[i]? = some z := hz
        rw [List.length_map] at hi
        obtain ⟨t, ht⟩ := getD_of hi
        rw [List.getElem?_map, ht] at hz
        cases hz
        have tm := List.mem_of_getElem? ht
        obtain ⟨Ta, a, b⟩ := t
        have hab : (a, b) ∈ qs.map (·.2) := List.mem_map.mpr ⟨_, tm, rfl⟩
        obtain ⟨m1, m2⟩ := T.mem (.inl hab)
        have tk : (qs.map (·.2)).take (i + 1) = (qs.map (·.2)).take i ++ [(a, b)] := by rw [List.take_add_one, List.getElem?_map, ht]; rfl
        have hnt : (a, b) ∉ (qs.map (·.2)).take i := fun z => by
          obtain ⟨j, hj⟩ := List.mem_iff_getElem?.mp z
          have lt : j < i := by
            have := (List.getElem?_eq_some_iff.mp hj).1
            rw [List.length_take] at this
            omega
          rw [List.getElem?_take_of_lt lt] at hj
          have e9 : (qs.map (·.2))[i]? = some (a, b) := by rw [List.getElem?_map, ht]; rfl
          have := (List.getElem?_inj (by rw [List.length_map]; omega) T.np).mp (hj.trans e9.symm)
          omega
        obtain ⟨gne, gnext⟩ := I1 _ g a b f3 hab (fun q hq => List.mem_of_mem_take hq) hnt
        refine ⟨TT, _, rfl, SqT.of upd_same, rfl, _, _, rfl, _, _, rfl, rfl, ?_⟩
        have x4 : Evl.Ex H (upd H3 TT (.tup [.int (i : Nat), .ref Ta])) := f1.trans (Evl.Ex.new hTT)
        have y4 : Evl.Ex H3 (upd H3 TT (.tup [.int (i : Nat), .ref Ta])) := Evl.Ex.new hTT
        generalize upd H3 TT (.tup [.int (i : Nat), .ref Ta]) = H4 at x4 y4 ⊢
        obtain ⟨tb, hTa0⟩ := hP _ tm
        have hTa : ∀ {H'}, Evl.Ex H H' → Lt H' tb Ta [.str a, .str b] := fun e => Lt.ex hTa0 e
        refine ⟨_, rfl, tb, Ta, .str a, .str b, rfl, hTa x4, fun H5 x5 => ⟨_, rfl, ?_⟩⟩
        refine ite2 (fun q => absurd q (by decide)) (fun _ => ?_)
        have hTa5 : Lt H5 tb Ta [.str a, .str b] := (hTa x4).ex x5
        refine ⟨_, rfl, tb, Ta, _, rfl, hTa5.sq, fun LL hLL => ?_⟩
        have hG5 : H5 G = some (.dK (tab hs fun x => .str (g x))) := x5 _ _ (y4 _ _ f2)
        have hGL : G ≠ LL := ne_of_none hG5 hLL
        refine lc_it (walk_sq (xs := [.str a, .str b])) (fun j H' => Evl.Ex H5 H' ∧ H' LL = some (.lst ((List.replicate j true).map V.bl))) ⟨Evl.Ex.new hLL, upd_same⟩ (fun j H' _ hp => (hTa5.ex hp.1).sq) (fun j x H6 H7 hj hp hy => ?_) (fun H6 hp => ?_)
        · obtain ⟨g1, g2⟩ := hp
          obtain ⟨rfl, hx⟩ := hy
          obtain ⟨h, rfl, hm⟩ : ∃ h, x = .str h ∧ h ∈ hs := by
            have hj : j < 2 := hj
            have : j = 0 ∨ j = 1 := by omega
            rcases this with rfl | rfl
            · exact ⟨a, (Option.some.inj hx).symm, m1⟩
            · exact ⟨b, (Option.some.inj hx).symm, m2⟩
          have hG6 : DGet H7 G (kV (Sum.inr h)) (some (.str (g h))) := by have := DGet.k (k := Sum.inr h) (g1 _ _ hG5); rw [val_in hm] at this; exact this
          refine ⟨rfl, _, rfl, _, _, _, _, _, rfl, .ty _, (Pl.str h : Pl H7 (.str h) "str").ty, (Pl.str h : Pl H7 (.str h) "str").one "str", _, rfl, iteT ⟨_, rfl, _, rfl, G, _, rfl, hG6, _, g2, ?_, ex_upd g1 hLL, ?_⟩⟩
          · rw [List.length_map, List.length_replicate]
            exact Nat.lt_of_lt_of_le (show j < 2 from hj) (by decide)
          · rw [upd_same, List.replicate_succ', List.map_append]
            rfl
        · obtain ⟨g1, g2⟩ := hp
          refine ⟨LL, List.replicate 2 true, rfl, SqL.of g2, _, rfl, ?_⟩
          refine iteF ?_
          have x6 : Evl.Ex H H6 := (x4.trans x5).trans g1
          have hG6 : H6 G = some (.dK (tab hs fun x => .str (g x))) := g1 _ _ hG5
          have ga : DGet H6 G (kV (Sum.inr a)) (some (.str (g a))) := by have := DGet.k (k := Sum.inr a) hG6; rw [val_in m1] at this; exact this
          have gb : DGet H6 G (kV (Sum.inr b)) (some (.str (g b))) := by have := DGet.k (k := Sum.inr b) hG6; rw [val_in m2] at this; exact this
          have t6 := hTa x6
          refine ⟨_, rfl, _, rfl, t6.ix (j := 0) rfl ⟨G, _, rfl, ga, _, rfl, _, rfl, t6.ix (j := 1) rfl ⟨G, _, rfl, gb, rfl, _, rfl, ?_⟩⟩⟩
          refine ite2 (fun q => absurd (of_decide_eq_true q) (fun z => gne (V.str.inj z))) (fun _ => ?_)
          refine ⟨_, rfl, _, rfl, _, rfl, t6.ix (j := 0) rfl ⟨G, _, rfl, ga, _, rfl, _, rfl, t6.ix (j := 1) rfl ⟨G, _, rfl, gb, ?_⟩⟩⟩
          refine ⟨G, g a, g b, hs, g, rfl, hG6, hnd, h1k, fun G' H7 hG' x7 hG7 => ?_⟩
          have x6' : Evl.Ex H4 H6 := x5.trans g1
          have x47 : Evl.Ex H3 H7 := y4.trans (x6'.trans x7)
          have hf7 : H7 fo = some (.lst (refsL zs)) := x47 _ _ f4
          have t7 : Lt H7 tb Ta [.str a, .str b] := hTa (x6.trans x7)
          have hzl : zs.length = i := by
            have := congrArg List.length f6
            rw [List.length_map, List.length_map, List.length_take, List.length_map] at this
            omega
          refine ⟨_, rfl, .inl ⟨rfl, _, SqL.of hf7⟩, _, rfl, t7.ix (j := 0) rfl ⟨_, rfl, t7.ix (j := 1) rfl ⟨a, b, rfl, fun U hU => ?_⟩⟩⟩
          have hfU : fo ≠ U := ne_of_none hf7 hU
          have hUH : H U = none := by
            cases q0 : H U with
            | none => rfl
            | some o => rw [x7 _ _ (x6 _ _ q0)] at hU; cases hU
          refine ⟨fo, _, _, rfl, rfl, by rw [upd_ne hfU]; exact hf7, ?_, ?_⟩
          · unfold refsL
            rw [List.length_map, hzl]
            exact Nat.lt_of_le_of_lt (show i ≤ 1000 by omega) (by decide)
          · refine ⟨G', fun x => if g x = g b then g a else g x, some (.int (i : Nat)), some (.ref Ta), _, zs ++ [(U, ordP (a, b))], rfl, ?_⟩
            refine ⟨ex_upd ((x6.trans x7).trans (Evl.Ex.new hU)) hfoH, ?_, ?_, ?_, fun t ht => ?_, ?_, fun t ht => ?_⟩
            · have hGf : G' ≠ fo := fun z => by rw [z, x6' _ _ (y4 _ _ f4)] at hG'; cases hG'
              rw [upd_ne hGf, upd_ne (ne_of_none hG7 hU)]
              exact hG7
            · rw [tk]
              exact gnext _ fun x hx => rfl
            · unfold refsL
              rw [upd_same, List.map_append]
              rfl
            · rcases List.mem_append.mp ht with ht | ht
              · have := x47 _ _ (f5 t ht)
                rw [upd_ne (fun z => by rw [z, hf7] at this; cases this), upd_ne (ne_of_none this hU)]
                exact this
              · simp only [List.mem_singleton] at ht
                subst ht
                rw [upd_ne hfU.symm]
                exact upd_same
            · rw [List.map_append, f6, tk, List.map_append]
              rfl
            · rcases List.mem_append.mp ht with ht | ht
              · exact f7 t ht
              · simp only [List.mem_singleton] at ht
                subst ht
                exact hUH
      · rintro σ H3 ⟨G, g, v4, v5, v6, zs, rfl, f1, f2, f3, f4, f5, f6, f7⟩
        have lenR : (qs.map fun r => V.ref r.1).length = (qs.map (·.2)).length := by rw [List.length_map, List.length_map]
        rw [lenR, List.take_length] at f3 f6
        have same := I2 _ g f3 (fun _ h => h)
        obtain ⟨h0, hh0⟩ : ∃ h0, hs[0]? = some h0 := getD_of (List.length_pos_iff.mpr hne)
        have m0 : h0 ∈ hs := List.mem_of_getElem? hh0
        refine ⟨_, rfl, l, rfl, ⟨_, SqL.of (f1 _ _ hl)⟩, ?_⟩
        refine for_it (walk_list (xs := hs.map V.str)) (fun i σ H' => H' = H3 ∧ ∃ v6, σ = [some (.ref l), some (.ref q), some (.ref G), some (.ref fo), v4, v5, v6]) ⟨rfl, _, rfl⟩ ?_ ?_ ?_
        · rintro i σ H' _ ⟨rfl, _⟩
          exact SqL.of (f1 _ _ hl)
        · rintro i y σ H4 H5 hi ⟨rfl, w6, rfl⟩ ⟨rfl, hy⟩
          rw [List.length_map] at hi
          obtain ⟨h, hh⟩ := getD_of hi
          rw [List.getElem?_map, hh] at hy
          cases hy
          have hm := List.mem_of_getElem? hh
          have ga : DGet H5 G (kV (Sum.inr h)) (some (.str (g h))) := by have := DGet.k (k := Sum.inr h) f2; rw [val_in hm] at this; exact this
          have gb : DGet H5 G (kV (Sum.inr h0)) (some (.str (g h0))) := by have := DGet.k (k := Sum.inr h0) f2; rw [val_in m0] at this; exact this
          have e0 : (hs.map V.str)[0]? = some (.str h0) := by rw [List.getElem?_map, hh0]; rfl
          refine ⟨_, rfl, _, rfl, G, _, rfl, ga, _, rfl, _, rfl, l, _, _, _, rfl, rfl, SqL.of (f1 _ _ hl), atI_nat (j := 0) e0, G, _, rfl, gb, rfl, _, rfl, ?_⟩
          rw [same h hm h0 m0]
          refine ite2 (fun q => absurd q (by simp)) (fun _ => ⟨rfl, _, rfl⟩)
        · rintro σ H4 ⟨rfl, w6, rfl⟩
          refine ⟨_, rfl, fo, refsL zs, prOf H4, rfl, SqL.of f4, fun x hx => ?_, fun ys p hys hsr hp => ?_⟩
          · obtain ⟨t, ht, rfl⟩ := List.mem_map.mp hx
            exact ⟨t.1, rfl, by rw [prOf_at (f5 t ht)]; exact f5 t ht⟩
          · obtain ⟨ws, hws, rfl⟩ := snd_refs hys
            have hpH : H p = none := by
              cases q0 : H p with
              | none => rfl
              | some o => rw [f1 _ _ q0] at hp; cases hp
            have f5' : PrsAt H4 ws := fun t ht => f5 t (hws.mem_iff.mp ht)
            refine k p ws _ hpH (f1.trans (Evl.Ex.new hp)) upd_same (f5'.ex (Evl.Ex.new hp)) ?_ ?_ (fun t ht => f7 t (hws.mem_iff.mp ht))
            · rw [← f6]
              exact hws.map _
            · rw [← prOf_refs f5']
              exact List.pairwise_map.mpr hsr
theorem ok_initL {f fC fP fN : Addr} {fd fdC fdP fdN : FuncData} (F : FnM K "__init__" "Village.__init__" sInit f fd)
    (GC : FnOk P w K mg base CX0 2 fC fdC ["houses"] spCheckL) (bC : L2.Binds K fdC ["houses"] []) (kC : PySem.W.keepIn K (.ref fC) = true) (gC : mg "check_houses" = some (.ref fC))
    (GP : FnOk P w K mg base CX0 3 fP fdP ["houses", "paths"] spPathsCL) (bP : L2.Binds K fdP ["houses", "paths"] []) (kP : PySem.W.keepIn K (.ref fP) = true) (gP : mg "checked_paths" = some (.ref fP))
    (GN : FnOk P w K mg base CX0 1 fN fdN ["houses", "paths"] spNear) (bN : L2.Binds K fdN ["houses", "paths"] []) (kN : PySem.W.keepIn K (.ref fN) = true) (gN : mg "near_houses" = some (.ref fN))
    (gS : mg "sorted" = none) : FnOk P w K mg base CX0 4 f fd ["self", "houses", "paths"] (spInitL K) := by
  refine F.ok scInit (fun vs H Q E h => ?_) (fun cdv A outer s H vs Q E hr h => ?_)
  · obtain ⟨tl, tq, v, l, q, C, dx, hs, qs, rfl, _⟩ := h
    rfl
  · obtain ⟨tl, tq, v, l, q, C, dx, hs, qs, rfl, hv, cl, n1, n2, n3, hl, hq, hP, T, hne, h12, q12, hgood, k⟩ := h
    refine ⟨_, PSs.nox (pss_cons (ps_expr (pe_call GC (hr.mono (by decide)) rfl gC kC bC .nil pass0 (pa_cons (pv 1) pa_nil)))
      (pss_cons (ps_fld (pv 0) (pe_callB Stt.cr_sortedSq (by rfl) gS (by decide +kernel) (pa_cons (pv 1) pa_nil)) rfl)
      (pss_cons (ps_fld (pv 0) (pe_call GP hr rfl gP kP bP .nil pass0 (pa_cons (pe_fld (pv 0) rfl) (pa_cons (pv 2) pa_nil))) rfl)
      (pss_one (ps_fld (pv 0) (pe_call GN (hr.mono (by decide)) rfl gN kN bN .nil pass0 (pa_cons (pe_fld (pv 0) rfl) (pa_cons (pe_fld (pv 0) rfl) pa_nil))) rfl))))), ?_⟩
    refine ⟨_, rfl, tl, l, hs, rfl, hl, hne, T.nd, Nat.le_trans h12 (by decide), hgood, fun H1 x1 => ?_⟩
    refine ⟨_, rfl, l, hs, rfl, sqk_or (hl.ex x1).sq, by omega, fun ys p hys hsr hp => ?_⟩
    have hv1 : H1 v = some (.ins C dx []) := x1 _ _ hv
    have hvp : v ≠ p := ne_of_none hv1 hp
    refine ⟨_, rfl, v, C, dx, [], rfl, by rw [upd_ne hvp]; exact hv1, cl, n1, by decide, ?_⟩
    show tSeq _ _ _ _ (upd (upd H1 p (.lst (ys.map V.str))) v (.ins C dx [("_houses", .ref p)]))
    have keep : ∀ b o, b ≠ v → H b = some o → upd (upd H1 p (.lst (ys.map V.str))) v (.ins C dx [("_houses", .ref p)]) b = some o := fun b o hb e => by
      have := x1 _ _ e
      rw [upd_ne hb, upd_ne (ne_of_none this hp)]
      exact this
    have g1 : upd (upd H1 p (.lst (ys.map V.str))) v (.ins C dx [("_houses", .ref p)]) v = some (.ins C dx [("_houses", .ref p)]) := upd_same
    have g2 : upd (upd H1 p (.lst (ys.map V.str))) v (.ins C dx [("_houses", .ref p)]) p = some (.lst (ys.map V.str)) := by rw [upd_ne hvp.symm]; exact upd_same
    generalize upd (upd H1 p (.lst (ys.map V.str))) v (.ins C dx [("_houses", .ref p)]) = H2 at keep g1 g2
    have hqv : q ≠ v := fun z => by rw [z] at hq; exact lt_ins hq hv
    have hqn : ∀ t ∈ qs, t.1 ≠ v := fun t ht z => by
      obtain ⟨_, this⟩ := hP t ht
      rw [z] at this
      exact lt_ins this hv
    have T2 : Tree ys (qs.map (·.2)) := T.perm hys (List.Perm.refl _)
    have hyl : ys.length = hs.length := hys.length_eq
    have yne : ys ≠ [] := fun z => hne (List.length_eq_zero_iff.mp (by rw [← hyl, z]; rfl))
    refine ⟨_, rfl, v, C, dx, _, .ref p, rfl, g1, cl, n1, rfl, _, rfl, tq, p, q, ys, ys, qs, rfl, g2, keep _ _ hqv hq, fun t ht => (hP t ht).imp fun _ z => keep _ _ (hqn t ht) z, T2, yne, by omega, by omega, rfl, fun r zs H3 hr3 x3 h3 hP3 hpm hpw hfr => ?_⟩
    have hvr : v ≠ r := ne_of_none g1 hr3
    refine ⟨_, rfl, v, C, dx, [("_houses", .ref p)], rfl, x3 _ _ g1, cl, n2, (by show 1 < 1000; decide), ?_⟩
    rw [put2]
    have k3 : ∀ b o, b ≠ v → H2 b = some o → upd H3 v (.ins C dx [("_houses", .ref p), ("_paths", .ref r)]) b = some o := fun b o hb e => by rw [upd_ne hb]; exact x3 _ _ e
    have k3' : ∀ b o, b ≠ v → H3 b = some o → upd H3 v (.ins C dx [("_houses", .ref p), ("_paths", .ref r)]) b = some o := fun b o hb e => by rw [upd_ne hb]; exact e
    have g4 : upd H3 v (.ins C dx [("_houses", .ref p), ("_paths", .ref r)]) v = some (.ins C dx [("_houses", .ref p), ("_paths", .ref r)]) := upd_same
    generalize upd H3 v (.ins C dx [("_houses", .ref p), ("_paths", .ref r)]) = H4 at k3 k3' g4
    have g5 : H4 p = some (.lst (ys.map V.str)) := k3 _ _ hvp.symm g2
    have g6 : H4 r = some (.lst (refsL zs)) := k3' _ _ hvr.symm h3
    have zn : ∀ t ∈ zs, t.1 ≠ v := fun t ht z => by have := hfr t ht; rw [z, g1] at this; cases this
    have hP4 : PrsAt H4 zs := fun t ht => k3' _ _ (zn t ht) (hP3 t ht)
    have T3 : Tree ys (zs.map (·.2)) := (T2.turn ordP ordP_or).perm (List.Perm.refl _) hpm
    have zl : zs.length = qs.length := by have := hpm.length_eq; rw [List.length_map, List.length_map, List.length_map] at this; exact this
    refine ⟨_, rfl, v, C, dx, _, .ref p, rfl, g4, cl, n1, rfl, _, rfl, v, C, dx, _, .ref r, rfl, g4, cl, n2, rfl, p, r, ys, zs, rfl, g5, g6, hP4, T3.nd, by omega, by omega, fun t ht => T3.mem (.inl (List.mem_map.mpr ⟨t, ht, rfl⟩)), fun d ad H5 hd had x5 hN => ?_⟩
    refine ⟨_, rfl, v, C, dx, [("_houses", .ref p), ("_paths", .ref r)], rfl, x5 _ _ g4, cl, n3, (by show 2 < 1000; decide), ?_⟩
    rw [put3]
    have k5 : ∀ b o, b ≠ v → H5 b = some o → upd H5 v (.ins C dx [("_houses", .ref p), ("_paths", .ref r), ("_near", .ref d)]) b = some o := fun b o hb e => by rw [upd_ne hb]; exact e
    have nd : d ≠ v := (ne_of_none g4 hd).symm
    have nad : ∀ h ∈ ys, ad h ≠ v := fun h hh => (ne_of_none g4 (had h hh)).symm
    refine k _ ys (zs.map (·.2)) ⟨dx, p, r, d, zs, ad⟩ (fun b o hb e => k5 _ _ hb (x5 _ _ (k3 _ _ hb (keep _ _ hb e)))) ⟨upd_same, k5 _ _ hvp.symm (x5 _ _ g5), k5 _ _ hvr.symm (x5 _ _ g6), fun t ht => k5 _ _ (zn t ht) (x5 _ _ (hP4 t ht)), rfl, k5 _ _ nd hN.1, fun h hh => k5 _ _ (nad h hh) (hN.2 h hh)⟩ hys hsr hpm hpw T3 ⟨?_, ?_, ?_, fun t ht => ?_, fun h hh => ?_⟩
    · exact none_of (fun o e => x1 _ _ e) hp
    · exact none_of (fun o e => keep _ _ hvr.symm e) hr3
    · exact none_of (fun o e => k3 _ _ nd (keep _ _ nd e)) hd
    · exact none_of (fun o e => keep _ _ (zn t ht) e) (hfr t ht)
    · exact none_of (fun o e => k3 _ _ (nad h hh) (keep _ _ (nad h hh) e)) (had h hh)
end
end K07

namespace K07
open PySem PySem.Spec PyProof.Rows L2 Tr Sq Dk Exs Oeq
/-! ### a village of any names; == of villages -/
def spInitG (K : PySem.W.Frag) : Sp := fun vs H Q _ => ∃ (tl tq : Bool) (v l q C dx : Addr) (hs : List Str) (qs : LpL), vs = [.ref v, .ref l, .ref q] ∧ H v = some (.ins C dx []) ∧ Cls K C ∧ NoAttr K C "_houses" ∧ NoAttr K C "_paths" ∧ NoAttr K C "_near" ∧ Lt H tl l (hs.map V.str) ∧ Lt H tq q (qs.map fun r => V.ref r.1) ∧ LpsAt H qs ∧ Tree hs (qs.map (·.2)) ∧
  hs ≠ [] ∧ hs.length ≤ 60 ∧ qs.length ≤ 60 ∧ (∀ h ∈ hs, nameOk h = true ∧ h.length ≤ 1000) ∧
  ∀ (H' : Hp) (hs' : List Str) (ps' : Prs) (m : VilD), (∀ b o, b ≠ v → H b = some o → H' b = some o) → Vil H' C v hs' ps' m → hs'.Perm hs → sortedS hs' = true → ps'.Perm ((qs.map (·.2)).map ordP) → ps'.Pairwise (fun x y => Srs.lexT y x = false) → Tree hs' ps' → FreshV H hs' m → Q .non H'
section
variable {P : Program} {w : World} {K : PySem.W.Frag} {mg : Str → Option Value} {base : Heap}
theorem ok_initG {CH f fC fP fN : Addr} {fd fdC fdP fdN : FuncData} (F : FnM K "__init__" "Village.__init__" sInit f fd)
    (GC : FnOk P w K mg base (L2.CX P w) 3 fC fdC ["houses"] (spCheckX CH)) (bC : L2.Binds K fdC ["houses"] []) (kC : PySem.W.keepIn K (.ref fC) = true) (gC : mg "check_houses" = some (.ref fC))
    (GP : FnOk P w K mg base CX0 3 fP fdP ["houses", "paths"] spPathsCL) (bP : L2.Binds K fdP ["houses", "paths"] []) (kP : PySem.W.keepIn K (.ref fP) = true) (gP : mg "checked_paths" = some (.ref fP))
    (GN : FnOk P w K mg base CX0 1 fN fdN ["houses", "paths"] spNear) (bN : L2.Binds K fdN ["houses", "paths"] []) (kN : PySem.W.keepIn K (.ref fN) = true) (gN : mg "near_houses" = some (.ref fN))
    (gS : mg "sorted" = none) : FnOk P w K mg base CX0 4 f fd ["self", "houses", "paths"] (spInitG K) := by
  refine F.ok scInit (fun vs H Q E h => ?_) (fun cdv A outer s H vs Q E hr h => ?_)
  · obtain ⟨tl, tq, v, l, q, C, dx, hs, qs, rfl, _⟩ := h
    rfl
  · obtain ⟨tl, tq, v, l, q, C, dx, hs, qs, rfl, hv, cl, n1, n2, n3, hl, hq, hP, T, hne, h12, q12, hgood, k⟩ := h
    refine ⟨_, PSs.nox (pss_cons (ps_expr (pe_callS GC (hr.mono (by decide)) rfl gC kC bC (fun σ => passAt takes0 σ) (pa_cons (pv 1) pa_nil)))
      (pss_cons (ps_fld (pv 0) (pe_callB Stt.cr_sortedSq (by rfl) gS (by decide +kernel) (pa_cons (pv 1) pa_nil)) rfl)
      (pss_cons (ps_fld (pv 0) (pe_call GP hr rfl gP kP bP .nil pass0 (pa_cons (pe_fld (pv 0) rfl) (pa_cons (pv 2) pa_nil))) rfl)
      (pss_one (ps_fld (pv 0) (pe_call GN (hr.mono (by decide)) rfl gN kN bN .nil pass0 (pa_cons (pe_fld (pv 0) rfl) (pa_cons (pe_fld (pv 0) rfl) pa_nil))) rfl))))), ?_⟩
    have hrx : RX H (.ref l) (some (hs.map V.str)) := by
      have hp : ∀ y ∈ hs.map V.str, ∃ n, Pl H y n := fun y hy => by
        obtain ⟨z, _, rfl⟩ := List.mem_map.mp hy
        exact ⟨_, .str z⟩
      cases tl with
      | false => exact .lst hl hp (by rw [List.length_map]; omega)
      | true => exact .tup hl hp (by rw [List.length_map]; omega)
    have hgd := houseFlaw_good (fun h hh => (hgood h hh).1) T.nd hne
    refine ⟨_, rfl, .ref l, _, rfl, hrx, fun xs e z hz => ?_, fun _ H1 x1 => ?_, fun i hi => by rw [hgd] at hi; cases hi⟩
    · injection e with e
      rw [← e] at hz
      obtain ⟨z2, h2, e2⟩ := List.mem_map.mp hz
      rw [← V.str.inj e2]
      exact (hgood z2 h2).2
    refine ⟨_, rfl, l, hs, rfl, sqk_or (hl.ex x1).sq, by omega, fun ys p hys hsr hp => ?_⟩
    have hv1 : H1 v = some (.ins C dx []) := x1 _ _ hv
    have hvp : v ≠ p := ne_of_none hv1 hp
    refine ⟨_, rfl, v, C, dx, [], rfl, by rw [upd_ne hvp]; exact hv1, cl, n1, by decide, ?_⟩
    show tSeq _ _ _ _ (upd (upd H1 p (.lst (ys.map V.str))) v (.ins C dx [("_houses", .ref p)]))
    have keep : ∀ b o, b ≠ v → H b = some o → upd (upd H1 p (.lst (ys.map V.str))) v (.ins C dx [("_houses", .ref p)]) b = some o := fun b o hb e => by
      have := x1 _ _ e
      rw [upd_ne hb, upd_ne (ne_of_none this hp)]
      exact this
    have g1 : upd (upd H1 p (.lst (ys.map V.str))) v (.ins C dx [("_houses", .ref p)]) v = some (.ins C dx [("_houses", .ref p)]) := upd_same
    have g2 : upd (upd H1 p (.lst (ys.map V.str))) v (.ins C dx [("_houses", .ref p)]) p = some (.lst (ys.map V.str)) := by rw [upd_ne hvp.symm]; exact upd_same
    generalize upd (upd H1 p (.lst (ys.map V.str))) v (.ins C dx [("_houses", .ref p)]) = H2 at keep g1 g2
    have hqv : q ≠ v := fun z => by rw [z] at hq; exact lt_ins hq hv
    have hqn : ∀ t ∈ qs, t.1 ≠ v := fun t ht z => by
      obtain ⟨_, this⟩ := hP t ht
      rw [z] at this
      exact lt_ins this hv
    have T2 : Tree ys (qs.map (·.2)) := T.perm hys (List.Perm.refl _)
    have hyl : ys.length = hs.length := hys.length_eq
    have yne : ys ≠ [] := fun z => hne (List.length_eq_zero_iff.mp (by rw [← hyl, z]; rfl))
    refine ⟨_, rfl, v, C, dx, _, .ref p, rfl, g1, cl, n1, rfl, _, rfl, tq, p, q, ys, ys, qs, rfl, g2, keep _ _ hqv hq, fun t ht => (hP t ht).imp fun _ z => keep _ _ (hqn t ht) z, T2, yne, by omega, by omega, rfl, fun r zs H3 hr3 x3 h3 hP3 hpm hpw hfr => ?_⟩
    have hvr : v ≠ r := ne_of_none g1 hr3
    refine ⟨_, rfl, v, C, dx, [("_houses", .ref p)], rfl, x3 _ _ g1, cl, n2, (by show 1 < 1000; decide), ?_⟩
    rw [put2]
    have k3 : ∀ b o, b ≠ v → H2 b = some o → upd H3 v (.ins C dx [("_houses", .ref p), ("_paths", .ref r)]) b = some o := fun b o hb e => by rw [upd_ne hb]; exact x3 _ _ e
    have k3' : ∀ b o, b ≠ v → H3 b = some o → upd H3 v (.ins C dx [("_houses", .ref p), ("_paths", .ref r)]) b = some o := fun b o hb e => by rw [upd_ne hb]; exact e
    have g4 : upd H3 v (.ins C dx [("_houses", .ref p), ("_paths", .ref r)]) v = some (.ins C dx [("_houses", .ref p), ("_paths", .ref r)]) := upd_same
    generalize upd H3 v (.ins C dx [("_houses", .ref p), ("_paths", .ref r)]) = H4 at k3 k3' g4
    have g5 : H4 p = some (.lst (ys.map V.str)) := k3 _ _ hvp.symm g2
    have g6 : H4 r = some (.lst (refsL zs)) := k3' _ _ hvr.symm h3
    have zn : ∀ t ∈ zs, t.1 ≠ v := fun t ht z => by have := hfr t ht; rw [z, g1] at this; cases this
    have hP4 : PrsAt H4 zs := fun t ht => k3' _ _ (zn t ht) (hP3 t ht)
    have T3 : Tree ys (zs.map (·.2)) := (T2.turn ordP ordP_or).perm (List.Perm.refl _) hpm
    have zl : zs.length = qs.length := by have := hpm.length_eq; rw [List.length_map, List.length_map, List.length_map] at this; exact this
    refine ⟨_, rfl, v, C, dx, _, .ref p, rfl, g4, cl, n1, rfl, _, rfl, v, C, dx, _, .ref r, rfl, g4, cl, n2, rfl, p, r, ys, zs, rfl, g5, g6, hP4, T3.nd, by omega, by omega, fun t ht => T3.mem (.inl (List.mem_map.mpr ⟨t, ht, rfl⟩)), fun d ad H5 hd had x5 hN => ?_⟩
    refine ⟨_, rfl, v, C, dx, [("_houses", .ref p), ("_paths", .ref r)], rfl, x5 _ _ g4, cl, n3, (by show 2 < 1000; decide), ?_⟩
    rw [put3]
    have k5 : ∀ b o, b ≠ v → H5 b = some o → upd H5 v (.ins C dx [("_houses", .ref p), ("_paths", .ref r), ("_near", .ref d)]) b = some o := fun b o hb e => by rw [upd_ne hb]; exact e
    have nd : d ≠ v := (ne_of_none g4 hd).symm
    have nad : ∀ h ∈ ys, ad h ≠ v := fun h hh => (ne_of_none g4 (had h hh)).symm
    refine k _ ys (zs.map (·.2)) ⟨dx, p, r, d, zs, ad⟩ (fun b o hb e => k5 _ _ hb (x5 _ _ (k3 _ _ hb (keep _ _ hb e)))) ⟨upd_same, k5 _ _ hvp.symm (x5 _ _ g5), k5 _ _ hvr.symm (x5 _ _ g6), fun t ht => k5 _ _ (zn t ht) (x5 _ _ (hP4 t ht)), rfl, k5 _ _ nd hN.1, fun h hh => k5 _ _ (nad h hh) (hN.2 h hh)⟩ hys hsr hpm hpw T3 ⟨?_, ?_, ?_, fun t ht => ?_, fun h hh => ?_⟩
    · exact none_of (fun o e => x1 _ _ e) hp
    · exact none_of (fun o e => keep _ _ hvr.symm e) hr3
    · exact none_of (fun o e => k3 _ _ nd (keep _ _ nd e)) hd
    · exact none_of (fun o e => keep _ _ (zn t ht) e) (hfr t ht)
    · exact none_of (fun o e => k3 _ _ (nad h hh) (keep _ _ (nad h hh) e)) (had h hh)
end
abbrev sEqV : Stmt := meth 5
abbrev sLenV : Stmt := meth 4
def tyNames : List String := ["NoneType", "int", "bool", "str", "list", "tuple", "dict"]
/-- what isinstance and == ask of the class -/
structure VE (K : PySem.W.Frag) (C : Addr) : Prop where
  cl : Cls K C
  n1 : NoAttr K C "_houses"
  n2 : NoAttr K C "_paths"
  ha : PySem.W.findIn K (.ref C) "__class__" = some (some (.builtin "object.__class__"))
  hn : PySem.W.specialIn K (.builtin "object.__class__") "__get__" = some (some (.builtin "getset_descriptor.__get__"))
  ht : PySem.W.takesIn K (.builtin "object.__class__") = some true
  hm : PySem.W.mroIn K C (.type "object") = some true
  nf : ∀ n ∈ tyNames, PySem.W.notFirst K C (.type n) = true
  ki : ∀ n ∈ tyNames, PySem.W.kitOne K (.type n) (.ref C) = some false
theorem eqvAll_strs : ∀ l k : List Str, PyData.eqvAll (l.map PyData.str) (k.map PyData.str) = decide (l = k)
  | [], [] => by simp [PyData.eqvAll]
  | [], _ :: _ => by simp [PyData.eqvAll]
  | _ :: _, [] => by simp [PyData.eqvAll]
  | a :: l, b :: k => by
    rw [List.map_cons, List.map_cons]
    simp only [PyData.eqvAll, PyData.eqv, eqvAll_strs l k]
    by_cases h : a = b
    · by_cases h2 : l = k <;> simp [h, h2]
    · simp [h]
theorem eqvAll_prs : ∀ l k : Prs, PyData.eqvAll (l.map Dt.pdPair) (k.map Dt.pdPair) = decide (l = k)
  | [], [] => by simp [PyData.eqvAll]
  | [], _ :: _ => by simp [PyData.eqvAll]
  | _ :: _, [] => by simp [PyData.eqvAll]
  | a :: l, b :: k => by
    rw [List.map_cons, List.map_cons]
    simp only [PyData.eqvAll, Dt.eqv_pair, eqvAll_prs l k]
    by_cases h : a = b
    · by_cases h2 : l = k <;> simp [h, h2]
    · simp [h]
theorem shaped_strs (l : List Str) (h : ∀ z ∈ l, PyData.strOk z = true) : SeqAt.shaped (.list (l.map PyData.str)) = true := by
  unfold SeqAt.shaped
  simp only [PyData.canLay0, PyData.depth, lay_strs l h, depth_strs l, Bool.true_and]
  exact decide_eq_true (by omega)
/-- names that texts may be made of -/
def okN (hs : List Str) (ps : Prs) : Prop := (∀ h ∈ hs, PyData.strOk h = true) ∧ ∀ q ∈ ps, PyData.strOk q.1 = true ∧ PyData.strOk q.2 = true
def spEqV (C : Addr) : Sp := fun vs H Q _ => ∃ (v : Addr) (y : V) (hs : List Str) (ps : Prs) (m : VilD), vs = [.ref v, y] ∧ Vil H C v hs ps m ∧ okN hs ps ∧
  ((∃ n, Pl H y n ∧ n ∈ tyNames ∧ Q (.bl false) H) ∨ ∃ (u : Addr) (hs2 : List Str) (ps2 : Prs) (m2 : VilD), y = .ref u ∧ Vil H C u hs2 ps2 m2 ∧ okN hs2 ps2 ∧ Q (.bl (decide (hs = hs2) && decide (ps = ps2))) H)
section
variable {P : Program} {w : World} {K : PySem.W.Frag} {mg : Str → Option Value} {base : Heap}
theorem scEqV : FnScope ["self", "other"] ["self", "other"] (defScope sEqV) := ⟨rfl, rfl, rfl, by decide +kernel, rfl, by decide +kernel, by decide +kernel⟩
theorem Vil.ty {H : Hp} {C v : Addr} {hs : List Str} {ps : Prs} {m : VilD} (h : Vil H C v hs ps m) (e : VE K C) : TyX K H (.ref v) (.ref C) := .base (.ins h.at_ e.cl e.ha e.hn e.ht e.hm)
theorem ok_eqV {C f : Addr} {fd : FuncData} (F : FnM K "__eq__" "Village.__eq__" sEqV f fd) (e : VE K C) (gV : mg "Village" = some (.ref C)) (gI : mg "isinstance" = none) : FnOk P w K mg base CX0 2 f fd ["self", "other"] (spEqV C) := by
  refine F.ok scEqV (fun vs H Q E h => ?_) (fun cdv A outer s H vs Q E hr h => ?_)
  · obtain ⟨v, y, hs, ps, m, rfl, _⟩ := h
    rfl
  · obtain ⟨v, y, hs, ps, m, rfl, Vh, ok1, k⟩ := h
    refine ⟨_, PSs.nox (pss_one (ps_ret (pe_and (pe_callB call_isi rfl gI (by decide +kernel) (pa_cons (pv 1) (pa_cons (pe_glob (v := .ref C) rfl gV rfl) pa_nil))) (pe_and (pe_cmpR (op_eqD hr.units) (pe_fld (pv 0) rfl) (pe_fld (pv 1) rfl) (nomark _)) (pe_one (pe_cmpR (op_eqD hr.units) (pe_fld (pv 0) rfl) (pe_fld (pv 1) rfl) (nomark _))))))), ?_⟩
    rcases k with ⟨n, hp, hn, k⟩ | ⟨u, hs2, ps2, m2, rfl, Vu, ok2, k⟩
    · exact ⟨_, rfl, _, _, _, _, _, rfl, .own C, hp.ty, e.ki n hn, _, rfl, iteF k⟩
    · have kr : PySem.W.kitOne K (.ref C) (.ref C) = some true := by
        unfold PySem.W.kitOne
        rw [if_pos (by simp)]
      refine ⟨_, rfl, _, _, _, _, _, rfl, .own C, Vu.ty e, kr, _, rfl, iteT ?_⟩
      refine ⟨_, rfl, v, C, m.dx, _, _, rfl, Vh.at_, e.cl, e.n1, rfl, _, rfl, u, C, m2.dx, _, _, rfl, Vu.at_, e.cl, e.n1, rfl, _, _, .lst (SqL.of Vh.la) (dpa_strs _), .lst (SqL.of Vu.la) (dpa_strs _), shaped_strs _ ok1.1, shaped_strs _ ok2.1, _, rfl, ?_⟩
      rw [show PyData.eqv (.list (hs.map PyData.str)) (.list (hs2.map PyData.str)) = decide (hs = hs2) from by rw [← eqvAll_strs]; simp only [PyData.eqv]]
      have oe := Vh.eq
      have oe2 := Vu.eq
      by_cases hh : hs = hs2
      · rw [decide_eq_true hh] at k ⊢
        refine iteT ?_
        refine ⟨_, rfl, v, C, m.dx, _, _, rfl, Vh.at_, e.cl, e.n2, rfl, _, rfl, u, C, m2.dx, _, _, rfl, Vu.at_, e.cl, e.n2, rfl, _, _, .lst (SqL.of Vh.lb) (dp_prs Vh.pr), .lst (SqL.of Vu.lb) (dp_prs Vu.pr), shaped_prs _ (by rw [oe]; exact ok1.2), shaped_prs _ (by rw [oe2]; exact ok2.2), ?_⟩
        rw [oe, oe2, show PyData.eqv (.list (ps.map Dt.pdPair)) (.list (ps2.map Dt.pdPair)) = decide (ps = ps2) from by rw [← eqvAll_prs]; simp only [PyData.eqv]]
        exact k
      · rw [decide_eq_false hh] at k ⊢
        exact iteF k
end
end K07

/-! len(x) by an own __len__. Law-independent. -/
namespace Oeq
open PySem PySem.W PySem.Spec PySem.Calls PyProof.Rows L2
section
variable {prog : Program} {w : World} {A : Around} {E : Value → Shared → Prop} {s : Shared} {K : Frag} {x C f : Addr} {ox : Obj} {od : Option Obj} {name : Str}
theorem special_fn {M : Model} {args : List Value} {Q : Option Value → Shared → Prop} (X : K.In s.heap) (I : InstAt s.heap x ox C od) (hs : findIn K (.ref C) name = some (some (.ref f))) (hf : isFn K (.ref f) = true)
    (h : wpAny M A (call (.ref f) (.ref x :: args)) (fun v => Q (some v)) E s) : wpAny M A (callSpecial? (.ref x) name args) Q E s := by
  simp only [callSpecial?]
  refine wpAny_bind (wpAny_bind (I.type.here ((looks_findIn X hs).here ?_)))
  refine wpAny_holding (wpAny_bind ((bind_fn X _ (beq_iff_eq.mp hf)).here ?_))
  exact wpAny_bind (wpAny_mono h (fun v s' h' => wpAny_pure h') fun _ _ h' => h')
end
def rLenO (C : Addr) (sp : Sp) (E : XK) : List V → Hp → VK → Prop := fun xs H Q => ∃ (a dx : Addr) (fs : List (Str × V)), xs = [.ref a] ∧ H a = some (.ins C dx fs) ∧ sp [.ref a] H (fun v H' => ∃ n : Nat, v = .int (n : Nat) ∧ n < 2 ^ 60 ∧ Q (.int (n : Nat)) H') E
section
variable {X : Cx} {CX : CXT} {n : Nat} {C f : Addr} {fd : FuncData} {ps : List Str} {sp : Sp} {E : XK}
theorem call_lenO (F₁ : FnOk X.prog X.w X.K X.mg X.base CX n f fd ps sp) (hs : findIn X.K (.ref C) "__len__" = some (some (.ref f))) (hf : isFn X.K (.ref f) = true) (hb : L2.Binds X.K fd ps []) (hx : Passes CX X E) (hr : Room (n + 1) X.A) : CallR X (.builtin "len") (rLenO C sp E) := by
  intro pins s σ H xs us Q I r h
  obtain ⟨a, dx, fs, rfl, ha, hq⟩ := h
  obtain ⟨u, rfl, ru⟩ := vals1 r
  obtain rfl : u = Value.ref a := ru
  obtain ⟨mA, J, _⟩ := ins_get I.hok ha
  obtain ⟨od, J, _⟩ := J.look
  refine Calls.call_function_entry kind_len plain_len entry_len (args_len1 _) ?_
  unfold Builtin.«len»
  refine wpAny_bind (m := oneArg "len" _) (wpAny_pure ?_)
  have hl := F₁.len _ _ _ _ hq
  have e0 : Env0 X.prog X.w X.K X.mg X.base X.A.in1 X.stack s H := by
    have e := I.env0
    exact ⟨e.frames, e.mod, e.bs, e.bsz, e.funs, e.frf, e.hok, e.bare⟩
  refine wpAny_bind (m := callSpecial? (.ref a) (Str.ofString "__len__")) (special_fn I.kIn J hs hf (wpAny_call (codeAny_mono (F₁.run X.A.in1 X.stack s H ⟨[.ref a], []⟩ [.ref a] [.ref a] _ E hr.in1 e0 (by
    have := hb s [.ref a] I.kIn (by simpa using hl)
    simpa using this) (.cons rfl .nil) hq) fun r s' hq => ?_)))
  cases r with
  | error e => exact hx pins σ H s e s' I hq
  | ok fl =>
    cases fl with
    | ret w =>
      obtain ⟨z, H', I', rz, m, ez, hm, q⟩ := I.after hq
      subst ez
      obtain ⟨t, rfl⟩ := (show ∃ t, w = Value.int (m : Int) t from rz)
      refine wpAny_bind (wpAny_holding (wpAny_pure ?_))
      refine wpAny_bind (wpAny_letGo ?_)
      show wpAny _ _ (if ((m : Nat) : Int) < 0 then _ else _) _ _ _
      rw [if_neg (by omega)]
      show wpAny _ _ (if ((m : Nat) : Int) ≥ 2 ^ 63 then _ else _) _ _ _
      rw [if_neg (by omega)]
      exact wpAny_bind (wpAny_mkInt (wpAny_pure ⟨_, rfl, ⟨.int (m : Nat), H', I'.tok _, ⟨_, rfl⟩, q⟩⟩))
    | next => exact False.elim hq
    | brk => exact False.elim hq
    | cont => exact False.elim hq
end
end Oeq

namespace K07
open PySem PySem.Spec PyProof.Rows L2 Tr Sq Dk Dt Exs Oeq
/-! ### paths(), len of a village -/
abbrev sPathsM : Stmt := meth 2
def spPathsM (K : PySem.W.Frag) : Sp := fun vs H Q _ => ∃ (v C : Addr) (hs : List Str) (ps : Prs) (m : VilD), vs = [.ref v] ∧ Cls K C ∧ NoAttr K C "_paths" ∧ Vil H C v hs ps m ∧ ∀ p, H p = none → Q (.ref p) (upd H p (.lst (refsL m.zs)))
def spLenV (K : PySem.W.Frag) : Sp := fun vs H Q _ => ∃ (v C : Addr) (hs : List Str) (ps : Prs) (m : VilD), vs = [.ref v] ∧ Cls K C ∧ NoAttr K C "_houses" ∧ Vil H C v hs ps m ∧ Q (.int (hs.length : Nat)) H
section
variable {P : Program} {w : World} {K : PySem.W.Frag} {mg : Str → Option Value} {base : Heap}
theorem scPathsM : FnScope ["self"] ["self"] (defScope sPathsM) := ⟨rfl, rfl, rfl, by decide +kernel, rfl, by decide +kernel, by decide +kernel⟩
theorem ok_pathsM {f : Addr} {fd : FuncData} (F : FnM K "paths" "Village.paths" sPathsM f fd) (gL : mg "list" = none) : FnOk P w K mg base CX0 1 f fd ["self"] (spPathsM K) := by
  refine F.ok scPathsM (fun vs H Q E h => ?_) (fun cdv A outer s H vs Q E hr h => ?_)
  · obtain ⟨v, C, hs, ps, m, rfl, _⟩ := h
    rfl
  · obtain ⟨v, C, hs, ps, m, rfl, cl, n1, V, k⟩ := h
    refine ⟨_, PSs.nox (pss_one (ps_ret (pe_callTy call_list_of rfl gL (by decide +kernel) (pa_cons (pe_fld (pv 0) rfl) pa_nil)))), ?_⟩
    exact ⟨_, rfl, v, C, _, _, _, rfl, V.at_, cl, n1, rfl, m.b, _, rfl, .inl (SqL.of V.lb), fun p hp => k p hp⟩
theorem scLenV : FnScope ["self"] ["self"] (defScope sLenV) := ⟨rfl, rfl, rfl, by decide +kernel, rfl, by decide +kernel, by decide +kernel⟩
theorem ok_lenV {f : Addr} {fd : FuncData} (F : FnM K "__len__" "Village.__len__" sLenV f fd) (gL : mg "len" = none) : FnOk P w K mg base CX0 1 f fd ["self"] (spLenV K) := by
  refine F.ok scLenV (fun vs H Q E h => ?_) (fun cdv A outer s H vs Q E hr h => ?_)
  · obtain ⟨v, C, hs, ps, m, rfl, _⟩ := h
    rfl
  · obtain ⟨v, C, hs, ps, m, rfl, cl, n1, V, k⟩ := h
    refine ⟨_, PSs.nox (pss_one (ps_ret (pe_callB call_len_seq (by rfl) gL (by decide +kernel) (pa_cons (pe_fld (pv 0) rfl) pa_nil)))), ?_⟩
    refine ⟨_, rfl, v, C, _, _, _, rfl, V.at_, cl, n1, rfl, m.a, _, rfl, .inl (SqL.of V.la), ?_⟩
    rw [List.length_map]
    exact k
end
end K07

open PySem PySem.Spec PyProof.Rows L2
namespace Lft
/-! ### a def known not to raise, where raising is allowed; a def known in two ways -/
section
variable {P : Program} {w : World} {K : PySem.W.Frag} {mg : Str → Option Value} {base : Heap} {k : Nat} {f : Addr} {fd : FuncData} {ps : List Str}
theorem lift {sp : Sp} (G : FnOk P w K mg base CX0 k f fd ps sp) (CX : CXT) : FnOk P w K mg base CX k f fd ps sp :=
  ⟨G.len, fun A outer s H args us vs Q E h1 h2 h3 h4 h5 => codeAny_mono (G.run A outer s H args us vs Q E h1 h2 h3 h4 h5) fun r s h => by
    unfold CR at h ⊢
    cases r with
    | ok x =>
      cases x with
      | ret u => exact h
      | _ => exact h
    | error e => exact h.elim⟩
def spOr (a b : Sp) : Sp := fun vs H Q E => a vs H Q E ∨ b vs H Q E
theorem both {CX : CXT} {a b : Sp} (G1 : FnOk P w K mg base CX k f fd ps a) (G2 : FnOk P w K mg base CX k f fd ps b) : FnOk P w K mg base CX k f fd ps (spOr a b) :=
  ⟨fun vs H Q E h => h.elim (G1.len vs H Q E) (G2.len vs H Q E), fun A outer s H args us vs Q E h1 h2 h3 h4 h5 => h5.elim (fun h => G1.run A outer s H args us vs Q E h1 h2 h3 h4 h) fun h => G2.run A outer s H args us vs Q E h1 h2 h3 h4 h⟩
end
end Lft

namespace K07
open PySem PySem.Spec PyProof.Rows L2 Tr Sq Dk Exs
/-! ### check_some -/
abbrev sSome : Stmt := top 29
def someFrom (hs : List Str) (seen : List V) : List V → Nat → Option Nat
  | [], _ => none
  | y :: r, i => if isHouse hs y = true ∧ y ∉ seen then someFrom hs (seen ++ [y]) r (i + 1) else some i
def someFlaw (hs : List Str) : Option (List V) → Option Nat
  | none => some 0
  | some xs => if xs.length = 0 then some 0 else someFrom hs [] xs 0
theorem someFrom_step {hs : List Str} {xs : List V} {i : Nat} {y : V} (hy : xs[i]? = some y) : someFrom hs (xs.take i) (xs.drop i) i = if isHouse hs y = true ∧ y ∉ xs.take i then someFrom hs (xs.take (i + 1)) (xs.drop (i + 1)) (i + 1) else some i := by
  have hi := (List.getElem?_eq_some_iff.mp hy).1
  have e1 : xs.drop i = y :: xs.drop (i + 1) := by
    rw [List.drop_eq_getElem_cons hi]
    congr 1
    exact (List.getElem?_eq_some_iff.mp hy).2
  have e2 : xs.take (i + 1) = xs.take i ++ [y] := by rw [List.take_add_one, hy]; rfl
  rw [e1, e2]
  rfl
def spSome (C CB : Addr) : Sp := fun vs H Q E => ∃ (v : Addr) (x : V) (o : Option (List V)) (hs : List Str) (ps : Prs) (m : VilD), vs = [.ref v, x] ∧ Vil H C v hs ps m ∧ RX H x o ∧
  (someFlaw hs o = none → ∀ H', Evl.Ex H H' → Q .non H') ∧ (∀ i, someFlaw hs o = some i → ∀ H' d, Evl.Ex H H' → H' d = none → E (.ref CB) (some d) (upd H' d (.xd [("index", .int (i : Nat))])))
abbrev nmSome : List Str := ["village", "some", "seen", "index", "house"]
section
variable {P : Program} {w : World} {K : PySem.W.Frag} {mg : Str → Option Value} {base : Heap}
theorem scSome : FnScope nmSome ["village", "some"] (defScope sSome) := ⟨rfl, rfl, rfl, by decide +kernel, rfl, by decide +kernel, by decide +kernel⟩
theorem ok_some {C CB f f1 fH fL : Addr} {fd fdH fdL : FuncData} (F : FnP K "check_some" sSome f fd) (T1 : Err P w K mg base "BadSome" "index" CB f1) (GH : FnOk P w K mg base CX0 2 fH fdH ["village", "thing"] (spIsHouse C)) (bH : L2.Binds K fdH ["village", "thing"] []) (kH : PySem.W.keepIn K (.ref fH) = true) (gH : mg "is_house" = some (.ref fH))
    (GL : FnOk P w K mg base CX0 1 fL fdL ["thing"] spIsLst) (bL : L2.Binds K fdL ["thing"] []) (kL : PySem.W.keepIn K (.ref fL) = true) (gLs : mg "is_listed" = some (.ref fL)) (gLe : mg "len" = none) (gE : mg "enumerate" = none) : FnOk P w K mg base (L2.CX P w) 3 f fd ["village", "some"] (spSome C CB) := by
  refine F.ok scSome (fun vs H Q E h => ?_) (fun cdv A outer s H vs Q E hr h => ?_)
  · obtain ⟨v, x, o, hs, ps, m, rfl, _⟩ := h
    rfl
  · obtain ⟨v, x, o, hs, ps, m, rfl, Vh, hx, k1, k2⟩ := h
    refine ⟨_, pss_cons (ps_if (PW.pt (pw_or (pt_not (pt_val (pe_call GL (hr.mono (by decide)) rfl gLs kL bL .nil pass0 (pa_cons (pv 1) pa_nil)))) (pw_or1 (pt_cmpR op_eq (pe_callB call_len_seq (by rfl) gLe PySem.boot_len (pa_cons (pv 1) pa_nil)) pe_int (nomark _))))) (pss_one (ps_raise1 rfl T1 (hr.mono (by decide)) (takes_of rfl rfl rfl rfl) rfl pe_int)) pss_nil)
      (pss_cons (ps_set (i := 2) scSome.nd rfl (.inl rfl) pe_dnewK)
      (pss_one (ps_for (PassesOwn.leaving) rfl (pi_enumA rfl gE (pa_cons (pv 1) pa_nil)) (pg_tup rfl (pgs_cons (pg_name (i := 3) scSome.nd rfl (.inl rfl)) (pgs_cons (pg_name (i := 4) scSome.nd rfl (.inl rfl)) pgs_nil)))
        (pss_cons (ps_if (PW.pt (pw_or (pt_not (pt_val (pe_call GH hr rfl gH kH bH .nil pass0 (pa_cons (pv 0) (pa_cons (pv 4) pa_nil))))) (pw_or1 (pt_cmp (pc_din (hu_of hr) (pv 4) (pv 2)) rfl)))) (pss_one (ps_raise1 rfl T1 (hr.mono (by decide)) (takes_of rfl rfl rfl rfl) rfl (pv 3))) pss_nil)
        (pss_one (ps_dput (hu_of hr) (pv 2) (pv 4) pe_bl rfl)))))), ?_⟩
    obtain ⟨n, hn, hlb⟩ := hx.pl
    refine ⟨_, rfl, x, n, rfl, hn, fun H1 x1 => ⟨_, rfl, ?_⟩⟩
    cases o with
    | none =>
      rw [hlb]
      exact iteT (raiseP fun d hd => k2 0 rfl H1 d x1 hd)
    | some xs =>
      rw [hlb]
      refine iteF ?_
      obtain ⟨t, a, rfl, hsq, hpl, hl1⟩ := hx.sq (K := K)
      refine ⟨_, rfl, a, xs, rfl, sqk_or (hsq _ x1), rfl, _, rfl, ?_⟩
      by_cases hx0 : xs.length = 0
      · refine ite2 (fun _ => raiseP fun d hd => k2 0 (by show (if xs.length = 0 then some 0 else _) = _; rw [if_pos hx0]) H1 d x1 hd) (fun w => absurd (by rw [hx0]; rfl) w)
      refine ite2 (fun w => absurd (of_decide_eq_true w) (fun w => hx0 (by injection w with w; omega))) (fun _ => ?_)
      have k1 : someFrom hs [] xs 0 = none → ∀ H', Evl.Ex H H' → Q .non H' := fun h => k1 (by show (if xs.length = 0 then some 0 else _) = _; rw [if_neg hx0]; exact h)
      have k2 : ∀ i, someFrom hs [] xs 0 = some i → ∀ H' d, Evl.Ex H H' → H' d = none → E (.ref CB) (some d) (upd H' d (.xd [("index", .int (i : Nat))])) := fun i h => k2 i (by show (if xs.length = 0 then some 0 else _) = _; rw [if_neg hx0]; exact h)
      refine fun d hd => ⟨_, rfl, t, a, xs, rfl, hsq _ (x1.trans (Evl.Ex.new hd)), ?_⟩
      have hdH : H d = none := none_of (fun o z => x1 _ _ z) hd
      refine for_it (walk_enumA (xs := xs)) (fun i σ H' => ∃ v2 v3 zs, σ = [some (.ref v), some (.ref a), some (.ref d), v2, v3] ∧ Evl.Ex H H' ∧ xs.take i = zs.map V.str ∧ H' d = some (.dK (tab zs fun _ => .bl true)) ∧ someFrom hs [] xs 0 = someFrom hs (xs.take i) (xs.drop i) i) ?_ ?_ ?_ ?_
      · exact ⟨none, none, [], rfl, x1.trans (Evl.Ex.new hd), rfl, upd_same, rfl⟩
      · rintro i σ H' _ ⟨v2, v3, zs, rfl, x2, _⟩
        exact hsq _ x2
      · rintro i y σ H' _ hi ⟨v2, v3, zs, rfl, x2, ez, e2, ef⟩ ⟨T, u, z, rfl, hT, rfl, hu, hz⟩
        injection hu with hu
        subst hu
        have hz : xs[i]? = some z := hz
        have hzm := List.mem_of_getElem? hz
        obtain ⟨mm, hm⟩ := hpl z hzm
        have xt := Evl.Ex.new (o := .tup [.int (i : Nat), z]) hT
        have x3 := x2.trans xt
        have step := someFrom_step (hs := hs) hz
        have zl : zs.length = i := by
          have := congrArg List.length ez
          rw [List.length_take, List.length_map] at this
          omega
        refine ⟨T, _, rfl, SqT.of upd_same, rfl, _, _, rfl, _, _, rfl, rfl, _, rfl, _, rfl, v, z, mm, hs, ps, m, rfl, Vh.ex x3, hm.ext x3, _, rfl, ?_⟩
        have e4 : upd H' T (.tup [.int (i : Nat), z]) d = some (.dK (tab zs fun _ => .bl true)) := xt _ _ e2
        generalize upd H' T (.tup [.int (i : Nat), z]) = H4 at x3 e4 ⊢
        have bad : ¬ (isHouse hs z = true ∧ z ∉ xs.take i) → ∀ dd, H4 dd = none → E (.ref CB) (some dd) (upd H4 dd (.xd [("index", .int (i : Nat))])) := fun h dd hdd => k2 i (by rw [ef, step, if_neg h]) H4 dd x3 hdd
        cases hnz : isHouse hs z with
        | false => exact iteT ⟨_, rfl, raiseP fun dd hdd => bad (by rw [hnz]; simp) dd hdd⟩
        | true =>
          obtain ⟨w, rfl⟩ : ∃ w, z = .str w := by
            cases z with
            | str w => exact ⟨w, rfl⟩
            | _ => cases hnz
          refine iteF ?_
          refine ⟨_, rfl, _, rfl, d, _, rfl, DGet.k (k := Sum.inr w) e4, _, rfl, ?_⟩
          have mem : V.str w ∈ xs.take i ↔ w ∈ zs := by
            rw [ez]
            constructor
            · intro h
              obtain ⟨w2, h2, e⟩ := List.mem_map.mp h
              rw [← V.str.inj e]
              exact h2
            · exact fun h => List.mem_map.mpr ⟨w, h, rfl⟩
          by_cases hw : w ∈ zs
          · rw [val_in hw]
            exact iteT ⟨_, rfl, raiseP fun dd hdd => bad (fun h => h.2 (mem.mpr hw)) dd hdd⟩
          · rw [val_out hw]
            refine iteF ⟨_, rfl, _, rfl, d, _, rfl, DPut.k (k := Sum.inr w) e4 ?_, ?_⟩
            · rw [tab_length, zl]
              exact Nat.lt_of_le_of_lt (show i ≤ 1000 by have := (List.getElem?_eq_some_iff.mp hz).1; omega) (by decide)
            · refine ⟨_, _, zs ++ [w], rfl, ex_upd x3 hdH, ?_, ?_, ?_⟩
              · rw [List.take_add_one, hz, ez, List.map_append]
                rfl
              · rw [upd_same, put_new hw]
                congr 2
                exact tab_congr fun x _ => by split <;> rfl
              · rw [ef, step, if_pos ⟨hnz, fun h => hw (mem.mp h)⟩]
      · rintro σ H' ⟨v2, v3, zs, rfl, x2, ez, e2, ef⟩
        refine k1 ?_ _ x2
        rw [ef, List.drop_of_length_le (Nat.le_refl _)]
        rfl
end
end K07

namespace Lm
open PySem PySem.W PySem.Spec PySem.Calls PyProof.Rows L2
/-! ### a lambda is made, and its own code object's table is known, too -/
section
variable {M : Model} {A : Around} {E : Value → Shared → Prop} {s : Shared} {name qual : Str} {params : Arguments} {body : Expr} {scope : Scope} {env : Env} {c P : Addr} {ps : Array Value} {pos : Pos} {line : Nat} {mg : Str → Option Value} {clos : List (Str × Addr)} {Q : Value → Shared → Prop}
/-- what stands behind the making: the code object c2 with its table P2, still empty -/
structure Made (P : Addr) (ps : Array Value) (pos : Pos) (qual : Str) (h h' : Heap) (c2 P2 : Addr) : Prop where
  keep : Heap.ExtBut P h h'
  big : h.objs.size ≤ c2
  lt : c2 < h'.objs.size
  rec_ : h'.CodeRec (.ref c2) qual
  tab : h'.get? P = some (tabObj (ps ++ #[rawInt pos.line, rawInt pos.col, .ref c2]))
  big2 : h.objs.size ≤ P2
  head : CodeHd h' c2 P2
  tab2 : h'.get? P2 = some (tabObj #[])
theorem make_new (hcl : closureFor scope env = pure clos) (hgl : env.globals = mainGlobals) (hg : s.heap.Ns mainGlobals mg) (hcode : env.code = .ref c) (C : CodeHd s.heap c P) (hP : s.heap.get? P = some (tabObj ps)) (ht : TriplesOk ps.toList)
    (hnf : codeAmong pos ps.toList = none) (hgP : mainGlobals ≠ P) (hb : s.heap.BuiltinsAt mg P)
    (k : ∀ c2 P2 ctv h' tk, Made P ps pos qual s.heap h' c2 P2 → Q (.ref h'.objs.size) { s with heap := h'.push (kla_obj name qual params body scope clos ((mg "__name__").getD .none) c2 ctv), toks := tk }) :
    wpAny M A (makeFunction name qual params (.expr body) scope env [] [] [] pos line) Q E s := by
  rw [makeFunction_eq]
  simp only [List.zip_nil_right, List.filterMap_nil, List.isEmpty_nil, if_true, pure_bind]
  obtain ⟨bm, ob, b1, b2, _, b4, b5, b6, b7, b8⟩ := hb
  have code : ∀ (h0 : Heap) (R : Value → Shared → Prop), (∀ b o, s.heap.get? b = some o → h0.get? b = some o) → s.heap.objs.size ≤ h0.objs.size → h0.Ns mainGlobals mg →
      (∀ c2 P2 h' tk, Made P ps pos qual s.heap h' c2 P2 → h'.Ns mainGlobals mg → h'.get? bm = some ob → R (.ref c2) { s with heap := h', toks := tk }) → wpAny M A (functionCode env pos line name qual params scope (.expr body)) R E { s with heap := h0 } := by
    intro h0 R kp sz hg0 kR
    refine wpAny_functionCodeX hcode ((C.keeps kp).code (kp _ _ hP) ht) ((C.keeps kp).tab (kp _ _ hP)) hnf fun c2 h' tk hx hge hlt _ hrec htb ⟨P2, hP2, hic, hta⟩ => ?_
    have hx' : Heap.ExtBut P s.heap h' := fun b o hb' e => hx b o hb' (kp b o e)
    exact kR c2 P2 h' tk ⟨hx', Nat.le_trans sz hge, hlt, hrec, htb.2, Nat.le_trans sz hP2, CodeHd.of hic hta, hta.2⟩ (hg0.extBut hx hgP) (hx' _ _ b4 b5)
  unfold makeTail
  rw [hcl, hgl]
  refine wpAny_bind (wpAny_pure ?_)
  cases clos with
  | nil =>
    simp only [List.isEmpty_nil, if_true]
    refine wpAny_bind (wpAny_pure (wpAny_bind (code s.heap _ (fun _ _ e => e) (Nat.le_refl _) hg fun c2 P2 h' tk m hn hm => ?_)))
    refine wpAny_bind (wpAny_builtinsFor hn b1 b2 hm b6 b7 b8 (wpAny_bind (wpAny_nsGet hn ?_)))
    exact wpAny_bind (wpAny_pure (wpAny_newObj_type (k c2 P2 .none h' tk m) (by size_fits)))
  | cons q r =>
    simp only [List.isEmpty_cons, Bool.false_eq_true, if_false]
    refine wpAny_bind (wpAny_newTextTuple (wpAny_bind (code (s.heap.push _) _ (fun _ _ e => Heap.get?_push_of_some _ e) (by rw [Heap.size_push]; omega) (hg.push _) fun c2 P2 h' tk m hn hm => ?_)))
    refine wpAny_bind (wpAny_builtinsFor hn b1 b2 hm b6 b7 b8 (wpAny_bind (wpAny_nsGet hn ?_)))
    exact wpAny_bind (wpAny_pure (wpAny_newObj_type (k c2 P2 _ h' tk m) (by size_fits)))
end
/-- a code object of the name q, its table at P2 -/
def CodeT (c : Addr) (q : Str) (P2 : Addr) : HO := .ext fun h => h.CodeRec (.ref c) q ∧ CodeHd h c P2
theorem codeHd_at {h h' : Heap} {c P2 : Addr} (x : CodeHd h c P2) (e : ∀ o, h.get? c = some o → h'.get? c = some o) : CodeHd h' c P2 := by
  obtain ⟨o, r1, r2, r3, r4, r5, r6, r7, r8, g, r⟩ := x
  exact ⟨o, r1, r2, r3, r4, r5, r6, r7, r8, e _ g, r⟩
theorem codeT_ok {P : Program} {w : World} {H : Hp} {h : Heap} {c P2 : Addr} {q : Str} (r : h.CodeRec (.ref c) q) (hd : CodeHd h c P2) : ObjOk P w H h c (CodeT c q P2) := by
  refine ⟨⟨r, hd⟩, ?_, fun h1 h2 ⟨a, b⟩ st => ⟨a.at st, codeHd_at b st⟩⟩
  obtain ⟨_, o, _, _, e, g, _⟩ := r
  cases e
  exact ⟨o, g⟩
theorem codeT_ne {c P2 : Addr} {q : Str} (ps : Array Value) : CodeT c q P2 ≠ .tbl ps := fun z => by
  unfold CodeT at z
  cases z
section
variable {X : Cx} {pins : List (Addr × Obj)} {σ : L2.St} {H : Hp} {s : Shared}
theorem inv_made {P c2 P2 : Addr} {q : Str} {ps : Array Value} {pos : Pos} {h0 h' : Heap} {t' : Nat} (I : Inv X pins σ H s) (hP : H P = some (.tbl ps)) (m : Made P ps pos q s.heap h0 c2 P2) (kh : ∀ b o, h0.get? b = some o → h'.get? b = some o) :
    Inv X pins σ (upd (upd (upd H P (.tbl (ps ++ #[rawInt pos.line, rawInt pos.col, .ref c2]))) c2 (CodeT c2 q P2)) P2 (.tbl #[])) { s with heap := h', toks := t' } := by
  have nC : H c2 = none := I.hok.fresh m.big
  have n2 : H P2 = none := I.hok.fresh m.big2
  have c2P : c2 ≠ P2 := by
    obtain ⟨_, _, _, _, _, _, _, _, _, _, _, _, _, _, _, _, _, _, ne⟩ := m.head
    exact ne
  have nPc : P ≠ c2 := ne_of_none hP nC
  have nP2 : P ≠ P2 := ne_of_none hP n2
  have off : ∀ b, b ≠ P → b ≠ c2 → b ≠ P2 → upd (upd (upd H P (.tbl (ps ++ #[rawInt pos.line, rawInt pos.col, .ref c2]))) c2 (CodeT c2 q P2)) P2 (.tbl #[]) b = H b := fun b h1 h2 h3 => by rw [upd_ne h3, upd_ne h2, upd_ne h1]
  have atP : upd (upd (upd H P (.tbl (ps ++ #[rawInt pos.line, rawInt pos.col, .ref c2]))) c2 (CodeT c2 q P2)) P2 (.tbl #[]) P = some (.tbl (ps ++ #[rawInt pos.line, rawInt pos.col, .ref c2])) := by rw [upd_ne nP2, upd_ne nPc, upd_same]
  have notP : ∀ b u, H b = some u → (∀ z, u ≠ .tbl z) → b ≠ P := fun b u e z y => by
    rw [y, hP] at e
    exact z ps (Option.some.inj e).symm
  have freeP : ∀ b, H b = none → b ≠ P := fun b e z => by
    rw [z, hP] at e
    cases e
  have oldC : ∀ b o, s.heap.get? b = some o → b ≠ c2 := fun b o e z => Nat.lt_irrefl _ (Nat.lt_of_lt_of_le (Heap.lt_size e) (z ▸ m.big))
  have old2 : ∀ b o, s.heap.get? b = some o → b ≠ P2 := fun b o e z => Nat.lt_irrefl _ (Nat.lt_of_lt_of_le (Heap.lt_size e) (z ▸ m.big2))
  have kp : ∀ b o, b ≠ P → s.heap.get? b = some o → h'.get? b = some o := fun b o hb e => kh _ _ (m.keep b o hb e)
  refine I.step (g' := s.gens) (d' := s.drawn) (ch := []) (fun b hb => absurd hb (by simp)) (fun b o _ _ _ e n => kp b o (freeP b n) e) (fun b o _ _ _ e n => ⟨o.slots, kp b o (freeP b n) e⟩)
    (fun b o _ e n => by rw [off b (freeP b n) (oldC b o e) (old2 b o e)]; exact n) (fun b o _ e => ?_) (fun b xs e => ?_) (fun b o u e => ?_) (fun b qs e => ?_) (fun mm hn => ?_) (fun b u e => ?_) I.bare
  · by_cases hb : b = P
    · rw [hb]
      exact ⟨_, kh _ _ m.tab⟩
    · exact ⟨o, kp b o hb e⟩
  · rw [off b (notP b _ e (fun z y => by cases y)) (ne_of_none e nC) (ne_of_none e n2)]
    exact e
  · rw [off b (notP b _ e (fun z y => by cases y)) (ne_of_none e nC) (ne_of_none e n2)]
    exact e
  · by_cases hb : b = P
    · rw [hb, hP] at e
      cases e
      rw [hb, atP]
      exact ⟨_, rfl⟩
    · rw [off b hb (ne_of_none e nC) (ne_of_none e n2), e]
      exact ⟨#[], by simp⟩
  · obtain ⟨ob, es, ep, ho, r⟩ := hn
    exact ⟨ob, es, ep, kp _ ob (freeP _ I.free) ho, r⟩
  · by_cases h2 : b = P2
    · subst h2
      rw [upd_same] at e
      cases e
      exact kh _ _ m.tab2
    · rw [upd_ne h2] at e
      by_cases hc : b = c2
      · subst hc
        rw [upd_same] at e
        cases e
        exact codeT_ok (m.rec_.keeps kh) (m.head.keeps kh)
      · rw [upd_ne hc] at e
        by_cases hb : b = P
        · subst hb
          rw [upd_same] at e
          cases e
          exact kh _ _ m.tab
        · rw [upd_ne hb] at e
          refine (I.hok b u e).stay (fun d v hd y => kp d v ?_ y) (fun d y => ?_) fun d xs y => ?_
          · rcases hd with z | z
            · rw [z]
              exact hb
            · exact notP d _ z (fun z y => by cases y)
          · rw [off d (notP d _ y (fun z y => by cases y)) (ne_of_none y nC) (ne_of_none y n2)]
            exact y
          · rw [off d (notP d _ y (fun z y => by cases y)) (ne_of_none y nC) (ne_of_none y n2)]
            exact y
end
/-- a table's address is none of those that the making of a lambda reads besides -/
def Good (mg : Str → Option Value) (P2 : Addr) : Prop := mainGlobals ≠ P2 ∧ ∀ bm, mg "__builtins__" = some (.ref bm) → bm ≠ P2
/-- the table at P: its code objects bear the first name, their own tables the next ones -/
def TabD (mg : Str → Option Value) : List Str → Hp → Addr → Prop
  | [], _, _ => True
  | q :: qs, H, P => ∃ ps : Array Value, H P = some (.tbl ps) ∧ TriplesOk ps.toList ∧ ∀ (pos : Pos) (cv : Value), codeAmong pos ps.toList = some cv → ∃ c P2, cv = .ref c ∧ H c = some (CodeT c q P2) ∧ P2 ≠ P ∧ TabD mg qs H P2 ∧ Good mg P2
/-- all stays but the table at P -/
def Grow (P : Addr) (H H1 : Hp) : Prop := ∀ b o, b ≠ P → H b = some o → H1 b = some o
theorem tabD_nil {mg : Str → Option Value} {qs : List Str} {H : Hp} {P2 : Addr} (h : H P2 = some (.tbl #[])) : TabD mg qs H P2 := by
  cases qs with
  | nil => exact True.intro
  | cons q r => exact ⟨#[], h, True.intro, fun pos cv hc => by simp [codeAmong] at hc⟩
theorem tabD_one {mg : Str → Option Value} {q : Str} {H H1 : Hp} {P Y : Addr} {ps0 : Array Value} (hP : H P = some (.tbl ps0)) (g : Grow P H H1) (hY : Y ≠ P) (t : TabD mg [q] H Y) : TabD mg [q] H1 Y := by
  obtain ⟨ps, h1, h2, h3⟩ := t
  refine ⟨ps, g _ _ hY h1, h2, fun pos cv hc => ?_⟩
  obtain ⟨c, P2, e1, e2, e3, e4, e5⟩ := h3 pos cv hc
  exact ⟨c, P2, e1, g _ _ (fun z => by rw [z, hP] at e2; exact codeT_ne ps0 (Option.some.inj e2).symm) e2, e3, e4, e5⟩
/-- an inner table has grown: the outer one tells as before -/
theorem tabD_two {mg : Str → Option Value} {q1 q2 : Str} {H H1 : Hp} {P Y : Addr} {ps0 : Array Value} (hP : H P = some (.tbl ps0)) (g : Grow P H H1) (hY : Y ≠ P) (new : TabD mg [q2] H1 P) (t : TabD mg [q1, q2] H Y) : TabD mg [q1, q2] H1 Y := by
  obtain ⟨ps, h1, h2, h3⟩ := t
  refine ⟨ps, g _ _ hY h1, h2, fun pos cv hc => ?_⟩
  obtain ⟨c, P2, e1, e2, e3, e4, e5⟩ := h3 pos cv hc
  refine ⟨c, P2, e1, g _ _ (fun z => by rw [z, hP] at e2; exact codeT_ne ps0 (Option.some.inj e2).symm) e2, e3, ?_, e5⟩
  by_cases hz : P2 = P
  · rw [hz]
    exact new
  · exact tabD_one hP g hz e4
section
variable {X : Cx} {pins : List (Addr × Obj)} {σ : L2.St} {H : Hp} {s : Shared}
/-- a lambda is made: new, or by the code object that stands in the table -/
theorem lam_makeT {qs : List Str} {c P : Addr} {params : Arguments} {body : Expr} {scope : Scope} {pos : Pos} {E : Value → Shared → Prop} {Q : Value → Shared → Prop} (I : Inv X pins σ H s) (C : CodeHd s.heap c P) (hgP : mainGlobals ≠ P) (bP : s.heap.BuiltinsAt X.mg P) (hcode : X.env.code = .ref c)
    (hT : TabD X.mg ((X.env.qual ++ "<lambda>") :: qs) H P) (stab : ∀ H1 Y, Grow P H H1 → Y ≠ P → TabD X.mg qs H Y → TabD X.mg qs H1 Y) (hdef : defaultsOf params X.env = ([], [])) (hfree : ∀ y ∈ scope.names, y.2 = .free → ∃ c, X.env.cells.lookup y.1 = some c)
    (k : ∀ (f c2 P2 : Addr) (pm ctv : Value) (H1 : Hp) (s' : Shared), Inv X pins σ H1 s' → Grow P H H1 → TabD X.mg ((X.env.qual ++ "<lambda>") :: qs) H1 P →
      s'.heap.get? f = some (kla_obj "<lambda>" (X.env.qual ++ "<lambda>") params body scope (cloFrom X.env.cells scope.names []) pm c2 ctv) → H1 f = none → f ∉ frs X.stack → H1 c2 = some (CodeT c2 (X.env.qual ++ "<lambda>") P2) → P2 ≠ P → TabD X.mg qs H1 P2 → Good X.mg P2 → Q (.ref f) s') :
    wpAny (model X.prog X.w) X.A (eval (.Lambda params body scope pos) X.env) Q E s := by
  obtain ⟨ps, hP, ht, ha⟩ := hT
  have hP' : s.heap.get? P = some (tabObj ps) := I.hok P _ hP
  have away : ∀ f, s.heap.objs.size ≤ f → f ∉ frs X.stack := fun f hf z => by
    rcases List.mem_cons.mp (I.stkSub _ z) with e | e
    · exact Nat.lt_irrefl _ (Nat.lt_of_lt_of_le (e ▸ I.lt) hf)
    · exact I.nofs hf e
  refine kla_eval hdef ?_
  cases hc : codeAmong pos ps.toList with
  | some cv =>
    obtain ⟨c2, P2, e, e2, e3, e4, e5⟩ := ha pos cv hc
    subst e
    refine kla_makeFunctionHit (mg := X.mg) (c := c) (P := P) (ps := ps) (closure_ok hfree) I.ok.glob (I.mod.glob.keeps I.bk) hcode C hP' ht hc bP fun ctv h' tk hx hsz => ?_
    exact k h'.objs.size c2 P2 _ ctv H _ (I.kept fun b o e => Heap.get?_push_of_some _ (hx b o e)) (fun _ _ _ e => e) ⟨ps, hP, ht, ha⟩ (Heap.get?_push_size _ rfl) (I.hok.fresh hsz) (away _ hsz) e2 e3 e4 e5
  | none =>
    have bP0 := bP
    obtain ⟨bm, ob, b1, _, _, _, b5, _⟩ := bP0
    refine make_new (mg := X.mg) (c := c) (P := P) (ps := ps) (closure_ok hfree) I.ok.glob (I.mod.glob.keeps I.bk) hcode C hP' ht hc hgP bP fun c2 P2 ctv h' tk m => ?_
    have nC : H c2 = none := I.hok.fresh m.big
    have n2 : H P2 = none := I.hok.fresh m.big2
    have nPc : P ≠ c2 := ne_of_none hP nC
    have nP2 : P ≠ P2 := ne_of_none hP n2
    have c2P : c2 ≠ P2 := by
      obtain ⟨_, _, _, _, _, _, _, _, _, _, _, _, _, _, _, _, _, _, ne⟩ := m.head
      exact ne
    have hsz : s.heap.objs.size ≤ h'.objs.size := Nat.le_trans m.big (Nat.le_of_lt m.lt)
    have I1 := inv_made (t' := tk) (h' := h'.push (kla_obj "<lambda>" (X.env.qual ++ "<lambda>") params body scope (cloFrom X.env.cells scope.names []) ((X.mg "__name__").getD .none) c2 ctv)) I hP m (fun b o e => Heap.get?_push_of_some _ e)
    have gr : Grow P H (upd (upd (upd H P (.tbl (ps ++ #[rawInt pos.line, rawInt pos.col, .ref c2]))) c2 (CodeT c2 (X.env.qual ++ "<lambda>") P2)) P2 (.tbl #[])) := fun b o hb e => by
      rw [upd_ne (ne_of_none e n2), upd_ne (ne_of_none e nC), upd_ne hb]
      exact e
    have hcT : upd (upd (upd H P (.tbl (ps ++ #[rawInt pos.line, rawInt pos.col, .ref c2]))) c2 (CodeT c2 (X.env.qual ++ "<lambda>") P2)) P2 (.tbl #[]) c2 = some (CodeT c2 (X.env.qual ++ "<lambda>") P2) := by rw [upd_ne c2P, upd_same]
    have t2 : TabD X.mg qs (upd (upd (upd H P (.tbl (ps ++ #[rawInt pos.line, rawInt pos.col, .ref c2]))) c2 (CodeT c2 (X.env.qual ++ "<lambda>") P2)) P2 (.tbl #[])) P2 := tabD_nil upd_same
    have gd : Good X.mg P2 := by
      refine ⟨fun z => ?_, fun b hb z => ?_⟩
      · obtain ⟨og, _, _, eg, _⟩ := I.mod.glob.keeps I.bk
        exact Nat.lt_irrefl _ (Nat.lt_of_lt_of_le (Heap.lt_size eg) (z ▸ m.big2))
      · rw [b1] at hb
        cases hb
        exact Nat.lt_irrefl _ (Nat.lt_of_lt_of_le (Heap.lt_size b5) (z ▸ m.big2))
    refine k h'.objs.size c2 P2 _ ctv _ _ I1 gr ⟨_, by rw [upd_ne nP2, upd_ne nPc, upd_same], ?_, fun p' cv hcv => ?_⟩ (Heap.get?_push_size _ rfl) ?_ (away _ hsz) hcT nP2.symm t2 gd
    · rw [show (ps ++ #[rawInt pos.line, rawInt pos.col, .ref c2]).toList = ps.toList ++ [rawInt pos.line, rawInt pos.col, .ref c2] by simp]
      exact PySem.TriplesOk_snoc _ _ _ _ ht
    · rw [show (ps ++ #[rawInt pos.line, rawInt pos.col, .ref c2]).toList = ps.toList ++ [rawInt pos.line, rawInt pos.col, .ref c2] by simp] at hcv
      rcases LamX.among_app _ ht hcv with z | z
      · obtain ⟨c0, P0, e1, e2, e3, e4, e5⟩ := ha p' cv z
        exact ⟨c0, P0, e1, gr _ _ (fun y => by rw [y, hP] at e2; exact codeT_ne ps (Option.some.inj e2).symm) e2, e3, stab _ _ gr e3 e4, e5⟩
      · exact ⟨c2, P2, z, hcT, nP2.symm, t2, gd⟩
    · have n1 : h'.objs.size ≠ c2 := Nat.ne_of_gt m.lt
      have n3 : h'.objs.size ≠ P2 := Nat.ne_of_gt (Heap.lt_size m.tab2)
      have n4 : h'.objs.size ≠ P := Nat.ne_of_gt (Nat.lt_of_lt_of_le (Heap.lt_size hP') hsz)
      rw [upd_ne n3, upd_ne n1, upd_ne n4]
      exact I.hok.fresh hsz
end
section
variable {X : Cx} {pins : List (Addr × Obj)} {σ : L2.St} {H : Hp} {s : Shared}
/-- a(), in the def that got the lambda f: its body, as it stands where the lambda was written -/
theorem pe_actT {CXg : CXT} {Eg : XK} {Ng : List Str} {qg : Str} {sg : Scope} {g f c2 P2 : Addr} {cdg pm ctv : Value} {params : Arguments} {body : Expr} {scope : Scope} {lv i : Nat} {a : Str} {pn : List (Addr × Obj)} {xe : Value → Shared → Prop} {W : WX} {E : XK} {tb : TE} {p1 p2 : Pos}
    (I : Inv X pins σ H s) (L : LamX.LamS X.env.scope scope) (hf : s.heap.get? f = some (kla_obj "<lambda>" (X.env.qual ++ "<lambda>") params body scope (cloFrom X.env.cells scope.names []) pm c2 ctv)) (hfn : H f = none) (hfr : f ∉ frs X.stack)
    (hbind : bindArgs (kla_fn "<lambda>" (X.env.qual ++ "<lambda>") params body scope (cloFrom X.env.cells scope.names []) pm (.ref c2) ctv) ⟨[], []⟩ = pure [])
    (tk : Takes ((cxOf CXg X.prog X.w X.K X.mg X.base Ng qg sg g cdg X.A X.stack s H Eg).tr pn xe) W) (hW : ∀ cls d σ' H', E cls d H' → W cls d σ' H') (hr : Room (lv + 1) (X.A.deeper (envOfC qg sg s.heap.objs.size g cdg)))
    (hbody : ∀ (A : Around) (outer : List Env) (s : Shared) (H : Hp), Room lv (A.deeper (LamX.lamEnv X scope s.heap.objs.size f c2)) → PE (LamX.lamCx X A outer s H E scope f c2) body tb)
    (hN : Ng[i]? = some a) (hv : Vis sg a) (hd : (a == ("__debug__" : Str)) = false := by decide) (hcd : (a == ("__classdict__" : Str)) = false := by decide) :
    PE ((cxOf CXg X.prog X.w X.K X.mg X.base Ng qg sg g cdg X.A X.stack s H Eg).tr pn xe) (.Call (.Name a p1) [] [] p2)
      (fun σZ HZ Q => σZ[i]? = some (some (.ref f)) ∧ HZ c2 = some (CodeT c2 (X.env.qual ++ "<lambda>") P2) ∧ tb σ HZ Q) := by
  refine ⟨fun pz sz σz Hz Q Iz ⟨h1, h2, h3⟩ => ?_⟩
  have hvar := (pe_var (pos := p1) (i := i) hN hv hd hcd).run pz sz σz Hz (fun v H1 => v = .ref f ∧ H1 = Hz) Iz ⟨.ref f, h1, rfl, rfl⟩
  refine wpAny_Call_Name_kw (thn hvar fun u s1 ⟨v, H1, I1, r1, ev, eH⟩ => ?_)
  subst ev eH
  obtain rfl : u = Value.ref f := r1
  have of1 : s1.heap.get? f = some (kla_obj "<lambda>" (X.env.qual ++ "<lambda>") params body scope (cloFrom X.env.cells scope.names []) pm c2 ctv) := I1.base.keep f _ hf hfn hfr (fun z => nomatch (show f ∈ ([] : List Addr) from z))
  obtain ⟨⟨cr, _⟩, _, _⟩ := I1.hok c2 _ h2
  have un : Un (frs X.stack) [] H H1 s.heap s1.heap := I1.base
  refine callWith_F0 ⟨_, _, _, _, of1⟩ ?_
  have run : codeAny (model X.prog X.w) (X.A.deeper (envOfC qg sg s.heap.objs.size g cdg)) (.call (.ref f) ⟨[], []⟩) (CR (L2.CX X.prog X.w) (envOfC qg sg s.heap.objs.size g cdg :: X.stack) X.prog X.w H1 s1 Q E) s1 := by
    refine kla_callFunE hr.depth of1 rfl L.co L.gen rfl cr ?_
    rw [hbind]
    refine wpAny_pure (wpAny_newFunctionEnv (fun y hy => (L.own y hy).2) (fun y hy => absurd hy (by simp)) (fun h₁ hns hsb => ⟨I1.nolimit.fresh _ hsb, ?_⟩) L.kind)
    show codeAny _ _ (.expr body (LamX.lamEnv X scope s1.heap.objs.size f c2)) _ _
    have kp1 : ∀ b o, s1.heap.get? b = some o → h₁.get? b = some o := fun b o e => hsb.extBut b o (Nat.ne_of_lt (Heap.lt_size e)) (Heap.get?_push_of_some _ e)
    have J := LamX.lam_start2 (E := E) (f := f) (c' := c2) (tk := s1.toks + ([] : List (Str × Value)).length) I L I1.env0 hr.hd un hns kp1
    exact kla_codeExpr (wpAny_mono ((hbody _ _ s1 H1 (hr.deeper _)).run [] _ _ H1 Q J h3) (fun v s' ⟨w', H', J', rv, q⟩ => ⟨w', H', J'.os, J'.bare, J'.base, J'.hok, rv, q⟩) fun e s' hq => hq)
  have hx : Passes (L2.CX X.prog X.w) ((cxOf CXg X.prog X.w X.K X.mg X.base Ng qg sg g cdg X.A X.stack s H Eg).tr pn xe) E := passes_call tk hW
  refine wpAny_call (codeAny_mono run fun r s' hq => ?_)
  match r, hq with
  | .error e, hq => exact hx pz σz H1 s1 e s' I1 hq
  | .ok (.ret u), hq => exact I1.after hq
  | .ok .next, hq => exact False.elim hq
  | .ok .brk, hq => exact False.elim hq
  | .ok .cont, hq => exact False.elim hq
end
/-- the def that calls what it got by its name a; TT: what it makes of the lambda's reading -/
def GivesT (X : Cx) (Ng : List Str) (x : Str) (sg : Scope) (g : Addr) (cdg : Value) (bg : List Stmt) (a : Str) (q : Str) (TT : (XK → Hp → VK → Prop) → Hp → VK → Prop) : Prop :=
  ∀ (f c2 P2 : Addr) (s : Shared) (H : Hp) (Q : VK) (tl : XK → Hp → VK → Prop),
    (∀ (W : WX) (pn : List (Addr × Obj)) (xe : Value → Shared → Prop) (E : XK) (p1 p2 : Pos), Takes ((cxOf C8.CX0 X.prog X.w X.K X.mg X.base Ng x sg g cdg X.A X.stack s H C8.E0).tr pn xe) W → (∀ cls d σ' H', E cls d H' → W cls d σ' H') →
      PE ((cxOf C8.CX0 X.prog X.w X.K X.mg X.base Ng x sg g cdg X.A X.stack s H C8.E0).tr pn xe) (.Call (.Name a p1) [] [] p2) (fun σZ HZ Q => σZ[0]? = some (some (.ref f)) ∧ HZ c2 = some (CodeT c2 q P2) ∧ tl E HZ Q)) →
    H c2 = some (CodeT c2 q P2) → TT tl H Q →
    ∃ t, PSs (cxOf C8.CX0 X.prog X.w X.K X.mg X.base Ng x sg g cdg X.A X.stack s H C8.E0).nox bg t ∧ t { nx := fun _ H' => Q .non H', rt := Q } (L2.start Ng [.ref f]) H
/-- what the reading of x(lambda: ..) asks: where the maker's code object is known (Pre), the tables, before and behind -/
def tLamT (mg : Str → Option Value) (Pre : Hp → Prop) (P : Addr) (q : Str) (qs : List Str) (TT : (XK → Hp → VK → Prop) → Hp → VK → Prop) (t : XK → TE) : TE := fun σ H Q => Pre H ∧ TabD mg (q :: qs) H P ∧
  ∀ H1, Grow P H H1 → TabD mg (q :: qs) H1 P → TT (fun E H' Q' => t E σ H' Q') H1 Q
section
variable {X : Cx}
theorem pe_lamT {Pre : Hp → Prop} {qs : List Str} {TT : (XK → Hp → VK → Prop) → Hp → VK → Prop} {x a : Str} {g c P : Addr} {lv : Nat} {pg : Arguments} {bg : List Stmt} {sg : Scope} {dV kV doc pm cdv ct oc : Value} {an od : Option Addr} {osl : Array (Option Value)} {Ng : List Str}
    {params : Arguments} {body : Expr} {scope : Scope} {t : XK → TE} {p lpos pos : Pos} (hg : Gl X x) (hm : X.mg x = some (.ref g)) (hk : keepIn X.K (.ref g) = true)
    (lk : X.K.lookup g = some ⟨oc, od, .func (fnOf x x pg bg sg dV kV doc pm an cdv ct), osl⟩) (hcg : codeIn X.K cdv x = true) (hb : L2.Binds X.K (fnOf x x pg bg sg dV kV doc pm an cdv ct) [a] []) (Sg : FnScope Ng [a] sg) (hNg : Ng[0]? = some a) (hva : Vis sg a)
    (hG : GivesT X Ng x sg g cdv bg a (X.env.qual ++ "<lambda>") TT)
    (src : ∀ pins σ H s, Inv X pins σ H s → Pre H → CodeHd s.heap c P ∧ s.heap.BuiltinsAt X.mg P ∧ mainGlobals ≠ P) (hcode : X.env.code = .ref c) (stab : ∀ H H1 Y, (∃ ps, H P = some (.tbl ps)) → Grow P H H1 → Y ≠ P → TabD X.mg qs H Y → TabD X.mg qs H1 Y) (hr : Room (lv + 2) X.A) (L : LamX.LamS X.env.scope scope) (hdef : defaultsOf params X.env = ([], []))
    (hbind : ∀ (q : Str) (cl : List (Str × Addr)) (pm cv ctv : Value), bindArgs (kla_fn "<lambda>" q params body scope cl pm cv ctv) ⟨[], []⟩ = pure [])
    (hbody : ∀ (A : Around) (outer : List Env) (s : Shared) (H : Hp) (E : XK) (f c2 : Addr), Room lv (A.deeper (LamX.lamEnv X scope s.heap.objs.size f c2)) → PE (LamX.lamCx X A outer s H E scope f c2) body (t E))
    (hdb : (x == ("__debug__" : Str)) = false := by decide) (hd : (a == ("__debug__" : Str)) = false := by decide) (hcd : (a == ("__classdict__" : Str)) = false := by decide) :
    PE X (.Call (.Name x p) [.Lambda params body scope lpos] [] pos) (tLamT X.mg Pre P (X.env.qual ++ "<lambda>") qs TT t) := by
  refine ⟨fun pins s σ H Q I ⟨hpre, hT, h⟩ => ?_⟩
  obtain ⟨sC, sB, sP⟩ := src pins σ H s I hpre
  have htb : ∃ ps, H P = some (.tbl ps) := by
    obtain ⟨ps, h1, _⟩ := hT
    exact ⟨ps, h1⟩
  refine wpAny_Call_Name_kw (ld_glob I hg hm ?_ hdb)
  refine callWith_K (h₀ := X.base) I.ok.mod.kin hk ?_ (by rfl) (by rfl)
  show wpAny _ _ (spliced ((false, eval (.Lambda params body scope lpos) X.env) :: backTo pos (starEach [] X.env))) _ _ s
  refine Calls.spliced_cons (lam_makeT I sC sP sB hcode hT (fun H1 Y => stab H H1 Y htb) hdef (L.has I.ok) fun f c2 P2 pm2 ctv H1 s1 I1 gr T1 hf hfn hfr hco _ _ _ => ?_)
  refine Calls.spliced_nil ⟨I1.kIn, ?_⟩
  have run : codeAny (model X.prog X.w) X.A (.call (.ref g) ⟨[.ref f], []⟩) (CR C8.CX0 X.stack X.prog X.w H1 s1 Q C8.E0) s1 := by
    refine LamX.run_ofS (N := Ng) (ps := [a]) (us := [.ref f]) (vs := [.ref f]) lk hcg Sg hr I1.env0 (hb s1 [.ref f] I1.kIn rfl) (.cons rfl .nil) rfl fun hr2 => ?_
    obtain ⟨t2, ht2, hq2⟩ := hG f c2 P2 s1 H1 Q (fun E H' Q' => t E σ H' Q') (fun W pn xe E p1 p2 tk hW => pe_actT (i := 0) I1 L hf hfn hfr (hbind _ _ _ _ _) tk hW hr2 (fun A outer s H hr3 => hbody A outer s H E f c2 hr3) hNg hva hd hcd) hco (h H1 gr T1)
    exact ⟨t2, ht2.nox, hq2⟩
  refine wpAny_call (codeAny_mono run fun r s2 hq => ?_)
  match r, hq with
  | .error e, hq => exact (show False from hq).elim
  | .ok (.ret u), hq => exact I1.after hq
  | .ok .next, hq => exact False.elim hq
  | .ok .brk, hq => exact False.elim hq
  | .ok .cont, hq => exact False.elim hq
end
/-! ### a lambda with parameters, that captures nothing of the def around it -/
theorem run_lam {CX : CXT} {P : Program} {w : World} {K : Frag} {mg : Str → Option Value} {base : Heap} {lv : Nat} {f c2 : Addr} {qual : Str} {params : Arguments} {body : Expr} {scope : Scope} {pm ctv : Value} {N ps : List Str} {tb : TE} {A : Around} {outer : List Env} {s : Shared} {H : Hp} {us : List Value} {vs : List V} {Q : VK} {E : XK}
    (of1 : s.heap.get? f = some (kla_obj "<lambda>" qual params body scope [] pm c2 ctv)) (cr : s.heap.CodeRec (.ref c2) qual) (S : FnScope N ps scope) (hr : Room (lv + 1) A) (e0 : Env0 P w K mg base A outer s H)
    (hbind : bindArgs (kla_fn "<lambda>" qual params body scope [] pm (.ref c2) ctv) ⟨us, []⟩ = pure (ps.zip us)) (r : Vals vs us) (hl : vs.length = ps.length)
    (hbody : Room lv (A.deeper (envOfC qual scope s.heap.objs.size f (.ref c2))) → PE (cxOf CX P w K mg base N qual scope f (.ref c2) A outer s H E) body tb) (h : tb (L2.start N vs) H Q) :
    codeAny (model P w) A (.call (.ref f) ⟨us, []⟩) (CR CX outer P w H s Q E) s := by
  have lim : s.heap.NoLimit := e0.mod.nolimit.keeps fun b o e => (e0.bs b o e).1
  have hkind : ∀ y ∈ ps.zip us, scope.names.lookup y.1 = some .local ∨ (scope.names.lookup y.1 = some .cell ∧ ((cellsFrom (s.heap.objs.size + 1) scope.names []).lookup y.1).isSome = true) := fun y hy =>
    (S.par y.1 (List.of_mem_zip (a := y.1) (b := y.2) hy).1).elim .inl fun z => .inr ⟨z, cellsFrom_some _ _ _ (.inl z)⟩
  refine kla_callFunE hr.depth of1 rfl S.co S.gen rfl cr ?_
  rw [hbind]
  refine wpAny_pure (wpAny_newFunctionEnv_cells S.kind hkind fun env he s1 x => ?_)
  subst he
  have J : Inv (cxOf CX P w K mg base N qual scope f (.ref c2) A outer s H E) [] (L2.start N vs) H s1 := inv_start S hr.hd e0 hl r x
  refine ⟨lim.keeps x.toInCall.keep, kla_codeExpr (wpAny_mono ((hbody (hr.deeper _)).run [] s1 _ H Q J h) (fun v s' ⟨w', H', J', rv, q⟩ => ⟨w', H', J'.os, J'.bare, J'.base, J'.hok, rv, q⟩) fun e s' hq => hq)⟩
section
variable {X : Cx} {pins : List (Addr × Obj)} {σ : L2.St} {H : Hp} {s : Shared}
/-- a(e), in the def that got such a lambda -/
theorem pe_act1 {CXg : CXT} {Eg : XK} {Ng : List Str} {qg : Str} {sg : Scope} {g f c2 P2 : Addr} {cdg pm ctv : Value} {qual : Str} {params : Arguments} {body e : Expr} {scope : Scope} {lv i : Nat} {a b : Str} {N : List Str} {te tb : TE} {p1 p2 : Pos}
    (I : Inv X pins σ H s) (hf : s.heap.get? f = some (kla_obj "<lambda>" qual params body scope [] pm c2 ctv)) (hfn : H f = none) (hfr : f ∉ frs X.stack) (S : FnScope N [b] scope)
    (hbind : ∀ u : Value, bindArgs (kla_fn "<lambda>" qual params body scope [] pm (.ref c2) ctv) ⟨[u], []⟩ = pure [(b, u)]) (hr : Room (lv + 1) (X.A.deeper (envOfC qg sg s.heap.objs.size g cdg)))
    (he : PE (cxOf CXg X.prog X.w X.K X.mg X.base Ng qg sg g cdg X.A X.stack s H Eg) e te)
    (hbody : ∀ (A : Around) (outer : List Env) (s : Shared) (H : Hp), Room lv (A.deeper (envOfC qual scope s.heap.objs.size f (.ref c2))) → PE (cxOf C8.CX0 X.prog X.w X.K X.mg X.base N qual scope f (.ref c2) A outer s H C8.E0) body tb)
    (hN : Ng[i]? = some a) (hv : Vis sg a) (hd : (a == ("__debug__" : Str)) = false := by decide) (hcd : (a == ("__classdict__" : Str)) = false := by decide)
    (hs : starEach [e] (cxOf CXg X.prog X.w X.K X.mg X.base Ng qg sg g cdg X.A X.stack s H Eg).env = (false, eval e (cxOf CXg X.prog X.w X.K X.mg X.base Ng qg sg g cdg X.A X.stack s H Eg).env) :: starEach [] (cxOf CXg X.prog X.w X.K X.mg X.base Ng qg sg g cdg X.A X.stack s H Eg).env := by rfl) :
    PE (cxOf CXg X.prog X.w X.K X.mg X.base Ng qg sg g cdg X.A X.stack s H Eg) (.Call (.Name a p1) [e] [] p2)
      (fun σZ HZ Q => σZ[i]? = some (some (.ref f)) ∧ te σZ HZ fun v H1 => H1 c2 = some (CodeT c2 qual P2) ∧ tb (L2.start N [v]) H1 Q) := by
  refine ⟨fun pz sz σz Hz Q Iz ⟨h1, h2⟩ => ?_⟩
  have hvar := (pe_var (pos := p1) (i := i) hN hv hd hcd).run pz sz σz Hz (fun v H1 => v = .ref f ∧ H1 = Hz) Iz ⟨.ref f, h1, rfl, rfl⟩
  refine wpAny_Call_Name_kw (thn hvar fun u s1 ⟨v, H1, I1, r1, ev, eH⟩ => ?_)
  subst ev eH
  obtain rfl : u = Value.ref f := r1
  have at_ : ∀ {s2 : Shared} {H2 : Hp}, Inv (cxOf CXg X.prog X.w X.K X.mg X.base Ng qg sg g cdg X.A X.stack s H Eg) pz σz H2 s2 → s2.heap.get? f = some (kla_obj "<lambda>" qual params body scope [] pm c2 ctv) := fun {s2 H2} I2 =>
    I2.base.keep f _ hf hfn hfr (fun z => nomatch (show f ∈ ([] : List Addr) from z))
  have hpa := (pa_cons he pa_nil hs).run p2 pz s1 σz H1 (fun vs H2 => match vs with
    | [v] => H2 c2 = some (CodeT c2 qual P2) ∧ tb (L2.start N [v]) H2 Q
    | _ => False) I1
  refine callWith_F ⟨_, _, _, _, at_ I1⟩ (thn (hpa h2) fun us s2 ⟨vs, H2, I2, r, hm⟩ => ⟨⟨_, _, _, _, at_ I2⟩, ?_⟩) hs rfl
  match vs, r, hm with
  | [v], r, ⟨hc, hq⟩ =>
    obtain ⟨⟨cr, _⟩, _, _⟩ := I2.hok c2 _ hc
    have hus : ∃ u, us = [u] := by
      cases r with
      | cons r1 rr =>
        cases rr
        exact ⟨_, rfl⟩
    obtain ⟨u, rfl⟩ := hus
    have run := run_lam (CX := C8.CX0) (E := C8.E0) (Q := Q) (at_ I2) cr S hr I2.env0 (hbind u) r rfl (fun hr2 => hbody _ _ s2 H2 hr2) hq
    refine wpAny_call (codeAny_mono run fun r s' hq => ?_)
    match r, hq with
    | .error e, hq => exact (show False from hq).elim
    | .ok (.ret u), hq => exact I2.after hq
    | .ok .next, hq => exact False.elim hq
    | .ok .brk, hq => exact False.elim hq
    | .ok .cont, hq => exact False.elim hq
end
/-- the def that calls what it got with one thing; TT: what it makes of the reading -/
def GivesT1 (X : Cx) (Ng : List Str) (x : Str) (sg : Scope) (g : Addr) (cdg : Value) (bg : List Stmt) (a : Str) (q : Str) (TT : Addr → Addr → (V → Hp → VK → Prop) → Hp → VK → Prop) : Prop :=
  ∀ (f c2 P2 : Addr) (s : Shared) (H : Hp) (Q : VK) (tl : V → Hp → VK → Prop),
    (∀ (e : Expr) (te : TE) (p1 p2 : Pos), PE (cxOf C8.CX0 X.prog X.w X.K X.mg X.base Ng x sg g cdg X.A X.stack s H C8.E0) e te →
      (starEach [e] (cxOf C8.CX0 X.prog X.w X.K X.mg X.base Ng x sg g cdg X.A X.stack s H C8.E0).env = (false, eval e (cxOf C8.CX0 X.prog X.w X.K X.mg X.base Ng x sg g cdg X.A X.stack s H C8.E0).env) :: starEach [] (cxOf C8.CX0 X.prog X.w X.K X.mg X.base Ng x sg g cdg X.A X.stack s H C8.E0).env) →
      PE (cxOf C8.CX0 X.prog X.w X.K X.mg X.base Ng x sg g cdg X.A X.stack s H C8.E0) (.Call (.Name a p1) [e] [] p2) (fun σZ HZ Q => σZ[0]? = some (some (.ref f)) ∧ te σZ HZ fun v H1 => H1 c2 = some (CodeT c2 q P2) ∧ tl v H1 Q)) →
    H c2 = some (CodeT c2 q P2) → TT c2 P2 tl H Q →
    ∃ t, PSs (cxOf C8.CX0 X.prog X.w X.K X.mg X.base Ng x sg g cdg X.A X.stack s H C8.E0) bg t ∧ t { nx := fun _ H' => Q .non H', rt := Q } (L2.start Ng [.ref f]) H
def tLamT1 (mg : Str → Option Value) (Pre : Hp → Prop) (P : Addr) (q : Str) (qs : List Str) (N : List Str) (TT : Addr → Addr → (V → Hp → VK → Prop) → Hp → VK → Prop) (tb : Addr → Addr → TE) : TE := fun _ H Q => Pre H ∧ TabD mg (q :: qs) H P ∧
  ∀ H1 c2 P2, Grow P H H1 → TabD mg (q :: qs) H1 P → P2 ≠ P → TabD mg qs H1 P2 → Good mg P2 → H1 c2 = some (CodeT c2 q P2) → TT c2 P2 (fun v H' Q' => tb c2 P2 (L2.start N [v]) H' Q') H1 Q
section
variable {X : Cx}
theorem pe_lamT1 {Pre : Hp → Prop} {qs : List Str} {TT : Addr → Addr → (V → Hp → VK → Prop) → Hp → VK → Prop} {x a b : Str} {g c P : Addr} {lv : Nat} {pg : Arguments} {bg : List Stmt} {sg : Scope} {dV kV doc pm cdv ct oc : Value} {an od : Option Addr} {osl : Array (Option Value)} {Ng N : List Str}
    {params : Arguments} {body : Expr} {scope : Scope} {tb : Addr → Addr → TE} {p lpos pos : Pos} (hg : Gl X x) (hm : X.mg x = some (.ref g)) (hk : keepIn X.K (.ref g) = true)
    (lk : X.K.lookup g = some ⟨oc, od, .func (fnOf x x pg bg sg dV kV doc pm an cdv ct), osl⟩) (hcg : codeIn X.K cdv x = true) (hb : L2.Binds X.K (fnOf x x pg bg sg dV kV doc pm an cdv ct) [a] []) (Sg : FnScope Ng [a] sg) (hNg : Ng[0]? = some a) (hva : Vis sg a)
    (hG : GivesT1 X Ng x sg g cdv bg a (X.env.qual ++ "<lambda>") TT)
    (src : ∀ pins σ H s, Inv X pins σ H s → Pre H → CodeHd s.heap c P ∧ s.heap.BuiltinsAt X.mg P ∧ mainGlobals ≠ P) (hcode : X.env.code = .ref c) (stab : ∀ H H1 Y, (∃ ps, H P = some (.tbl ps)) → Grow P H H1 → Y ≠ P → TabD X.mg qs H Y → TabD X.mg qs H1 Y) (hr : Room (lv + 2) X.A) (S : FnScope N [b] scope) (hcl : cloFrom X.env.cells scope.names [] = []) (hfree : ∀ y ∈ scope.names, y.2 ≠ .free) (hdef : defaultsOf params X.env = ([], []))
    (hbind : ∀ (q : Str) (pm cv ctv u : Value), bindArgs (kla_fn "<lambda>" q params body scope [] pm cv ctv) ⟨[u], []⟩ = pure [(b, u)])
    (hbody : ∀ (A : Around) (outer : List Env) (s : Shared) (H : Hp) (f c2 P2 : Addr), Room lv (A.deeper (envOfC (X.env.qual ++ "<lambda>") scope s.heap.objs.size f (.ref c2))) → PE (cxOf C8.CX0 X.prog X.w X.K X.mg X.base N (X.env.qual ++ "<lambda>") scope f (.ref c2) A outer s H C8.E0) body (tb c2 P2))
    (hdb : (x == ("__debug__" : Str)) = false := by decide) (hd : (a == ("__debug__" : Str)) = false := by decide) (hcd : (a == ("__classdict__" : Str)) = false := by decide) :
    PE X (.Call (.Name x p) [.Lambda params body scope lpos] [] pos) (tLamT1 X.mg Pre P (X.env.qual ++ "<lambda>") qs N TT tb) := by
  refine ⟨fun pins s σ H Q I ⟨hpre, hT, h⟩ => ?_⟩
  obtain ⟨sC, sB, sP⟩ := src pins σ H s I hpre
  have htb : ∃ ps, H P = some (.tbl ps) := by
    obtain ⟨ps, h1, _⟩ := hT
    exact ⟨ps, h1⟩
  refine wpAny_Call_Name_kw (ld_glob I hg hm ?_ hdb)
  refine callWith_K (h₀ := X.base) I.ok.mod.kin hk ?_ (by rfl) (by rfl)
  show wpAny _ _ (spliced ((false, eval (.Lambda params body scope lpos) X.env) :: backTo pos (starEach [] X.env))) _ _ s
  refine Calls.spliced_cons (lam_makeT I sC sP sB hcode hT (fun H1 Y => stab H H1 Y htb) hdef (fun y hy z => absurd z (hfree y hy)) fun f c2 P2 pm2 ctv H1 s1 I1 gr T1 hf hfn hfr hco n2 t2 gd => ?_)
  rw [hcl] at hf
  refine Calls.spliced_nil ⟨I1.kIn, ?_⟩
  have run : codeAny (model X.prog X.w) X.A (.call (.ref g) ⟨[.ref f], []⟩) (CR C8.CX0 X.stack X.prog X.w H1 s1 Q C8.E0) s1 := by
    refine LamX.run_ofS (N := Ng) (ps := [a]) (us := [.ref f]) (vs := [.ref f]) lk hcg Sg hr I1.env0 (hb s1 [.ref f] I1.kIn rfl) (.cons rfl .nil) rfl fun hr2 => ?_
    exact hG f c2 P2 s1 H1 Q (fun v H' Q' => tb c2 P2 (L2.start N [v]) H' Q') (fun e te p1 p2 he hs => pe_act1 (i := 0) (P2 := P2) I1 hf hfn hfr S (fun u => hbind _ _ _ _ u) hr2 he (fun A outer s H hr3 => hbody A outer s H f c2 P2 hr3) hNg hva hd hcd hs) hco (h H1 c2 P2 gr T1 n2 t2 gd hco)
  refine wpAny_call (codeAny_mono run fun r s2 hq => ?_)
  match r, hq with
  | .error e, hq => exact (show False from hq).elim
  | .ok (.ret u), hq => exact I1.after hq
  | .ok .next, hq => exact False.elim hq
  | .ok .brk, hq => exact False.elim hq
  | .ok .cont, hq => exact False.elim hq
end
end Lm

namespace K07
open PySem PySem.Spec PyProof.Rows L2 Sq Dt Exs
/-! ### what is kept while one table of lambdas grows -/
/-- all but the table -/
def w1 (T : Addr) (H : Hp) : Hp := fun b => if b = T then none else H b
section
variable {T : Addr} {H H' : Hp}
theorem w1_to : Evl.Ex (w1 T H) H := fun b o h => by
  unfold w1 at h
  split at h
  · cases h
  · exact h
theorem w1_at {b : Addr} {o : HO} (h : H b = some o) (h1 : b ≠ T) : w1 T H b = some o := by
  unfold w1
  rw [if_neg h1]
  exact h
theorem w1_ex (e : Evl.Ex H H') : Evl.Ex (w1 T H) (w1 T H') := fun b o h => by
  unfold w1 at h ⊢
  split at h
  · cases h
  · rename_i z
    rw [if_neg z]
    exact e _ _ h
theorem w1_grow (e : Lm.Grow T H H') : Evl.Ex (w1 T H) (w1 T H') := fun b o h => by
  unfold w1 at h ⊢
  split at h
  · cases h
  · rename_i z
    rw [if_neg z]
    exact e _ _ z h
end
/-- all but lists stays -/
def Kl (H H' : Hp) : Prop := ∀ b o, H b = some o → (∀ xs, o ≠ .lst xs) → H' b = some o
theorem Kl.ex {H H' : Hp} (e : Evl.Ex H H') : Kl H H' := fun b o h _ => e b o h
theorem Kl.upd {F : Addr} {xs ys : List V} {H : Hp} (h : H F = some (.lst xs)) : Kl H (L2.upd H F (.lst ys)) := fun b o e nl => by
  rw [upd_ne (fun z => by rw [z, h] at e; exact nl _ (Option.some.inj e).symm)]
  exact e
theorem codeT_nl {c P2 : Addr} {q : Str} (xs : List V) : Lm.CodeT c q P2 ≠ .lst xs := fun z => by
  unfold Lm.CodeT at z
  cases z
theorem tabD_kl {mg : Str → Option Value} : ∀ (qs : List Str) {H H' : Hp} {P : Addr}, Lm.TabD mg qs H P → Kl H H' → Lm.TabD mg qs H' P
  | [], _, _, _, _, _ => True.intro
  | q :: qs, H, H', P, ⟨ps, h1, h2, h3⟩, k => ⟨ps, k _ _ h1 (fun xs z => by cases z), h2, fun pos cv hc => by
    obtain ⟨c, P2, e1, e2, e3, e4, e5⟩ := h3 pos cv hc
    exact ⟨c, P2, e1, k _ _ e2 (fun xs => codeT_nl xs), e3, tabD_kl qs e4 k, e5⟩⟩
/-- the table, all else -/
structure Wt (mg : Str → Option Value) (q : Str) (T : Addr) (H0 H : Hp) : Prop where
  tab : Lm.TabD mg [q] H T
  k : Evl.Ex (w1 T H0) (w1 T H)
section
variable {mg : Str → Option Value} {q : Str} {T : Addr} {H0 H H' : Hp}
theorem Wt.pt (M : Wt mg q T H0 H) : ∃ ps, H T = some (.tbl ps) := by
  obtain ⟨ps, h, _⟩ := M.tab
  exact ⟨ps, h⟩
theorem Wt.get (M : Wt mg q T H0 H) {b : Addr} {o : HO} (h : w1 T H0 b = some o) : H b = some o := w1_to _ _ (M.k _ _ h)
theorem Wt.ne (M : Wt mg q T H0 H) {b : Addr} (h : H b = none) : b ≠ T := by
  obtain ⟨ps, hp⟩ := M.pt
  exact fun z => by rw [z, hp] at h; cases h
theorem Wt.ex (M : Wt mg q T H0 H) (e : Evl.Ex H H') : Wt mg q T H0 H' := ⟨tabD_kl _ M.tab (Kl.ex e), M.k.trans (w1_ex e)⟩
theorem Wt.grow (M : Wt mg q T H0 H) (g : Lm.Grow T H H') (t : Lm.TabD mg [q] H' T) : Wt mg q T H0 H' := ⟨t, M.k.trans (w1_grow g)⟩
theorem Wt.mut {F : Addr} {xs ys : List V} (M : Wt mg q T H0 H) (hF : H F = some (.lst xs)) (h3 : H0 F = none) : Wt mg q T H0 (upd H F (.lst ys)) := by
  refine ⟨tabD_kl _ M.tab (Kl.upd hF), fun b o h => ?_⟩
  have hb : b ≠ F := fun z => by
    have := w1_to _ _ h
    rw [z, h3] at this
    cases this
  have := M.k _ _ h
  unfold w1 at this ⊢
  split at this
  · cases this
  · rename_i z
    rw [if_neg z, upd_ne hb]
    exact this
theorem Wt.start (t : Lm.TabD mg [q] H T) : Wt mg q T H H := ⟨t, fun _ _ h => h⟩
theorem Wt.now (M : Wt mg q T H0 H) : Wt mg q T H H := .start M.tab
theorem Wt.trans {H1 : Hp} (M : Wt mg q T H0 H1) (N : Wt mg q T H1 H) : Wt mg q T H0 H := ⟨N.tab, M.k.trans N.k⟩
end
section
variable {P : Program} {w : World} {K : PySem.W.Frag} {mg : Str → Option Value} {base : Heap}
theorem okCd {x qual : Str} {params : Arguments} {body : List Stmt} {scope : Scope} {dvs : List V} {kws : List (Str × V)} {f c : Addr} {fd : FuncData} {CX : CXT} {N ps : List Str} {k : Nat} {sp : Sp} (F : FunD K x qual params body scope dvs kws f fd) (hc : fd.code = .ref c) (S : FnScope N ps scope) (len : ∀ vs H Q E, sp vs H Q E → vs.length = ps.length)
    (hbody : ∀ (A : Around) (outer : List Env) (s : Shared) (H : Hp) (vs : List V) (Q : VK) (E : XK), Room k (A.deeper (envOfC qual scope s.heap.objs.size f (.ref c))) → sp vs H Q E →
      ∃ t, PSs (cxOf CX P w K mg base N qual scope f (.ref c) A outer s H E) body t ∧ t { nx := fun _ H' => Q .non H', rt := Q } (start N vs) H) : FnOk P w K mg base CX (k + 1) f fd ps sp := by
  obtain ⟨oc, od, dV, kV, doc, pm, an, cdv, ct, osl, rfl, lk, hcd, _, _⟩ := F.ex
  obtain rfl : cdv = .ref c := hc
  exact fn_of lk hcd S len fun A outer s H vs Q E hr hsp => hbody A outer s H vs Q E hr hsp
theorem strs_smX {H : Hp} {n : Nat} : ∀ l : List Str, Paired (Sm H (n + 1)) (l.map V.str) (l.map V.str)
  | [] => .nil
  | _ :: r => .cons (.inl ⟨rfl, rfl⟩) (strs_smX r)
end
end K07

/-! xs.count(text); sorted lists of texts are one; dict of pairs. Law-independent. -/
namespace Dk
open PySem PySem.Spec PyProof.Rows L2
def eqs (z : Str) (v : Value) : Bool := match v with
  | .str y _ => y == z
  | _ => false
theorem eqs_at {z : Str} {t : Tok} {A : Around} {s : Shared} : ∀ {ys : List Str} {us : List Value}, Vals (ys.map V.str) us → ∀ y ∈ us, SeqAt.EqAt A s y (.str z t) (eqs z y)
  | [], _, .nil, y, hy => by cases hy
  | a :: r, _, .cons h1 h2, y, hy => by
    rcases List.mem_cons.mp hy with e | e
    · obtain ⟨u, hu⟩ := h1
      rw [e, hu]
      exact SeqAt.EqAt.str_str a u z t
    · exact eqs_at h2 y e
theorem eqs_count {z : Str} : ∀ {ys : List Str} {us : List Value}, Vals (ys.map V.str) us → us.countP (eqs z) = ys.count z
  | [], _, .nil => rfl
  | a :: r, _, .cons h1 h2 => by
    obtain ⟨u, rfl⟩ := h1
    have ih := eqs_count (z := z) h2
    rw [List.countP_cons, List.count_cons, ih] <;> rfl
theorem paired_app {α β : Type} {R : α → β → Prop} : ∀ {xs : List α} {ys : List β} {zs : List α} {ws : List β}, Paired R xs ys → Paired R zs ws → Paired R (xs ++ zs) (ys ++ ws)
  | [], [], _, _, .nil, h => h
  | _ :: _, _ :: _, _, _, .cons a b, h => .cons a (paired_app b h)
def rCntS (K : PySem.W.Frag) : V → List V → Hp → VK → Prop := fun x xs H Q => ∃ (p : Addr) (ys : List Str) (z : Str), x = .ref p ∧ xs = [.str z] ∧ SqL K H p (ys.map V.str) ∧ Q (.int (ys.count z : Nat)) H
theorem mt_lcountS {X : Cx} : MtR X "list.count" (rCntS X.K) := by
  intro pins s σ H x xs v us Q I rx rxs h
  obtain ⟨p, ys, z, rfl, rfl, hs, q⟩ := h
  cases rx
  obtain ⟨u, rfl, ru⟩ := rxs.one
  obtain ⟨t, rfl⟩ := ru
  obtain ⟨its, rv, ⟨⟨cls, dd, data, sl⟩, n, ho, hc, hdn, hd⟩, hlen⟩ := I.list hs
  simp only at hc hd
  subst hc hd
  refine call_meets PySem.F.slot_list_count ⟨_, ho, rfl⟩ PySem.F.entry_list_count (PySem.F.args_list_count_2 _ _)
    (SeqAt.list_countAt p its.toArray n dd sl (.str z t) (eqs z)) ⟨ho, fun y hy => eqs_at rv y (by simpa using hy), ?_⟩
  have ec : its.toArray.toList.countP (eqs z) = ys.count z := eqs_count rv
  refine ⟨.int (ys.count z : Nat), H, I.tok _, ⟨s.toks, ?_⟩, q⟩
  show Value.int ((its.toArray.toList.countP (eqs z) : Nat) : Int) s.toks = _
  rw [ec]
theorem sorted_pw : ∀ {l : List Str}, sortedS l = true → l.Pairwise fun a b => Srs.ltT b a = false
  | [], _ => .nil
  | [a], _ => .cons (fun _ h => by simp at h) .nil
  | a :: b :: r, h => by
    unfold sortedS at h
    obtain ⟨h1, h2⟩ := Bool.and_eq_true_iff.mp h
    have ih := sorted_pw (l := b :: r) h2
    have hab : Srs.ltT b a = false := by
      rw [ltCps_eq] at h1
      simpa [Srs.ltT] using h1
    refine .cons (fun c hc => ?_) ih
    rcases List.mem_cons.mp hc with rfl | hc
    · exact hab
    · have hbc := (List.pairwise_cons.mp ih).1 c hc
      cases h3 : Srs.ltT c a with
      | false => rfl
      | true =>
        exfalso
        cases h4 : Srs.ltT a b with
        | true =>
          rw [Srs.ltT_tr h3 h4] at hbc
          cases hbc
        | false =>
          have := Srs.ltT_tot h4 hab
          subst this
          rw [h3] at hbc
          cases hbc
theorem sorted_one : ∀ {l m : List Str}, l.Pairwise (fun a b => Srs.ltT b a = false) → m.Pairwise (fun a b => Srs.ltT b a = false) → l.Perm m → l = m
  | [], m, _, _, p => (List.Perm.nil_eq p)
  | a :: r, [], _, _, p => by have := p.length_eq; simp at this
  | a :: r, b :: t, h1, h2, p => by
    have e : a = b := by
      have ha := p.mem_iff.mp (List.mem_cons_self (a := a) (l := r))
      have hb := p.mem_iff.mpr (List.mem_cons_self (a := b) (l := t))
      rcases List.mem_cons.mp ha with e | ha
      · exact e
      · rcases List.mem_cons.mp hb with e | hb
        · exact e.symm
        · exact Srs.ltT_tot ((List.pairwise_cons.mp h2).1 a ha) ((List.pairwise_cons.mp h1).1 b hb)
    subst e
    rw [sorted_one (List.pairwise_cons.mp h1).2 (List.pairwise_cons.mp h2).2 (p.cons_inv)]
theorem sortedS_one {l m : List Str} (h1 : sortedS l = true) (h2 : sortedS m = true) (p : l.Perm m) : l = m := sorted_one (sorted_pw h1) (sorted_pw h2) p
theorem merge_tab {g : Str → V} : ∀ (l acc : List Str), (acc ++ l).Nodup → mergeK (tab acc g) (tab l g) = tab (acc ++ l) g
  | [], acc, _ => by rw [List.append_nil]; rfl
  | a :: r, acc, h => by
    have ha : a ∉ acc := fun z => by
      have := (List.nodup_append.mp h).2.2 a z a List.mem_cons_self
      exact this rfl
    show mergeK (putK (tab acc g) (Sum.inr a) (g a)) (tab r g) = _
    rw [put_new ha]
    have e : tab (acc ++ [a]) (fun y => if y = a then g a else g y) = tab (acc ++ [a]) g := tab_congr fun x _ => by
      split
      · rename_i e; rw [e]
      · rfl
    rw [e, merge_tab r (acc ++ [a]) (by rw [List.append_assoc]; exact h), List.append_assoc]
    rfl
end Dk

namespace K07
open PySem PySem.Spec PyProof.Rows L2 Tr Sq Dk Exs
/-! ### the heap less the stream; _law_odd_run -/
def ho (p c : Addr) (H : Hp) : Hp := fun b => if b = p ∨ b = c then none else H b
section
variable {p c : Addr} {H H' : Hp}
theorem ho_to : Evl.Ex (ho p c H) H := fun b o h => by
  unfold ho at h
  split at h
  · cases h
  · exact h
theorem ho_at {b : Addr} {o : HO} (h : H b = some o) (h1 : b ≠ p) (h2 : b ≠ c) : ho p c H b = some o := by
  unfold ho
  rw [if_neg (fun z => by rcases z with z | z <;> contradiction)]
  exact h
theorem ho_ex (e : Evl.Ex H H') : Evl.Ex (ho p c H) (ho p c H') := fun b o h => by
  unfold ho at h ⊢
  split at h
  · cases h
  · rename_i z
    rw [if_neg z]
    exact e _ _ h
theorem ho_kp (e : Kp p c H H') : Evl.Ex (ho p c H) (ho p c H') := fun b o h => by
  unfold ho at h ⊢
  split at h
  · cases h
  · rename_i z
    rw [if_neg z]
    exact e _ _ h (fun q => z (.inl q)) (fun q => z (.inr q))
end
/-- the stream, all else that was there -/
structure W0 (p c : Addr) (H0 : Hp) (n : Nat) (H : Hp) : Prop where
  str : StrAt H p c n
  k : Kp p c H0 H
section
variable {p c : Addr} {H0 H H' : Hp} {n n' : Nat}
theorem W0.ex (M : W0 p c H0 n H) (e : Evl.Ex H H') : W0 p c H0 n H' := ⟨M.str.keep e, fun b o h h1 h2 => e _ _ (M.k b o h h1 h2)⟩
theorem W0.kp (M : W0 p c H0 n H) (e : Kp p c H H') (s : StrAt H' p c n') : W0 p c H0 n' H' := ⟨s, M.k.trans e⟩
theorem W0.at_ (M : W0 p c H0 n H) {b : Addr} {o : HO} (h : H b = none) : ho p c (upd H b o) b = some o := ho_at upd_same (M.str.ne h).1 (M.str.ne h).2
end
end K07

namespace K07
open PySem PySem.Spec PyProof.Rows L2 Tr Sq Dk Exs
/-- all but the stream and the table -/
def wo (p c T : Addr) (H : Hp) : Hp := fun b => if b = p ∨ b = c ∨ b = T then none else H b
section
variable {p c T : Addr} {H H' : Hp}
theorem wo_to : Evl.Ex (wo p c T H) H := fun b o h => by
  unfold wo at h
  split at h
  · cases h
  · exact h
theorem wo_at {b : Addr} {o : HO} (h : H b = some o) (h1 : b ≠ p) (h2 : b ≠ c) (h3 : b ≠ T) : wo p c T H b = some o := by
  unfold wo
  rw [if_neg (fun z => by rcases z with z | z | z <;> contradiction)]
  exact h
theorem wo_ex (e : Evl.Ex H H') : Evl.Ex (wo p c T H) (wo p c T H') := fun b o h => by
  unfold wo at h ⊢
  split at h
  · cases h
  · rename_i z
    rw [if_neg z]
    exact e _ _ h
theorem wo_kp (e : Kp p c H H') : Evl.Ex (wo p c T H) (wo p c T H') := fun b o h => by
  unfold wo at h ⊢
  split at h
  · cases h
  · rename_i z
    rw [if_neg z]
    exact e _ _ h (fun q => z (.inl q)) (fun q => z (.inr (.inl q)))
end
theorem Pl.ne_new {H : Hp} {x : V} {n : String} {d : Addr} (h : Pl H x n) (hd : H d = none) : x ≠ .ref d := fun z => by
  subst z
  cases h with
  | lst h => rw [hd] at h; cases h
  | tup h => rw [hd] at h; cases h
  | frt h => rw [hd] at h; cases h
  | dic h => rw [hd] at h; cases h
  | dct h => rw [hd] at h; cases h
theorem wo_upd {p c T : Addr} {H : Hp} {o : HO} : wo p c T (upd H T o) = wo p c T H := by
  funext b
  unfold wo
  by_cases h : b = p ∨ b = c ∨ b = T
  · rw [if_pos h, if_pos h]
  · rw [if_neg h, if_neg h, upd_ne (fun z => h (.inr (.inr z)))]
theorem upd_comm {H : Hp} {a b : Addr} {o u : HO} (h : a ≠ b) : upd (upd H a o) b u = upd (upd H b u) a o := by
  funext x
  by_cases h1 : x = a
  · rw [h1, upd_ne h, upd_same, upd_same]
  · by_cases h2 : x = b
    · rw [h2, upd_same, upd_ne h.symm, upd_same]
    · rw [upd_ne h2, upd_ne h1, upd_ne h1, upd_ne h2]
/-! ### what is gathered in a list, beside facts that stay -/
theorem wo_ho {p c so : Addr} {H : Hp} : Evl.Ex (wo p c so H) (ho p c H) := fun b o h => by
  unfold wo at h
  split at h
  · cases h
  · rename_i z
    exact ho_at h (fun q => z (.inl q)) (fun q => z (.inr (.inl q)))
theorem wo_of {p c so : Addr} {H : Hp} {b : Addr} {o : HO} (h : ho p c H b = some o) (n : b ≠ so) : wo p c so H b = some o := by
  have h2 := ho_to _ _ h
  refine wo_at h2 (fun z => ?_) (fun z => ?_) n
  · rw [z] at h
    unfold ho at h
    rw [if_pos (.inl rfl)] at h
    cases h
  · rw [z] at h
    unfold ho at h
    rw [if_pos (.inr rfl)] at h
    cases h
theorem ho_wo {p c so : Addr} {H : Hp} {o : HO} (h : H so = none) : Evl.Ex (ho p c H) (wo p c so (upd H so o)) := fun b u e => by
  have hb : b ≠ so := fun z => by
    have := ho_to _ _ e
    rw [z, h] at this
    cases this
  rw [wo_upd]
  exact wo_of e hb
structure GB (B : Hp → V → Prop) (F : Hp → Prop) (H : Hp) (p c so : Addr) (m : Nat) (xs : List V) (Hc : Hp) : Prop where
  str : StrAt Hc p c m
  kp : Kp p c H Hc
  new : H so = none
  np : so ≠ p
  nc : so ≠ c
  at_ : Hc so = some (.lst xs)
  bad : ∀ x ∈ xs, B (wo p c so Hc) x
  fac : F (wo p c so Hc)
section
variable {B : Hp → V → Prop} {F : Hp → Prop} {H Hc Hd : Hp} {p c so : Addr} {m m' : Nat} {xs ys : List V}
theorem paired_drop {α β : Type} {R : α → β → Prop} : ∀ (n : Nat) {l : List α} {k : List β}, Paired R l k → Paired R (l.drop n) (k.drop n)
  | 0, _, _, h => h
  | _ + 1, _, _, .nil => .nil
  | n + 1, _, _, .cons _ t => paired_drop n t
theorem GB.ex (hB : ∀ (H H' : Hp) (x : V), B H x → Evl.Ex H H' → B H' x) (hF : ∀ (H H' : Hp), F H → Evl.Ex H H' → F H') (G : GB B F H p c so m xs Hc) (x : Evl.Ex Hc Hd) : GB B F H p c so m xs Hd :=
  ⟨G.str.keep x, fun b o h1 h2 h3 => x _ _ (G.kp b o h1 h2 h3), G.new, G.np, G.nc, x _ _ G.at_, fun y hy => hB _ _ _ (G.bad y hy) (wo_ex x), hF _ _ G.fac (wo_ex x)⟩
theorem GB.ext (G : GB B F H p c so m xs Hc) (hv : ∀ v ∈ ys, B (wo p c so Hc) v) : GB B F H p c so m (xs ++ ys) (upd Hc so (.lst (xs ++ ys))) := by
  refine ⟨G.str.upd G.np G.nc, G.kp.mut G.new, G.new, G.np, G.nc, upd_same, fun y hy => ?_, by rw [wo_upd]; exact G.fac⟩
  rw [wo_upd]
  rcases List.mem_append.mp hy with hy | hy
  · exact G.bad y hy
  · exact hv y hy
/-- of a new object -/
theorem GB.wnew (G : GB B F H p c so m xs Hc) {d : Addr} {o : HO} (h : Hc d = none) : wo p c so (upd Hc d o) d = some o := wo_at upd_same (G.str.ne h).1 (G.str.ne h).2 (ne_of_none G.at_ h).symm
theorem GB.wat (G : GB B F H p c so m xs Hc) {d : Addr} {o : HO} (x : Evl.Ex Hc Hd) (h : Hc d = none) (h2 : Hd d = some o) : wo p c so Hd d = some o := wo_at h2 (G.str.ne h).1 (G.str.ne h).2 (ne_of_none G.at_ h).symm
end
/-- the list laid anew -/
theorem GB.start {B : Hp → V → Prop} {F : Hp → Prop} {H H1 : Hp} {p c so : Addr} {n : Nat} {xs : List V} (hB : ∀ (H H' : Hp) (x : V), B H x → Evl.Ex H H' → B H' x) (M : W0 p c H n H1) (h : H1 so = none) (hv : ∀ x ∈ xs, B (ho p c H1) x) (hf : ∀ Hx, Evl.Ex (ho p c H1) (wo p c so Hx) → F (wo p c so Hx)) : GB B F H p c so n xs (upd H1 so (.lst xs)) := by
  have ne := M.str.ne h
  refine ⟨M.str.keep (Evl.Ex.new h), fun b o h1 h2 h3 => (Evl.Ex.new h) _ _ (M.k b o h1 h2 h3), ?_, ne.1, ne.2, upd_same, fun x hx => hB _ _ _ (hv x hx) (ho_wo h), hf _ (ho_wo h)⟩
  cases q : H so with
  | none => rfl
  | some o =>
    have := M.k so o q ne.1 ne.2
    rw [h] at this
    cases this
end K07

namespace K07
open PySem PySem.Spec PyProof.Rows L2 Tr Sq Dk Exs
/-! ### the stream, one table of lambdas, all else -/
section
variable {p c T : Addr} {H H' : Hp}
theorem wo_grow (e : Lm.Grow T H H') : Evl.Ex (wo p c T H) (wo p c T H') := fun b o h => by
  unfold wo at h ⊢
  split at h
  · cases h
  · rename_i z
    rw [if_neg z]
    exact e _ _ (fun q => z (.inr (.inr q))) h
end
theorem Kl.kp {p c : Addr} {n : Nat} {H H' : Hp} (hS : StrAt H p c n) (k : Kp p c H H') : Kl H H' := by
  obtain ⟨L, cells, a, kk, m, h1, h2, _⟩ := hS
  intro b o h nl
  refine k b o h (fun z => ?_) (fun z => ?_)
  · rw [z, h1] at h
    exact nl _ (Option.some.inj h).symm
  · rw [z, h2] at h
    exact nl _ (Option.some.inj h).symm
structure Ws (mg : Str → Option Value) (ql : Str) (T p c : Addr) (H0 : Hp) (n : Nat) (H : Hp) : Prop where
  str : StrAt H p c n
  tab : Lm.TabD mg [ql] H T
  k : Evl.Ex (wo p c T H0) (wo p c T H)
section
variable {mg : Str → Option Value} {ql : Str} {T p c : Addr} {H0 H H' : Hp} {n n' : Nat}
theorem Ws.pt (M : Ws mg ql T p c H0 n H) : ∃ ps, H T = some (.tbl ps) := by
  obtain ⟨ps, h, _⟩ := M.tab
  exact ⟨ps, h⟩
theorem Ws.get (M : Ws mg ql T p c H0 n H) {b : Addr} {o : HO} (h : wo p c T H0 b = some o) : H b = some o := wo_to _ _ (M.k _ _ h)
theorem Ws.ne (M : Ws mg ql T p c H0 n H) {b : Addr} (h : H b = none) : b ≠ p ∧ b ≠ c ∧ b ≠ T := by
  obtain ⟨ps, hp⟩ := M.pt
  obtain ⟨h1, h2⟩ := M.str.ne h
  exact ⟨h1, h2, fun z => by rw [z, hp] at h; cases h⟩
theorem Ws.at_ (M : Ws mg ql T p c H0 n H) {b : Addr} {o : HO} (h : H b = none) : wo p c T (upd H b o) b = some o := wo_at upd_same (M.ne h).1 (M.ne h).2.1 (M.ne h).2.2
theorem Ws.ex (M : Ws mg ql T p c H0 n H) (e : Evl.Ex H H') : Ws mg ql T p c H0 n H' := ⟨M.str.keep e, tabD_kl _ M.tab (Kl.ex e), M.k.trans (wo_ex e)⟩
theorem Ws.kp (M : Ws mg ql T p c H0 n H) (e : Kp p c H H') (s : StrAt H' p c n') : Ws mg ql T p c H0 n' H' := ⟨s, tabD_kl _ M.tab (Kl.kp M.str e), M.k.trans (wo_kp e)⟩
theorem Ws.grow (M : Ws mg ql T p c H0 n H) (g : Lm.Grow T H H') (t : Lm.TabD mg [ql] H' T) : Ws mg ql T p c H0 n H' := by
  obtain ⟨ps, hp⟩ := M.pt
  have ne_tl : ∀ {b : Addr} {xs : List V}, H b = some (.lst xs) → b ≠ T := fun {b xs} h z => by
    rw [z, hp] at h
    cases h
  obtain ⟨L, cells, a1, kk, m, s1, s2, r⟩ := M.str
  exact ⟨⟨L, cells, a1, kk, m, g _ _ (ne_tl s1) s1, g _ _ (ne_tl s2) s2, r⟩, t, M.k.trans (wo_grow g)⟩
theorem Ws.mut {F : Addr} {xs ys : List V} (M : Ws mg ql T p c H0 n H) (hF : H F = some (.lst xs)) (h1 : F ≠ p) (h2 : F ≠ c) (h3 : H0 F = none) : Ws mg ql T p c H0 n (upd H F (.lst ys)) := by
  refine ⟨M.str.upd h1 h2, tabD_kl _ M.tab (Kl.upd hF), fun b o h => ?_⟩
  have hb : b ≠ F := fun z => by
    have := wo_to _ _ h
    rw [z, h3] at this
    cases this
  have := M.k _ _ h
  unfold wo at this ⊢
  split at this
  · cases this
  · rename_i z
    rw [if_neg z, upd_ne hb]
    exact this
theorem Ws.start (s : StrAt H p c n) (t : Lm.TabD mg [ql] H T) : Ws mg ql T p c H n H := ⟨s, t, fun _ _ h => h⟩
theorem Ws.now (M : Ws mg ql T p c H0 n H) : Ws mg ql T p c H n H := .start M.str M.tab
theorem Ws.trans {H1 : Hp} (M : Ws mg ql T p c H0 n H1) (N : Ws mg ql T p c H1 n' H) : Ws mg ql T p c H0 n' H := ⟨N.str, N.tab, M.k.trans N.k⟩
theorem Ws.mono (M : Ws mg ql T p c H0 n H) (h : n ≤ n') : Ws mg ql T p c H0 n' H := ⟨M.str.mono h, M.tab, M.k⟩
end
/-! ### what stays where only tables go -/
def ExN (H H' : Hp) : Prop := ∀ b o, H b = some o → (∀ qs, o ≠ .tbl qs) → H' b = some o
theorem ho_wot {p c T : Addr} {H : Hp} (hT : ∃ qs, H T = some (.tbl qs)) : ExN (ho p c H) (wo p c T H) := fun b o h n => wo_of h fun z => by
  obtain ⟨qs, hq⟩ := hT
  have := ho_to _ _ h
  rw [z, hq] at this
  exact n _ (Option.some.inj this).symm
section
variable {H H' : Hp}
theorem Pl.exN {x : V} {n : String} (h : Pl H x n) (e : ExN H H') : Pl H' x n := by
  cases h with
  | non => exact .non
  | bl b => exact .bl b
  | int i => exact .int i
  | str z => exact .str z
  | lst h => exact .lst (e _ _ h fun _ z => by cases z)
  | tup h => exact .tup (e _ _ h fun _ z => by cases z)
  | frt h => exact .frt (e _ _ h fun _ z => by cases z)
  | dic h => exact .dic (e _ _ h fun _ z => by cases z)
  | dct h => exact .dct (e _ _ h fun _ z => by cases z)
theorem RX.exN {x : V} {o : Option (List V)} (h : RX H x o) (e : ExN H H') : RX H' x o := by
  cases h with
  | lst h hp hl => exact .lst (e _ _ h fun _ z => by cases z) (fun y hy => (hp y hy).imp fun _ z => z.exN e) hl
  | tup h hp hl => exact .tup (e _ _ h fun _ z => by cases z) (fun y hy => (hp y hy).imp fun _ z => z.exN e) hl
  | not h hn => exact .not (h.exN e) hn
end
theorem cutV_drop {xs : List V} (n : Nat) (h : n ≤ xs.length) : cutV xs (some (n : Int)) none = xs.drop n := by
  unfold cutV
  rw [HT.sIx_nat, HT.sIx_none, show min n xs.length = n by omega]
  show (List.drop n xs).take _ = _
  rw [List.take_of_length_le (by rw [List.length_drop]; omega)]
/-- things gathered, each as it should be -/
structure Du (B : Hp → V → Prop) (mg : Str → Option Value) (ql : Str) (T p c : Addr) (H0 : Hp) (n : Nat) (xs : List V) (H : Hp) : Prop where
  w : Ws mg ql T p c H0 n H
  all : ∀ y ∈ xs, B (wo p c T H) y
section
variable {B : Hp → V → Prop} {mg : Str → Option Value} {ql : Str} {T p c : Addr} {H0 H H' : Hp} {n : Nat} {xs : List V}
theorem Du.ex (hB : ∀ (H H' : Hp) (x : V), B H x → Evl.Ex H H' → B H' x) (D : Du B mg ql T p c H0 n xs H) (e : Evl.Ex H H') : Du B mg ql T p c H0 n xs H' := ⟨D.w.ex e, fun y hy => hB _ _ _ (D.all y hy) (wo_ex e)⟩
theorem Du.tup {t : Addr} {ys : List V} (hB : ∀ (H H' : Hp) (x : V), B H x → Evl.Ex H H' → B H' x) (D : Du B mg ql T p c H0 n xs H) (ht : H t = none) (h : ∀ H', Evl.Ex (wo p c T H) H' → H' t = some (.tup ys) → B H' (.ref t)) : Du B mg ql T p c H0 n (xs ++ [.ref t]) (upd H t (.tup ys)) := by
  have e := Evl.Ex.new (o := .tup ys) ht
  refine ⟨D.w.ex e, fun y hy => ?_⟩
  rcases List.mem_append.mp hy with hy | hy
  · exact hB _ _ _ (D.all y hy) (wo_ex e)
  · rw [List.mem_singleton.mp hy]
    exact h _ (wo_ex e) (D.w.at_ ht)
end
end K07

/-! Trees: each path told either way; an end house, the tree without it; another house far from it. Law-independent, no machine. -/
namespace Tr
open PySem
theorem Tree.swp {hs : List Str} {ps ls : Prs} (T : Tree hs ps) (hl : ls.length = ps.length) (h : ∀ (i : Nat) a b, ls[i]? = some a → ps[i]? = some b → a = b ∨ a = (b.2, b.1)) : Tree hs ls := by
  have key : ls = ps.map fun q => if q ∈ ls then q else (q.2, q.1) := by
    refine List.ext_getElem? fun i => ?_
    rw [List.getElem?_map]
    cases e1 : ps[i]? with
    | none =>
      rw [List.getElem?_eq_none_iff] at e1
      rw [List.getElem?_eq_none_iff.mpr (by omega)]
      rfl
    | some b =>
      have hi := (List.getElem?_eq_some_iff.mp e1).1
      have e2 : ls[i]? = some (ls[i]'(by omega)) := List.getElem?_eq_getElem (by omega)
      generalize ls[i]'(by omega) = a at e2
      rw [e2]
      show some a = some (if b ∈ ls then b else (b.2, b.1))
      rcases h i a b e2 e1 with rfl | rfl
      · rw [if_pos (List.mem_of_getElem? e2)]
      · by_cases hb : b ∈ ls
        · rw [if_pos hb]
          obtain ⟨j, hj⟩ := List.mem_iff_getElem?.mp hb
          have hjl := (List.getElem?_eq_some_iff.mp hj).1
          have e3 : ps[j]? = some (ps[j]'(by omega)) := List.getElem?_eq_getElem (by omega)
          generalize ps[j]'(by omega) = c at e3
          rcases h j b c hj e3 with rfl | e
          · have := (List.getElem?_inj (by omega) T.np).mp (e1.trans e3.symm)
            subst this
            rw [e2] at hj
            exact hj
          · obtain ⟨x, y⟩ := c
            have m1 := List.mem_of_getElem? e1
            have m2 := List.mem_of_getElem? e3
            rw [e] at m1
            exact absurd m1 (T.once _ _ m2)
        · rw [if_neg hb]
  rw [key]
  exact T.turn _ fun q => by
    split
    · exact .inl rfl
    · exact .inr rfl
theorem most {α : Type} (f : α → Nat) : ∀ l : List α, l ≠ [] → ∃ x ∈ l, ∀ y ∈ l, f y ≤ f x
  | [], h => absurd rfl h
  | [a], _ => ⟨a, by simp, fun y hy => by simp at hy; rw [hy]; exact Nat.le_refl _⟩
  | a :: b :: r, _ => by
    obtain ⟨x, h1, h2⟩ := most f (b :: r) (by simp)
    by_cases h : f a ≤ f x
    · exact ⟨x, List.mem_cons_of_mem _ h1, fun y hy => by
        rcases List.mem_cons.mp hy with rfl | hy
        · exact h
        · exact h2 y hy⟩
    · exact ⟨a, List.mem_cons_self, fun y hy => by
        rcases List.mem_cons.mp hy with rfl | hy
        · exact Nat.le_refl _
        · have := h2 y hy; omega⟩
/-- a house with one path -/
theorem Tree.end_ {hs : List Str} {ps : Prs} (T : Tree hs ps) (h : 2 ≤ hs.length) : ∃ x b, x ∈ hs ∧ ∀ y, Adj ps x y ↔ y = b := by
  obtain ⟨par, rk, top, h1, h2, h3, h4, h5⟩ := T.ex
  have hne : hs.filter (fun x => decide (x ≠ top)) ≠ [] := fun z => by
    have : ∀ x ∈ hs, x ∈ [top] := fun x hx => by
      by_cases e : x = top
      · simp [e]
      · have : x ∈ hs.filter (fun x => decide (x ≠ top)) := List.mem_filter.mpr ⟨hx, by simpa using e⟩
        rw [z] at this
        cases this
    have := nodup_le T.nd this
    simp at this
    omega
  obtain ⟨x, k1, k2⟩ := most rk _ hne
  obtain ⟨hx, hxt⟩ := List.mem_filter.mp k1
  have hxt : x ≠ top := by simpa using hxt
  obtain ⟨b, hb⟩ := h3 x hx hxt
  refine ⟨x, b, hx, fun y => ?_⟩
  rw [h5]
  constructor
  · rintro (e | e)
    · rw [hb] at e
      exact (Option.some.inj e).symm
    · obtain ⟨q1, q2, q3⟩ := h4 _ _ e
      have hyt : y ≠ top := fun z => by rw [z, h2] at e; cases e
      have := k2 y (List.mem_filter.mpr ⟨q1, by simpa using hyt⟩)
      omega
  · rintro rfl
    exact .inl hb
/-- the tree without it -/
theorem Tree.cut {hs : List Str} {ps : Prs} (T : Tree hs ps) {x b : Str} (hx : x ∈ hs) (hb : ∀ y, Adj ps x y ↔ y = b) : Tree (hs.filter fun y => decide (y ≠ x)) (ps.filter fun q => decide (q.1 ≠ x) && decide (q.2 ≠ x)) := by
  have hxb : Adj ps x b := (hb b).mpr rfl
  have hbm := (T.mem hxb).2
  have hbx : b ≠ x := fun z => T.irr (by rw [z] at hxb; exact hxb)
  obtain ⟨par, rk, top, h1, h2, h3, h4, h5⟩ := T.ex
  have adj : ∀ y z, Adj (ps.filter fun q => decide (q.1 ≠ x) && decide (q.2 ≠ x)) y z ↔ Adj ps y z ∧ y ≠ x ∧ z ≠ x := fun y z => by
    unfold Adj
    simp only [List.mem_filter, Bool.and_eq_true, decide_eq_true_eq]
    constructor
    · rintro (⟨e1, e2, e3⟩ | ⟨e1, e2, e3⟩)
      · exact ⟨.inl e1, e2, e3⟩
      · exact ⟨.inr e1, e3, e2⟩
    · rintro ⟨e1 | e1, e2, e3⟩
      · exact .inl ⟨e1, e2, e3⟩
      · exact .inr ⟨e1, e3, e2⟩
  have parx : ∀ y, par y = some x → y = b := fun y e => (hb y).mp ((h5 x y).mpr (.inr e))
  have mem : ∀ {y}, y ∈ hs → y ≠ x → y ∈ hs.filter fun y => decide (y ≠ x) := fun h k => List.mem_filter.mpr ⟨h, by simpa using k⟩
  refine ⟨T.nd.filter _, T.np.filter _, fun a c e f => T.once a c (List.mem_filter.mp e).1 (List.mem_filter.mp f).1, fun y => if y = x then none else if par y = some x then none else par y, rk, if x = top then b else top, ?_, ?_, fun y hy hn => ?_, fun y z e => ?_, fun y z => ?_⟩
  · split
    · exact mem hbm hbx
    · rename_i e
      exact mem h1 (fun z => e z.symm)
  · by_cases e : x = top
    · subst e
      have pb : par b = some x := by
        rcases (h5 x b).mp hxb with z | z
        · rw [h2] at z; cases z
        · exact z
      simp [hbx, pb]
    · have e2 : ¬ top = x := fun z => e z.symm
      simp [e, e2, h2]
  · obtain ⟨hy1, hy2⟩ := List.mem_filter.mp hy
    have hyx : y ≠ x := by simpa using hy2
    have np : par y ≠ some x := fun z => by
      have eb := parx y z
      subst eb
      by_cases e : x = top
      · rw [if_pos e] at hn
        exact hn rfl
      · obtain ⟨c, hc⟩ := h3 x hx e
        have ec : c = y := (hb c).mp ((h5 x c).mpr (.inl hc))
        subst ec
        have := (h4 _ _ hc).2.2
        have := (h4 _ _ z).2.2
        omega
    have hyt : y ≠ top := fun z => by
      by_cases e : x = top
      · exact hyx (z.trans e.symm)
      · rw [if_neg e] at hn
        exact hn z
    obtain ⟨c, hc⟩ := h3 y hy1 hyt
    exact ⟨c, by show (if y = x then none else if par y = some x then none else par y) = some c; rw [if_neg hyx, if_neg np]; exact hc⟩
  · by_cases hyx : y = x
    · simp [hyx] at e
    by_cases np : par y = some x
    · simp [hyx, np] at e
    simp only [if_neg hyx, if_neg np] at e
    obtain ⟨q1, q2, q3⟩ := h4 _ _ e
    exact ⟨mem q1 hyx, mem q2 (fun z => np (by rw [← z]; exact e)), q3⟩
  · rw [adj, h5]
    by_cases hyx : y = x
    · subst hyx
      simp
    by_cases hzx : z = x
    · subst hzx
      simp [hyx]
    simp only [hyx, hzx, if_false, ne_eq, not_false_eq_true, and_true]
    constructor
    · rintro (e | e)
      · exact .inl (by rw [if_neg (fun q => by rw [q] at e; exact hzx (Option.some.inj e).symm)]; exact e)
      · exact .inr (by rw [if_neg (fun q => by rw [q] at e; exact hyx (Option.some.inj e).symm)]; exact e)
    · rintro (e | e)
      · split at e
        · cases e
        · exact .inl e
      · split at e
        · cases e
        · exact .inr e
/-- another house, not beside it -/
theorem Tree.far {hs : List Str} {ps : Prs} (T : Tree hs ps) (x b : Str) (h : 3 ≤ hs.length) : ∃ y ∈ hs, y ≠ x ∧ y ≠ b := by
  refine Classical.byContradiction fun z => ?_
  have : ∀ y ∈ hs, y ∈ [x, b] := fun y hy => by
    by_cases e1 : y = x
    · simp [e1]
    · by_cases e2 : y = b
      · simp [e2]
      · exact absurd ⟨y, hy, e1, e2⟩ z
  have := nodup_le T.nd this
  simp at this
  omega
end Tr

namespace K07
open PySem PySem.Spec PyProof.Rows L2 Tr Sq Dk Exs Oeq
/-! ### villages made, and told alike -/
/-- a path told either way -/
def SwR (a b : Str × Str) : Prop := a = b ∨ a = (b.2, b.1)
theorem tree_sw {hs : List Str} {ps ls : Prs} (T : Tree hs ps) (h : Paired SwR ls ps) : Tree hs ls := T.swp (Paired.length h) fun i a b h1 h2 => by
  obtain ⟨y, h3, h4⟩ := paired_get h h1
  rw [h2] at h3
  cases h3
  exact h4
theorem ordP_sw {a b : Str × Str} (h : SwR a b) (hne : b.1 ≠ b.2) : ordP a = ordP b := by
  rcases h with rfl | rfl
  · rfl
  · obtain ⟨x, y⟩ := b
    show ordP (y, x) = ordP (x, y)
    have hne : x ≠ y := hne
    unfold ordP
    cases h1 : Srs.ltT x y with
    | true =>
      rw [Srs.ltT_asym h1]
      simp
    | false =>
      cases h2 : Srs.ltT y x with
      | true => simp
      | false => exact absurd (Srs.ltT_tot h1 h2) hne
theorem ordP_sws : ∀ {ls ps : Prs}, Paired SwR ls ps → (∀ q ∈ ps, q.1 ≠ q.2) → ls.map ordP = ps.map ordP
  | [], [], .nil, _ => rfl
  | _ :: _, _ :: _, .cons h t, hn => by
    rw [List.map_cons, List.map_cons, ordP_sw h (hn _ List.mem_cons_self), ordP_sws t fun q hq => hn q (List.mem_cons_of_mem _ hq)]
theorem asc_one {a b : Prs} (h : a.Perm b) (h1 : a.Pairwise fun x y => Srs.lexT y x = false) (h2 : b.Pairwise fun x y => Srs.lexT y x = false) : a = b :=
  List.Perm.eq_of_pairwise (fun x y _ _ e1 e2 => Srs.lexT_tot e2 e1) h1 h2 h
theorem perm_of_map {α β : Type} {f : α → β} : ∀ {l k : List β}, l.Perm k → ∀ m : List α, k = m.map f → ∃ m' : List α, m'.Perm m ∧ l = m'.map f := by
  intro l k h
  induction h with
  | nil => intro m e; exact ⟨[], by rw [List.map_eq_nil_iff.mp e.symm], rfl⟩
  | @cons x l1 l2 h ih =>
    intro m e
    cases m with
    | nil => cases e
    | cons a m =>
      rw [List.map_cons] at e
      injection e with e1 e2
      obtain ⟨m', p, e3⟩ := ih m e2
      exact ⟨a :: m', p.cons a, by rw [List.map_cons, e1, e3]⟩
  | @swap x y l =>
    intro m e
    cases m with
    | nil => cases e
    | cons a m =>
      rw [List.map_cons] at e
      injection e with e1 e2
      cases m with
      | nil => cases e2
      | cons b m =>
        rw [List.map_cons] at e2
        injection e2 with e3 e4
        exact ⟨b :: a :: m, List.Perm.swap a b m, by rw [List.map_cons, List.map_cons, e1, e3, e4]⟩
  | @trans l1 l2 l3 h1 h2 ih1 ih2 =>
    intro m e
    obtain ⟨m2, p2, e2⟩ := ih2 m e
    obtain ⟨m1, p1, e1⟩ := ih1 m2 e2
    exact ⟨m1, p1.trans p2, e1⟩
theorem GB.kps {B : Hp → V → Prop} {F : Hp → Prop} {H Hc Hd : Hp} {p c so : Addr} {m m' : Nat} {xs : List V} (hB : ∀ (H H' : Hp) (x : V), B H x → Evl.Ex H H' → B H' x) (hF : ∀ (H H' : Hp), F H → Evl.Ex H H' → F H') (G : GB B F H p c so m xs Hc) (k : Kp p c Hc Hd) (s : StrAt Hd p c m') : GB B F H p c so m' xs Hd :=
  ⟨s, G.kp.trans k, G.new, G.np, G.nc, k _ _ G.at_ G.np G.nc, fun y hy => hB _ _ _ (G.bad y hy) (wo_kp k), hF _ _ G.fac (wo_kp k)⟩
section
variable {K : PySem.W.Frag} {C : Addr} {E : XK} {Q : VK}
theorem nf_own : PySem.W.notFirst K C (.ref C) = true := by
  unfold PySem.W.notFirst
  simp
/-- two villages, by == or != -/
theorem own_vil {H : Hp} {v u : Addr} {hs hs2 : List Str} {ps ps2 : Prs} {m m2 : VilD} {neg : Bool} (e : VE K C) (Vh : Vil H C v hs ps m) (o1 : okN hs ps) (Vu : Vil H C u hs2 ps2 m2) (o2 : okN hs2 ps2) (k : Q (.bl ((decide (hs = hs2) && decide (ps = ps2)) != neg)) H) : rOwn K C (spEqV C) E neg (.ref v) (.ref u) H Q :=
  ⟨v, m.dx, _, .ref C, rfl, Vh.at_, Vu.ty e, nf_own, v, .ref u, hs, ps, m, rfl, Vh, o1, .inr ⟨u, hs2, ps2, m2, rfl, Vu, o2, _, rfl, k⟩⟩
/-- a village and something plain -/
theorem own_pl {H : Hp} {v : Addr} {y : V} {n : String} {hs : List Str} {ps : Prs} {m : VilD} (e : VE K C) (Vh : Vil H C v hs ps m) (o1 : okN hs ps) (hy : Pl H y n) (hn : n ∈ tyNames) (k : Q (.bl false) H) : rOwn K C (spEqV C) E false (.ref v) y H Q :=
  ⟨v, m.dx, _, .type n, rfl, Vh.at_, hy.ty, e.nf n hn, v, y, hs, ps, m, rfl, Vh, o1, .inl ⟨n, hy, hn, _, rfl, k⟩⟩
theorem Vil.ho {p c : Addr} {H0 H : Hp} {v : Addr} {hs : List Str} {ps : Prs} {m : VilD} (h : Vil H C v hs ps m) (f : FreshV H0 hs m) (n : ∀ b, H0 b = none → b ≠ p ∧ b ≠ c) (hv : H0 v = none) : Vil (ho p c H) C v hs ps m := by
  have g : ∀ {b : Addr} {o : HO}, H0 b = none → H b = some o → K07.ho p c H b = some o := fun {b o} e z => ho_at z (n b e).1 (n b e).2
  exact ⟨g hv h.at_, g f.a h.la, g f.b h.lb, fun t ht => g (f.z t ht) (h.pr t ht), h.eq, ⟨g f.d h.nr.1, fun x hx => g (f.ad x hx) (h.nr.2 x hx)⟩⟩
theorem okN_of {hs : List Str} {ps : Prs} (T : Tree hs ps) (h : ∀ x ∈ hs, PyData.strOk x = true) : okN hs ps := ⟨h, fun q hq => ⟨h _ (T.mem (.inl hq : Adj ps q.1 q.2)).1, h _ (T.mem (.inl hq : Adj ps q.1 q.2)).2⟩⟩
/-- another village -/
def OthB (C : Addr) (hs : List Str) (ps : Prs) (H : Hp) (y : V) : Prop := ∃ (u : Addr) (hs2 : List Str) (ps2 : Prs) (m2 : VilD), y = .ref u ∧ Vil H C u hs2 ps2 m2 ∧ okN hs2 ps2 ∧ (decide (hs = hs2) && decide (ps = ps2)) = false
theorem OthB.ex {hs : List Str} {ps : Prs} {H H' : Hp} {y : V} (h : OthB C hs ps H y) (e : Evl.Ex H H') : OthB C hs ps H' y := by
  obtain ⟨u, hs2, ps2, m2, h1, h2, h3⟩ := h
  exact ⟨u, hs2, ps2, m2, h1, h2.ex e, h3⟩
/-- a village made -/
theorem mkV {H : Hp} {tl tq : Bool} {l q : Addr} {hs : List Str} {qs : LpL} (cl : Cls K C) (n1 : NoAttr K C "_houses") (n2 : NoAttr K C "_paths") (n3 : NoAttr K C "_near") (hl : Lt H tl l (hs.map V.str)) (hq : Lt H tq q (qs.map fun r => V.ref r.1)) (hP : LpsAt H qs) (T : Tree hs (qs.map (·.2))) (hne : hs ≠ []) (h12 : hs.length ≤ 60) (q12 : qs.length ≤ 60) (hg : ∀ h ∈ hs, nameOk h = true ∧ h.length ≤ 1000)
    {v dx : Addr} {R : V → Hp → Prop} (hv : H v = none) (hdx : H dx = none) (hne2 : dx ≠ v) (k : ∀ (H' : Hp) (hs' : List Str) (ps' : Prs) (m : VilD), Evl.Ex H H' → Vil H' C v hs' ps' m → FreshV H hs' m → hs'.Perm hs → sortedS hs' = true → ps'.Perm ((qs.map (·.2)).map ordP) → ps'.Pairwise (fun x y => Srs.lexT y x = false) → Tree hs' ps' → R .non H') :
    spInitG K [.ref v, .ref l, .ref q] (upd (upd H dx (.own v)) v (.ins C dx [])) R E := by
  have hv4 : ∀ {b : Addr} {o : HO}, H b = some o → b ≠ v := fun h z => by rw [z, hv] at h; cases h
  have hd4 : ∀ {b : Addr} {o : HO}, H b = some o → b ≠ dx := fun h z => by rw [z, hdx] at h; cases h
  have up : ∀ {b : Addr} {o : HO}, H b = some o → upd (upd H dx (.own v)) v (.ins C dx []) b = some o := fun h => by rw [upd_ne (hv4 h), upd_ne (hd4 h)]; exact h
  refine ⟨tl, tq, v, l, q, C, dx, hs, qs, rfl, upd_same, cl, n1, n2, n3, up hl, up hq, fun u hu => (hP u hu).imp fun _ z => up z, T, hne, h12, q12, hg, fun H5 hs' ps' m hkeep Vh hperm hsort hps hpw Tr hfr => ?_⟩
  have fr0 : ∀ {b : Addr}, upd (upd H dx (.own v)) v (.ins C dx []) b = none → H b = none := fun {b} z => none_of (fun o => up) z
  exact k H5 hs' ps' m (fun b o h => hkeep b o (hv4 h) (up h)) Vh ⟨fr0 hfr.a, fr0 hfr.b, fr0 hfr.d, fun t ht => fr0 (hfr.z t ht), fun h hh => fr0 (hfr.ad h hh)⟩ hperm hsort hps hpw Tr
end
end K07

/-! Rows of houses gone on from a stack over any paths: one ends at a house if and only if it is joined to the first. Law-independent, no machine. -/
namespace Tr
open PySem
/-- joined by paths -/
inductive Conn (ps : Prs) (a : Str) : Str → Prop
  | refl : Conn ps a a
  | step {b c : Str} : Conn ps a b → Adj ps b c → Conn ps a c
theorem Conn.trans {ps : Prs} {a b c : Str} (h : Conn ps a b) (k : Conn ps b c) : Conn ps a c := by
  induction k with
  | refl => exact h
  | step _ e ih => exact ih.step e
theorem Conn.symm {ps : Prs} {a b : Str} (h : Conn ps a b) : Conn ps b a := by
  induction h with
  | refl => exact .refl
  | step _ e ih => exact (Conn.refl.step e.symm).trans ih
theorem Conn.mono {ps qs : Prs} {a b : Str} (h : Conn ps a b) (hm : ∀ q ∈ ps, q ∈ qs) : Conn qs a b := by
  induction h with
  | refl => exact .refl
  | step _ e ih => exact ih.step (e.imp (hm _) (hm _))
/-- all paths end among the houses -/
def Inn (hs : List Str) (ps : Prs) : Prop := ∀ x y, Adj ps x y → y ∈ hs
theorem Good.one {hs : List Str} {ps : Prs} {a : Str} (ha : a ∈ hs) : Good hs ps a [a] :=
  ⟨⟨[], rfl⟩, by simp, fun i x y h1 h2 => by simp at h2, fun x hx => by simp at hx; rw [hx]; exact ha⟩
theorem Good.snoc {hs : List Str} {ps : Prs} (I : Inn hs ps) {a c y : Str} {t : List Str} (g : Good hs ps a t) (hl : t.getLast? = some c) (ha : Adj ps c y) (hy : y ∉ t) : Good hs ps a (t ++ [y]) := by
  obtain ⟨l, e⟩ := g.hd
  refine ⟨⟨l ++ [y], by rw [e]; rfl⟩, ?_, fun i u v h1 h2 => ?_, fun x hx => ?_⟩
  · rw [List.nodup_append]
    refine ⟨g.nd, by simp, fun x hx z hz => ?_⟩
    simp only [List.mem_singleton] at hz
    intro q
    exact hy (by rw [← hz, ← q]; exact hx)
  · have hlt := (List.getElem?_eq_some_iff.mp h2).1
    rw [List.length_append, List.length_singleton] at hlt
    by_cases hi : i + 1 < t.length
    · rw [List.getElem?_append_left (by omega)] at h1
      rw [List.getElem?_append_left hi] at h2
      exact g.row i u v h1 h2
    · have e1 : i + 1 = t.length := by omega
      rw [List.getElem?_append_left (by omega)] at h1
      rw [e1, List.getElem?_append_right (Nat.le_refl _), Nat.sub_self] at h2
      simp at h2
      rw [List.getLast?_eq_getElem?, ← e1, Nat.add_sub_cancel, h1] at hl
      rw [Option.some.inj hl, ← h2]
      exact ha
  · rcases List.mem_append.mp hx with hx | hx
    · exact g.mem x hx
    · simp only [List.mem_singleton] at hx
      rw [hx]
      exact I _ _ ha
theorem Good.cut {hs : List Str} {ps : Prs} {a : Str} {t r : List Str} (g : Good hs ps a (t ++ r)) (h : t ≠ []) : Good hs ps a t := by
  obtain ⟨l, e⟩ := g.hd
  refine ⟨?_, (List.nodup_append.mp g.nd).1, fun i x y h1 h2 => ?_, fun x hx => g.mem x (List.mem_append_left _ hx)⟩
  · cases t with
    | nil => exact absurd rfl h
    | cons x s =>
      rw [List.cons_append] at e
      exact ⟨s, by rw [(List.cons.inj e).1]⟩
  · have l1 := (List.getElem?_eq_some_iff.mp h1).1
    have l2 := (List.getElem?_eq_some_iff.mp h2).1
    exact g.row i x y (by rw [List.getElem?_append_left l1]; exact h1) (by rw [List.getElem?_append_left l2]; exact h2)
theorem Good.conn {hs : List Str} {ps : Prs} {a : Str} {t : List Str} (g : Good hs ps a t) : ∀ (i : Nat) (x : Str), t[i]? = some x → Conn ps a x
  | 0, x, h => by
    obtain ⟨l, e⟩ := g.hd
    rw [e] at h
    rw [← Option.some.inj h]
    exact .refl
  | i + 1, x, h => by
    have l2 := (List.getElem?_eq_some_iff.mp h).1
    have h1 : t[i]? = some (t[i]'(by omega)) := List.getElem?_eq_getElem (by omega)
    exact (g.conn i _ h1).step (g.row i _ _ h1 h)
theorem Good.last {hs : List Str} {ps : Prs} {a b : Str} {t : List Str} (g : Good hs ps a t) (h : t.getLast? = some b) : Conn ps a b := by
  rw [List.getLast?_eq_getElem?] at h
  exact g.conn _ _ h
theorem Conn.good {hs : List Str} {ps : Prs} (I : Inn hs ps) {a b : Str} (ha : a ∈ hs) (h : Conn ps a b) : ∃ t, Good hs ps a t ∧ t.getLast? = some b := by
  induction h with
  | refl => exact ⟨[a], .one ha, rfl⟩
  | @step c d _ e ih =>
    obtain ⟨t, g, hl⟩ := ih
    by_cases hd : d ∈ t
    · obtain ⟨s, r, rfl⟩ := List.append_of_mem hd
      refine ⟨s ++ [d], Good.cut (r := r) ?_ (by simp), by simp⟩
      rw [List.append_assoc]
      exact g
    · exact ⟨t ++ [d], g.snoc I hl e hd, by simp⟩
structure GInv (hs : List Str) (ps : Prs) (a b : Str) (R : List (List Str)) : Prop where
  good : ∀ t ∈ R, Good hs ps a t
  pre : Conn ps a b → ∃ t ∈ R, ∃ rest, Good hs ps a (t ++ rest) ∧ (t ++ rest).getLast? = some b
  idx : ∀ i t, R[i]? = some t → i ≤ 60 * (t.length - 1)
theorem GInv.start {hs : List Str} {ps : Prs} (I : Inn hs ps) {a b : Str} (ha : a ∈ hs) : GInv hs ps a b [[a]] := by
  refine ⟨fun t ht => ?_, fun h => ?_, fun i t h => ?_⟩
  · simp only [List.mem_singleton] at ht
    subst ht
    exact .one ha
  · obtain ⟨t, g, hl⟩ := h.good I ha
    obtain ⟨l, rfl⟩ := g.hd
    exact ⟨[a], by simp, l, g, hl⟩
  · have := (List.getElem?_eq_some_iff.mp h).1
    simp at this
    omega
theorem GInv.none {hs : List Str} {ps : Prs} {a b : Str} (D : GInv hs ps a b []) : ¬ Conn ps a b := fun h => by
  obtain ⟨t, ht, _⟩ := D.pre h
  cases ht
theorem GInv.step {hs : List Str} {ps : Prs} (I : Inn hs ps) {a b c : Str} {t : List Str} {R0 : List (List Str)} (D : GInv hs ps a b (R0 ++ [t])) (hl : t.getLast? = some c) (hcb : c ≠ b) {F : List Str}
    (h1 : ∀ y ∈ F, Adj ps c y ∧ y ∉ t) (h2 : ∀ y, Adj ps c y → y ∉ t → y ∈ F) (h3 : F.length ≤ 60) : GInv hs ps a b (R0 ++ F.map fun y => t ++ [y]) ∧ wgt hs.length (R0 ++ F.map fun y => t ++ [y]) < wgt hs.length (R0 ++ [t]) := by
  have gt := D.good t (by simp)
  obtain ⟨l1, l2⟩ := gt.len
  have it := D.idx R0.length t (by rw [List.getElem?_append_right (Nat.le_refl _), Nat.sub_self]; rfl)
  refine ⟨⟨fun u hu => ?_, fun hc => ?_, fun i u hu => ?_⟩, ?_⟩
  · rcases List.mem_append.mp hu with hu | hu
    · exact D.good u (List.mem_append_left _ hu)
    · obtain ⟨y, hy, rfl⟩ := List.mem_map.mp hu
      exact gt.snoc I hl (h1 y hy).1 (h1 y hy).2
  · obtain ⟨u, hu, rest, g, e⟩ := D.pre hc
    rcases List.mem_append.mp hu with hu | hu
    · exact ⟨u, List.mem_append_left _ hu, rest, g, e⟩
    · simp only [List.mem_singleton] at hu
      subst hu
      cases rest with
      | nil =>
        rw [List.append_nil, hl] at e
        exact absurd (Option.some.inj e) hcb
      | cons y r =>
        refine ⟨u ++ [y], List.mem_append_right _ (List.mem_map.mpr ⟨y, ?_, rfl⟩), r, by rw [List.append_assoc]; exact g, by rw [List.append_assoc]; exact e⟩
        have hy : y ∉ u := fun z => (List.nodup_append.mp g.nd).2.2 y z y (by simp) rfl
        refine h2 y ?_ hy
        refine g.row (u.length - 1) _ _ ?_ ?_
        · rw [List.getElem?_append_left (by omega), ← List.getLast?_eq_getElem?]
          exact hl
        · rw [show u.length - 1 + 1 = u.length by omega, List.getElem?_append_right (Nat.le_refl _), Nat.sub_self]
          rfl
  · by_cases hi : i < R0.length
    · rw [List.getElem?_append_left hi] at hu
      exact D.idx i u (by rw [List.getElem?_append_left hi]; exact hu)
    · have hlt := (List.getElem?_eq_some_iff.mp hu).1
      rw [List.getElem?_append_right (by omega), List.getElem?_map] at hu
      obtain ⟨y, _, rfl⟩ := Option.map_eq_some_iff.mp hu
      rw [List.length_append, List.length_map] at hlt
      rw [List.length_append, List.length_singleton]
      omega
  · rw [wgt_app, wgt_app, wgt_more hs.length (t.length + 1) t rfl F]
    have e1 : wgt hs.length [t] = 100 ^ (hs.length + 1 - t.length) := by simp [wgt]
    rw [e1, show hs.length + 1 - t.length = (hs.length + 1 - (t.length + 1)) + 1 by omega, Nat.pow_succ]
    have : 0 < 100 ^ (hs.length + 1 - (t.length + 1)) := Nat.pow_pos (by decide)
    have : F.length * 100 ^ (hs.length + 1 - (t.length + 1)) ≤ 60 * 100 ^ (hs.length + 1 - (t.length + 1)) := Nat.mul_le_mul_right _ h3
    omega
theorem GInv.len {hs : List Str} {ps : Prs} {a b : Str} {R : List (List Str)} (D : GInv hs ps a b R) (h : hs.length ≤ 30) : R.length ≤ 2000 := by
  cases hR : R.getLast? with
  | none =>
    rw [List.getLast?_eq_none_iff] at hR
    rw [hR]
    exact Nat.zero_le _
  | some t =>
    rw [List.getLast?_eq_getElem?] at hR
    have := D.idx _ t hR
    have := (D.good t (List.mem_of_getElem? hR)).len
    omega
/-- groups: two have the same if and only if they are joined -/
def Grp (ps : Prs) (g : Str → Str) : Prop := ∀ x y, g x = g y ↔ Conn ps x y
theorem Grp.start : Grp [] id := fun x y => by
  constructor
  · intro h
    rw [show x = y from h]
    exact .refl
  · intro h
    cases h with
    | refl => rfl
    | step _ e => rcases e with e | e <;> cases e
theorem Grp.more {ps : Prs} {g : Str → Str} (h : Grp ps g) (a b : Str) : Grp (ps ++ [(a, b)]) (fun x => if g x = g b then g a else g x) := fun x y => by
  have old : ∀ {u v : Str}, g u = g v → Conn (ps ++ [(a, b)]) u v := fun e => ((h _ _).mp e).mono fun q hq => List.mem_append_left _ hq
  have ab : Conn (ps ++ [(a, b)]) a b := Conn.refl.step (.inl (by simp))
  constructor
  · intro e
    by_cases hx : g x = g b
    · by_cases hy : g y = g b
      · exact old (hx.trans hy.symm)
      · simp only [if_pos hx, if_neg hy] at e
        exact (old hx).trans (ab.symm.trans (old e))
    · by_cases hy : g y = g b
      · simp only [if_neg hx, if_pos hy] at e
        exact (old e).trans (ab.trans (old hy.symm))
      · simp only [if_neg hx, if_neg hy] at e
        exact old e
  · intro k
    induction k with
    | refl => rfl
    | @step c d _ e ih =>
      have jab : (if g a = g b then g a else g a) = (if g b = g b then g a else g b) := by simp
      have key : (if g c = g b then g a else g c) = (if g d = g b then g a else g d) := by
        have cs : g c = g d ∨ (c = a ∧ d = b) ∨ (c = b ∧ d = a) := by
          rcases e with e | e
          · rcases List.mem_append.mp e with e | e
            · exact .inl ((h _ _).mpr (Conn.refl.step (.inl e)))
            · simp only [List.mem_singleton, Prod.mk.injEq] at e
              exact .inr (.inl e)
          · rcases List.mem_append.mp e with e | e
            · exact .inl ((h _ _).mpr (Conn.refl.step (.inr e)))
            · simp only [List.mem_singleton, Prod.mk.injEq] at e
              exact .inr (.inr ⟨e.2, e.1⟩)
        rcases cs with e | ⟨rfl, rfl⟩ | ⟨rfl, rfl⟩
        · rw [e]
        · exact jab
        · exact jab.symm
      exact ih.trans key
end Tr

namespace K07
open PySem PySem.Spec PyProof.Rows L2 Tr Sq
/-! ### _law_v_way over any paths: empty if and only if not joined -/
def spWayG : Sp := fun vs H Q _ => ∃ (q : Addr) (a b : Str) (qs : PrL) (hs : List Str), vs = [.ref q, .str a, .str b] ∧ H q = some (.lst (refsL qs)) ∧ PrsAt H qs ∧ Inn hs (qs.map (·.2)) ∧ a ∈ hs ∧ hs.length ≤ 30 ∧ qs.length ≤ 30 ∧ (∀ h ∈ hs, h ∈ names12) ∧
  ∀ (r : Addr) (zs : List Str) (H' : Hp), Evl.Ex H H' → H r = none → H' r = some (.lst (zs.map V.str)) → zs.length ≤ 30 → (∀ z ∈ zs, z ∈ hs) → (zs = [] ↔ ¬ Conn (qs.map (·.2)) a b) → Q (.ref r) H'
def wG (H : Hp) (q ro : Addr) (a b : Str) (hs : List Str) (ps : Prs) (mm : Nat) (σ : L2.St) (H' : Hp) : Prop := ∃ (R : RwL) (v4 v5 v6 : Option V), wgt hs.length (R.map (·.2)) = mm ∧ σ = [some (.ref q), some (.str a), some (.str b), some (.ref ro), v4, v5, v6] ∧ Evl.Ex H H' ∧ H' ro = some (.lst (rwRefs R)) ∧ RwAt H H' R ∧ GInv hs ps a b (R.map (·.2))
section
variable {P : Program} {w : World} {K : PySem.W.Frag} {mg : Str → Option Value} {base : Heap}
theorem ok_wayG {f fB : Addr} {fd fdB : FuncData} (F : FnP K "_law_v_way" sWay f fd) (GB : FnOk P w K mg base CX0 1 fB fdB ["paths", "house"] (spBes K)) (bB : L2.Binds K fdB ["paths", "house"] []) (kB : PySem.W.keepIn K (.ref fB) = true) (gB : mg "_law_v_beside" = some (.ref fB)) :
    FnOk P w K mg base CX0 2 f fd ["paths", "one", "other"] spWayG := by
  refine F.ok scWay (fun vs H Q E h => ?_) (fun cdv A outer s H vs Q E hr h => ?_)
  · obtain ⟨q, a, b, qs, hs, rfl, _⟩ := h
    rfl
  · obtain ⟨q, a, b, qs, hs, rfl, hq, hP, I, ha, h30, q30, hgood, k⟩ := h
    refine' ⟨_, PSs.nox (pss_cons (ps_set (i := 3) scWay.nd rfl (.inl rfl) (pe_lst (pa_cons (pe_lst (pa_cons (pv 1) pa_nil)) pa_nil)))
      (pss_cons (ps_while PassesOwn.never (pt_cmpR (op_neD hr.units) (pv 3) (pe_lst pa_nil) (nomark _))
        (pss_cons (ps_set (i := 4) scWay.nd rfl (.inr rfl) (pe_bm0 PySem.F.plainAttrs_list PySem.F.slot_list_pop PySem.F.type_list_pop mt_pop (pv 3)))
        (pss_cons (ps_if (pt_cmpR op_eq (pe_ix ix_list (pv 4) (pe_un un_neg pe_int) (fun _ _ => rfl)) (pv 2) (nomark _)) (pss_one (ps_ret (pv 4))) pss_nil)
        (pss_cons ?l1 (pss_one (ps_expr (pe_bm PySem.F.plainAttrs_list PySem.F.slot_list_extend PySem.F.type_list_extend mt_extend (pv 3) (pa_cons ?l2 pa_nil))))))))
      (pss_one (ps_ret (pe_lst pa_nil))))), ?rd⟩
    case l1 =>
      refine ps_setLc (i := 5) (own := [("house", 6)]) (g := gName 6) (tt := tTest (tOp (rIn K true) (tVar 6) (tVar 4))) (te := tVar 6) (by rfl) scWay.nd rfl rfl (sw_true rfl rfl rfl (by decide +kernel)) (pi_list (pe_call GB hr rfl gB kB bB .nil pass0 (pa_cons (pv 0) (pa_cons (pe_ix ix_list (pv 4) (pe_un un_neg pe_int) (fun _ _ => rfl)) pa_nil))))
        (blkOk_by (own := [("house", 6)]) (N := ["paths", "one", "other", "rows", "row", "further", "house"]) (sc := defScope sWay) (by decide +kernel)) (fun _ _ _ _ _ => pg_name (i := 6) scWay.nd rfl (.inl rfl)) (fun _ _ _ _ _ => pts_one (pt_cmpR op_notIn_seq (pv 6) (pv 4) rfl)) ?_
      intro _ _ _ _ _
      exact pv 6
    case l2 =>
      refine pe_lc (own := [("house", 6)]) (g := gName 6) (tt := tYes) (te := tOp rCat (tVar 4) (tLst (tCons (tVar 6) tNil))) rfl scWay.nd (pi_list (pv 5))
        (blkOk_by (own := [("house", 6)]) (N := ["paths", "one", "other", "rows", "row", "further", "house"]) (sc := defScope sWay) (by decide +kernel)) (fun _ _ _ _ _ => pg_name (i := 6) scWay.nd rfl (.inl rfl)) (fun _ _ _ _ _ => pts_nil) ?_
      intro _ _ _ _ _
      exact pe_op op_cat (pv 4) (pe_lst (pa_cons (pv 6) pa_nil))
    refine ⟨_, rfl, by show 1 ≤ sizeLine; decide, fun t1 ht1 => ⟨by show 1 ≤ sizeLine; decide, fun ro hro => ?_⟩⟩
    have n1 : t1 ≠ ro := ne_of_none upd_same hro
    have hroH : H ro = none := by rw [upd_ne n1.symm] at hro; exact hro
    refine ⟨wG H q ro a b hs (qs.map (·.2)), ⟨_, [(t1, [a])], none, none, none, rfl, rfl, (Evl.Ex.new ht1).trans (Evl.Ex.new hro), upd_same, fun t ht => ?_, GInv.start I ha⟩, ?_⟩
    · simp only [List.mem_singleton] at ht
      subst ht
      exact ⟨by rw [upd_ne n1]; exact upd_same, ht1⟩
    · rintro mm σ H1 ⟨R, v4, v5, v6, hmm, rfl, x1, e1, e2, D⟩
      have hok : ∀ t ∈ R.map (·.2), ∀ z ∈ t, PyData.strOk z = true := fun t ht z hz => good_ok z (hgood z ((D.good t ht).mem z hz))
      have em : R.map (fun t => pdRow t.2) = (R.map (·.2)).map pdRow := by rw [List.map_map]; rfl
      refine ⟨_, rfl, Nat.zero_le _, fun e he => ?_⟩
      have x2 : Evl.Ex H1 (upd H1 e (.lst [])) := Evl.Ex.new he
      have y2 : upd H1 e (.lst []) e = some (.lst []) := upd_same
      generalize upd H1 e (.lst []) = H2 at x2 y2
      have e2' : RwAt H H2 R := fun t ht => ⟨x2 _ _ (e2 t ht).1, (e2 t ht).2⟩
      refine ⟨_, _, .lst (SqL.of (x2 _ _ e1)) (dpa_rows e2'), .lst (SqL.of y2) .nil, by rw [em]; exact shaped_rows _ hok, shaped_rows [] (fun t ht => by simp at ht), _, rfl, ?_⟩
      rw [em, eqv_rows_nil]
      by_cases hRne : R = []
      · subst hRne
        refine iteF ⟨Nat.zero_le _, fun r hr => k r [] _ ((x1.trans x2).trans (Evl.Ex.new hr)) ?_ upd_same (Nat.zero_le _) (fun z hz => by cases hz) ?_⟩
        · cases q1 : H r with
          | none => rfl
          | some o => rw [(x1.trans x2) _ _ q1] at hr; cases hr
        · exact ⟨fun _ => D.none, fun _ => rfl⟩
      have hie : (!(R.map (·.2)).isEmpty) = true := by
        cases R with
        | nil => exact absurd rfl hRne
        | cons x y => rfl
      rw [hie]
      obtain ⟨R0, t, rfl⟩ : ∃ R0 t, R = R0 ++ [t] := ⟨R.dropLast, R.getLast hRne, (List.dropLast_concat_getLast hRne).symm⟩
      refine iteT ⟨fun σ' H' => ∃ m', m' < mm ∧ wG H q ro a b hs (qs.map (·.2)) m' σ' H', fun σ' H' z => z, ?_⟩
      have er : rwRefs (R0 ++ [t]) = rwRefs R0 ++ [.ref t.1] := by unfold rwRefs; rw [List.map_append]; rfl
      rw [er] at e1
      have e3 := x2 _ _ e1
      refine ⟨_, rfl, .inl ⟨rfl, _, SqL.of e3⟩, ro, _, .ref t.1, rfl, rfl, e3, by simp, ?_⟩
      rw [List.dropLast_concat]
      have tm : t ∈ R0 ++ [t] := by simp
      obtain ⟨g1, g2⟩ := e2' t tm
      have gt := D.good t.2 (List.mem_map.mpr ⟨t, tm, rfl⟩)
      have htne : t.2 ≠ [] := fun z => by have := gt.len.1; rw [z] at this; simp at this
      have trn : ∀ u ∈ R0 ++ [t], u.1 ≠ ro := fun u hu z => by
        have h1 := (e2' u hu).1
        rw [z, e3] at h1
        have h2 := (D.good u.2 (List.mem_map.mpr ⟨u, hu, rfl⟩)).len.1
        injection h1 with h1
        injection h1 with h1
        have h3 : V.ref t.1 ∈ u.2.map V.str := by rw [← h1]; simp
        obtain ⟨z9, _, e9⟩ := List.mem_map.mp h3
        cases e9
      have x3 : Evl.Ex H (upd H2 ro (.lst (rwRefs R0))) := ex_upd (x1.trans x2) hroH
      have f1 : upd H2 ro (.lst (rwRefs R0)) ro = some (.lst (rwRefs R0)) := upd_same
      have f2 : RwAt H (upd H2 ro (.lst (rwRefs R0))) (R0 ++ [t]) := fun u hu => ⟨by rw [upd_ne (trn u hu)]; exact (e2' u hu).1, (e2' u hu).2⟩
      generalize upd H2 ro (.lst (rwRefs R0)) = H3 at x3 f1 f2
      obtain ⟨Y, c, eY⟩ : ∃ Y c, t.2 = Y ++ [c] := ⟨t.2.dropLast, t.2.getLast htne, (List.dropLast_concat_getLast htne).symm⟩
      have hlast : t.2.getLast? = some c := by rw [eY]; simp
      have ht3 := (f2 t tm).1
      have ht3' : H3 t.1 = some (.lst (Y.map V.str ++ [.str c])) := by rw [ht3, eY, List.map_append]; rfl
      refine ⟨_, rfl, _, rfl, t.1, _, -1, _, rfl, rfl, SqL.of ht3', atI_last _ _, _, rfl, rfl, _, rfl, ?_⟩
      by_cases hcb : c = b
      · refine ite2 (fun _ => ⟨_, rfl, k t.1 t.2 H3 x3 g2 ht3 (Nat.le_trans gt.len.2 h30) gt.mem ⟨fun z => absurd z htne, fun z => absurd (gt.last (by rw [hlast, hcb])) z⟩⟩) (fun z => absurd ?_ z)
        · simp [hcb]
      · refine ite2 (fun z => absurd z (by simp [hcb])) (fun _ => ?_)
        refine ⟨_, rfl, _, rfl, _, rfl, t.1, _, -1, _, rfl, rfl, SqL.of ht3', atI_last _ _, q, c, qs, rfl, x3 _ _ hq, hP.ex x3, q30, fun r ys H4 x4 hr4 hr4' hys _ => ?_⟩
        refine ⟨r, rfl, ⟨_, SqL.of hr4'⟩, fun D1 hD1 => ?_⟩
        have ht4 := x4 _ _ ht3
        have ysl : ys.length ≤ 60 := by
          rw [hys.length_eq]
          unfold besL
          rw [List.length_append, List.length_map, List.length_map]
          have q1 := List.length_filter_le (fun q => decide (q.1 = c)) (qs.map (·.2))
          have q2 := List.length_filter_le (fun q => decide (q.2 = c)) (qs.map (·.2))
          rw [List.length_map] at q1 q2
          omega
        refine lc_it (walk_list (xs := ys.map V.str)) (fun i H' => Evl.Ex H4 H' ∧ H' D1 = some (.lst (((ys.take i).filter fun y => !decide (y ∈ t.2)).map V.str))) ⟨Evl.Ex.new hD1, upd_same⟩ (fun i H' _ hp => SqL.of (hp.1 _ _ hr4')) (fun i x H5 H6 hi hp hy => ?_) (fun H5 hp => ?_)
        · obtain ⟨x5, d1⟩ := hp
          obtain ⟨rfl, hx⟩ := hy
          rw [List.length_map] at hi
          obtain ⟨y, hyy⟩ := getD_of hi
          rw [List.getElem?_map, hyy] at hx
          cases hx
          refine ⟨rfl, _, rfl, _, rfl, t.1, _, rfl, .inl (SqL.of (x5 _ _ ht4)), rfl, flat_strs _, _, rfl, ?_⟩
          rw [in_strs]
          have tk : ys.take (i + 1) = ys.take i ++ [y] := by rw [List.take_add_one, hyy]; rfl
          refine ite2 (fun z => ?_) (fun z => ?_)
          · have z : (!decide (y ∈ t.2)) = true := by simpa using z
            refine ⟨_, rfl, _, d1, ?_, ex_upd x5 hD1, ?_⟩
            · rw [List.length_map]
              refine Nat.lt_of_le_of_lt (Nat.le_trans (List.length_filter_le _ _) (show _ ≤ 60 by rw [List.length_take]; omega)) (by decide)
            · rw [upd_same, tk, List.filter_append, List.map_append]
              have fz : [y].filter (fun y => !decide (y ∈ t.2)) = [y] := by simp at z; simp [z]
              rw [fz]
              rfl
          · have z : (!decide (y ∈ t.2)) = false := by simpa using z
            refine ⟨x5, ?_⟩
            rw [d1, tk, List.filter_append]
            have fz : [y].filter (fun y => !decide (y ∈ t.2)) = [] := by simp at z; simp [z]
            rw [fz, List.append_nil]
        · obtain ⟨x5, d1⟩ := hp
          rw [List.length_map, List.take_length] at d1
          generalize hF : (ys.filter fun y => !decide (y ∈ t.2)) = F at d1
          have Fl : F.length ≤ 60 := by rw [← hF]; exact Nat.le_trans (List.length_filter_le _ _) ysl
          have F1 : ∀ y ∈ F, Adj (qs.map (·.2)) c y ∧ y ∉ t.2 := fun y hy => by
            rw [← hF] at hy
            obtain ⟨h1, h2⟩ := List.mem_filter.mp hy
            exact ⟨besL_mem.mp (hys.mem_iff.mp h1), by simpa using h2⟩
          have F2 : ∀ y, Adj (qs.map (·.2)) c y → y ∉ t.2 → y ∈ F := fun y h1 h2 => by
            rw [← hF]
            exact List.mem_filter.mpr ⟨hys.mem_iff.mpr (besL_mem.mpr h1), by simpa using h2⟩
          have hDm : R0.map (·.2) ++ [t.2] = (R0 ++ [t]).map (·.2) := by rw [List.map_append]; rfl
          obtain ⟨D', wl⟩ := GInv.step I (by rw [hDm]; exact D) hlast hcb F1 F2 Fl
          rw [hDm, hmm] at wl
          have x35 : Evl.Ex H3 H5 := x4.trans x5
          have f15 := x35 _ _ f1
          have f25 : RwAt H H5 (R0 ++ [t]) := fun u hu => ⟨x35 _ _ (f2 u hu).1, (f2 u hu).2⟩
          have xH5 : Evl.Ex H H5 := x3.trans x35
          refine ⟨_, rfl, .inl ⟨rfl, _, SqL.of f15⟩, _, rfl, D1, rfl, ⟨_, SqL.of d1⟩, fun D2 hD2 => ?_⟩
          have hD2H : H D2 = none := by
            cases q1 : H D2 with
            | none => rfl
            | some o => rw [xH5 _ _ q1] at hD2; cases hD2
          have t5 := (f25 t tm).1
          have tl30 := gt.len.2
          refine lc_it (walk_list (xs := F.map V.str)) (fun i H' => Evl.Ex H5 H' ∧ ∃ N : RwL, H' D2 = some (.lst (rwRefs N)) ∧ RwAt H H' N ∧ N.map (·.2) = (F.take i).map fun y => t.2 ++ [y]) ⟨Evl.Ex.new hD2, [], upd_same, fun u hu => absurd hu (by simp), rfl⟩ (fun i H' _ hp => SqL.of (hp.1 _ _ d1)) (fun i x H6 H7 hi hp hy => ?_) (fun H6 hp => ?_)
          · obtain ⟨x6, N, n1, n2, n3⟩ := hp
            obtain ⟨rfl, hx⟩ := hy
            rw [List.length_map] at hi
            obtain ⟨y, hyy⟩ := getD_of hi
            rw [List.getElem?_map, hyy] at hx
            cases hx
            have tk : F.take (i + 1) = F.take i ++ [y] := by rw [List.take_add_one, hyy]; rfl
            have t7 := x6 _ _ t5
            refine ⟨rfl, _, rfl, _, rfl, by show 1 ≤ sizeLine; decide, fun p hp => ⟨t.1, p, _, _, rfl, rfl, by rw [upd_ne (ne_of_none t7 hp)]; exact t7, upd_same, ?_, fun u hu => ?_⟩⟩
            · rw [List.length_map]
              exact Nat.le_trans (show t.2.length + 1 ≤ 31 by omega) (by decide)
            · have n1' := n1
              have hDp : D2 ≠ p := ne_of_none n1 hp
              have n4 : upd H7 p (.lst [.str y]) D2 = some (.lst (rwRefs N)) := by rw [upd_ne hDp]; exact n1
              have hDu : D2 ≠ u := ne_of_none n4 hu
              have huH : H u = none := by
                cases q1 : H u with
                | none => rfl
                | some o => rw [(Evl.Ex.new hp) _ _ (x6 _ _ (xH5 _ _ q1))] at hu; cases hu
              refine ⟨_, by rw [upd_ne hDu]; exact n4, ?_, ex_upd ((x6.trans (Evl.Ex.new hp)).trans (Evl.Ex.new hu)) hD2, N ++ [(u, t.2 ++ [y])], by unfold rwRefs; rw [upd_same, List.map_append]; rfl, fun z hz => ?_, by rw [List.map_append, n3, tk, List.map_append]; rfl⟩
              · have := congrArg List.length n3
                rw [List.length_map, List.length_map, List.length_take] at this
                unfold rwRefs
                rw [List.length_map]
                exact Nat.lt_of_le_of_lt (show N.length ≤ 60 by omega) (by decide)
              · rcases List.mem_append.mp hz with hz | hz
                · obtain ⟨z1, z2⟩ := n2 z hz
                  refine ⟨?_, z2⟩
                  have w1 : upd H7 p (.lst [.str y]) z.1 = some (.lst (z.2.map V.str)) := by rw [upd_ne (ne_of_none z1 hp)]; exact z1
                  rw [upd_ne (fun q9 => by
                    rw [q9, n1] at z1
                    have len := congrArg List.length n3
                    rw [List.length_map, List.length_map] at len
                    injection z1 with z1
                    injection z1 with z1
                    have hm : V.ref z.1 ∈ rwRefs N := List.mem_map.mpr ⟨z, hz, rfl⟩
                    rw [z1] at hm
                    obtain ⟨z9, _, e9⟩ := List.mem_map.mp hm
                    cases e9), upd_ne (ne_of_none w1 hu)]
                  exact w1
                · simp only [List.mem_singleton] at hz
                  subst hz
                  refine ⟨?_, huH⟩
                  rw [upd_ne hDu.symm, upd_same, List.map_append]
                  rfl
          · obtain ⟨x6, N, n1, n2, n3⟩ := hp
            rw [List.length_map, List.take_length] at n3
            have f16 := x6 _ _ f15
            have Rl := D.len h30
            rw [List.length_map, List.length_append, List.length_singleton] at Rl
            have Nl := congrArg List.length n3
            rw [List.length_map, List.length_map] at Nl
            refine ⟨ro, D2, _, _, rfl, rfl, f16, n1, ?_, ?_⟩
            · unfold rwRefs
              rw [List.length_map, List.length_map]
              exact Nat.le_trans (show _ ≤ 3000 by omega) (by decide)
            · have hmem : ∀ u ∈ R0 ++ N, (H6 u.1 = some (.lst (u.2.map V.str)) ∧ H u.1 = none) := fun u hu => by
                rcases List.mem_append.mp hu with hu | hu
                · have := f25 u (List.mem_append_left _ hu)
                  exact ⟨x6 _ _ this.1, this.2⟩
                · exact n2 u hu
              have hDm2 : (R0 ++ N).map (·.2) = R0.map (·.2) ++ F.map fun y => t.2 ++ [y] := by rw [List.map_append, n3]
              have nro : ∀ u ∈ R0 ++ N, u.1 ≠ ro := fun u hu z => by
                have h1 := (hmem u hu).1
                have h2 := (D'.good u.2 (by rw [← hDm2]; exact List.mem_map.mpr ⟨u, hu, rfl⟩)).len.1
                rw [z, f16] at h1
                injection h1 with h1
                injection h1 with h1
                cases hu2 : u.2 with
                | nil => rw [hu2] at h2; simp at h2
                | cons x9 y9 =>
                  rw [hu2] at h1
                  have h3 : V.str x9 ∈ rwRefs R0 := by rw [h1]; simp
                  obtain ⟨z9, _, e9⟩ := List.mem_map.mp h3
                  cases e9
              refine ⟨_, wl, R0 ++ N, _, _, _, by rw [hDm2], rfl, ex_upd (xH5.trans x6) hroH, by unfold rwRefs; rw [upd_same, List.map_append], fun u hu => ⟨by rw [upd_ne (nro u hu)]; exact (hmem u hu).1, (hmem u hu).2⟩, by rw [hDm2]; exact D'⟩
end
end K07

namespace K07
open PySem PySem.Spec PyProof.Rows L2 Tr Sq
/-! ### some of a tree's paths: what groups they give; what is refused after them -/
/-- a path as it is handed -/
def pr2 (q : Str × Str) : Option (List V) := some [.str q.1, .str q.2]
theorem forest {hs : List Str} {ps : Prs} (T : Tree hs ps) {l : Prs} (hn : l.Nodup) (hl : ∀ q ∈ l, q ∈ ps) :
    ∃ g, Grp l g ∧ (∀ r, pathsFrom hs id (l.map pr2 ++ r) 0 = pathsFrom hs g r l.length) ∧ ∀ a b, (a, b) ∈ ps → (a, b) ∉ l → g a ≠ g b := by
  obtain ⟨I, I0, I1, _⟩ := T.groups
  have run : ∀ (l d : Prs) (g : Str → Str) (i : Nat), l.Nodup → (∀ q ∈ l, q ∈ ps ∧ q ∉ d) → (∀ q ∈ d, q ∈ ps) → I d g → Grp d g →
      ∃ g', Grp (d ++ l) g' ∧ I (d ++ l) g' ∧ ∀ r, pathsFrom hs g (l.map pr2 ++ r) i = pathsFrom hs g' r (i + l.length) := by
    intro l
    induction l with
    | nil => exact fun d g i _ _ _ hI hG => ⟨g, by rw [List.append_nil]; exact hG, by rw [List.append_nil]; exact hI, fun r => rfl⟩
    | cons q l ih =>
      obtain ⟨a, b⟩ := q
      intro d g i hn hl hd hI hG
      obtain ⟨n1, n2⟩ := List.nodup_cons.mp hn
      obtain ⟨h1, h2⟩ := hl (a, b) List.mem_cons_self
      obtain ⟨e1, e2⟩ := I1 d g a b hI h1 hd h2
      have hm := T.mem (.inl h1)
      obtain ⟨g', k1, k2, k3⟩ := ih (d ++ [(a, b)]) (joinG g a b) (i + 1) n2 (fun q hq => ⟨(hl q (List.mem_cons_of_mem _ hq)).1, fun z => by
        rcases List.mem_append.mp z with z | z
        · exact (hl q (List.mem_cons_of_mem _ hq)).2 z
        · rw [List.mem_singleton.mp z] at hq
          exact n1 hq⟩) (fun q hq => by
        rcases List.mem_append.mp hq with z | z
        · exact hd q z
        · rw [List.mem_singleton.mp z]
          exact h1) (e2 _ fun _ _ => rfl) (hG.more a b)
      rw [List.append_assoc] at k1 k2
      refine ⟨g', k1, k2, fun r => ?_⟩
      have := k3 r
      rw [List.map_cons, List.cons_append, List.length_cons, show i + (l.length + 1) = i + 1 + l.length by omega, ← this]
      exact pathsFrom_ok ⟨hm.1, hm.2, e1⟩
  obtain ⟨g, k1, k2, k3⟩ := run l [] id 0 hn (fun q hq => ⟨hl q hq, by simp⟩) (fun q hq => by cases hq) (I0 _ fun _ _ _ _ e => e) Grp.start
  rw [List.nil_append] at k1 k2
  exact ⟨g, k1, fun r => by rw [k3 r, Nat.zero_add], fun a b h1 h2 => (I1 l g a b k2 h1 hl h2).1⟩
/-- what is no path after those: not two texts, no house, the same house, joined already -/
def NoPth (hs : List Str) (l : Prs) (o : Option (List V)) : Prop := ∀ a b, o = some [.str a, .str b] → a ∈ hs → b ∈ hs → Conn l a b
theorem forest_no {hs : List Str} {ps : Prs} (T : Tree hs ps) {l : Prs} (hn : l.Nodup) (hl : ∀ q ∈ l, q ∈ ps) {o : Option (List V)} (h : NoPth hs l o) (r : List (Option (List V))) : pathsFrom hs id (l.map pr2 ++ o :: r) 0 = .inl l.length := by
  obtain ⟨g, k1, k2, _⟩ := forest T hn hl
  rw [k2]
  exact pathsFrom_no fun a b e z => z.2.2 ((k1 a b).mpr (h a b e z.1 z.2.1))
/-- without one path of the tree: the first house that is not joined to the first -/
theorem forest_apart {hs : List Str} {ps : Prs} (T : Tree hs ps) {l : Prs} (hn : l.Nodup) (hl : ∀ q ∈ l, q ∈ ps) {a b h0 : Str} (hab : (a, b) ∈ ps) (hno : (a, b) ∉ l) :
    ∃ g, pathsO hs (some (l.map pr2)) = .inr g ∧ (∀ x y, g x = g y ↔ Conn l x y) ∧ ∃ h, hs.find? (fun h => decide (g h ≠ g h0)) = some h := by
  obtain ⟨g, k1, k2, k3⟩ := forest T hn hl
  have := k2 []
  rw [List.append_nil] at this
  refine ⟨g, this, k1, ?_⟩
  have hm := T.mem (.inl hab)
  have hne := k3 a b hab hno
  cases hf : hs.find? (fun h => decide (g h ≠ g h0)) with
  | some h => exact ⟨h, rfl⟩
  | none =>
    rw [List.find?_eq_none] at hf
    have h1 := hf a hm.1
    have h2 := hf b hm.2
    simp only [ne_eq, decide_eq_true_eq, Decidable.not_not] at h1 h2
    exact absurd (h1.trans h2.symm) hne
theorem inn_tree {hs : List Str} {ps : Prs} (T : Tree hs ps) {l : Prs} (hl : ∀ q ∈ l, q ∈ ps) : Inn hs l := fun x y h => (T.mem (h.imp (hl _) (hl _))).2
theorem rx_prs {H : Hp} : ∀ {qs : PrL}, PrsAt H qs → Paired (RX H) (refsL qs) ((qs.map (·.2)).map pr2)
  | [], _ => .nil
  | q :: r, h => .cons (.tup (h q List.mem_cons_self) (fun y hy => by
      simp only [List.mem_cons, List.not_mem_nil, or_false] at hy
      rcases hy with rfl | rfl <;> exact ⟨_, .str _⟩) (by show 2 ≤ 1000; decide)) (rx_prs fun t ht => h t (List.mem_cons_of_mem _ ht))
/-- fewer houses, as long as the paths' ends are among them -/
theorem pathsFrom_sub {hs ss : List Str} : ∀ {l : Prs} {g g' : Str → Str} {i : Nat}, (∀ q ∈ l, q.1 ∈ ss ∧ q.2 ∈ ss) → pathsFrom hs g (l.map pr2) i = .inr g' → pathsFrom ss g (l.map pr2) i = .inr g'
  | [], _, _, _, _, h => h
  | q :: l, g, g', i, hm, h => by
    have m := hm q List.mem_cons_self
    have h : (if q.1 ∈ hs ∧ q.2 ∈ hs ∧ g q.1 ≠ g q.2 then pathsFrom hs (joinG g q.1 q.2) (l.map pr2) (i + 1) else .inl i) = .inr g' := h
    show (if q.1 ∈ ss ∧ q.2 ∈ ss ∧ g q.1 ≠ g q.2 then pathsFrom ss (joinG g q.1 q.2) (l.map pr2) (i + 1) else .inl i) = .inr g'
    split at h
    · rename_i c
      rw [if_pos ⟨m.1, m.2, c.2.2⟩]
      exact pathsFrom_sub (fun z hz => hm z (List.mem_cons_of_mem _ hz)) h
    · cases h
end K07

/-! Trees: another root; two joined by a path; other names; a part that hangs together. Law-independent, no machine. -/
namespace Tr
open PySem
theorem Tree.reroot {hs : List Str} {ps : Prs} (T : Tree hs ps) {r : Str} (hr : r ∈ hs) : ∃ (par : Str → Option Str) (rk : Str → Nat), par r = none ∧ (∀ x ∈ hs, x ≠ r → ∃ y, par x = some y) ∧ (∀ x y, par x = some y → x ∈ hs ∧ y ∈ hs ∧ rk y < rk x) ∧ (∀ x y, Adj ps x y ↔ (par x = some y ∨ par y = some x)) := by
  obtain ⟨f, R⟩ := T.root hr
  obtain ⟨rk, hrk⟩ : ∃ rk : Str → Nat, ∀ x l, Pth f r x l → rk x = l.length := by
    refine ⟨fun x => Classical.epsilon fun n => ∀ l, Pth f r x l → n = l.length, fun x l h => ?_⟩
    have : ∃ n, ∀ l, Pth f r x l → n = l.length := ⟨l.length, fun m hm => by rw [h.uniq R.none hm]⟩
    exact Classical.epsilon_spec this l h
  refine ⟨f, rk, R.none, fun x hx hne => ?_, fun x y e => ?_, fun x y => ⟨fun a => R.one x y a, fun a => ?_⟩⟩
  · obtain ⟨l, hl⟩ := R.way x hx
    cases hl with
    | nil => exact absurd rfl hne
    | cons h _ => exact ⟨_, h⟩
  · obtain ⟨h1, h2⟩ := T.mem (R.adj x y e)
    refine ⟨h1, h2, ?_⟩
    obtain ⟨l, hl⟩ := R.way y h2
    rw [hrk y l hl, hrk x _ (.cons e hl)]
    exact Nat.lt_succ_self _
  · rcases a with a | a
    · exact R.adj _ _ a
    · exact (R.adj _ _ a).symm
/-- two trees without a common house, joined by a path -/
theorem Tree.join {hs ks : List Str} {ps qs : Prs} (T : Tree hs ps) (S : Tree ks qs) (hd : ∀ x ∈ hs, x ∉ ks) {a b : Str} (ha : a ∈ hs) (hb : b ∈ ks) {q : Str × Str} (hq : q = (a, b) ∨ q = (b, a)) : Tree (hs ++ ks) (ps ++ qs ++ [q]) := by
  obtain ⟨par, rk, top, h1, h2, h3, h4, h5⟩ := T.ex
  obtain ⟨par2, rk2, k2, k3, k4, k5⟩ := S.reroot hb
  have n1 : ∀ {x y}, Adj ps x y → x ∉ ks ∧ y ∉ ks := fun h => ⟨hd _ (T.mem h).1, hd _ (T.mem h).2⟩
  have n2 : ∀ {x y}, Adj qs x y → x ∈ ks ∧ y ∈ ks := fun h => S.mem h
  have hak : a ∉ ks := hd a ha
  have adj : ∀ x y, Adj (ps ++ qs ++ [q]) x y ↔ (Adj ps x y ∨ Adj qs x y ∨ (x = a ∧ y = b) ∨ (x = b ∧ y = a)) := fun x y => by
    unfold Adj
    rcases hq with rfl | rfl <;> simp only [List.mem_append, List.mem_singleton, Prod.mk.injEq] <;> grind
  refine ⟨?_, ?_, fun x y e f => ?_, fun x => if x ∈ ks then (if x = b then some a else par2 x) else par x, fun x => if x ∈ ks then rk a + 1 + rk2 x else rk x, top, List.mem_append_left _ h1, ?_, fun x hx hne => ?_, fun x y e => ?_, fun x y => ?_⟩
  · rw [List.nodup_append]
    exact ⟨T.nd, S.nd, fun x hx y hy e => hd x hx (e ▸ hy)⟩
  · have c : ∀ z ∈ ps, z ∉ qs := fun z hz hz2 => (n1 (.inl hz : Adj ps z.1 z.2)).1 (n2 (.inl hz2 : Adj qs z.1 z.2)).1
    rw [List.nodup_append]
    refine ⟨?_, by simp, fun z hz w hw e => ?_⟩
    · rw [List.nodup_append]
      exact ⟨T.np, S.np, fun z hz w hw e => c z hz (e ▸ hw)⟩
    · rw [List.mem_singleton.mp hw] at e
      subst e
      rcases List.mem_append.mp hz with hz | hz
      · have := n1 (.inl hz : Adj ps z.1 z.2)
        rcases hq with rfl | rfl
        · exact this.2 hb
        · exact this.1 hb
      · have := n2 (.inl hz : Adj qs z.1 z.2)
        rcases hq with rfl | rfl
        · exact hak this.1
        · exact hak this.2
  · simp only [List.mem_append, List.mem_singleton] at e f
    rcases e with (e | e) | e
    · have m := n1 (.inl e : Adj ps x y)
      rcases f with (f | f) | f
      · exact T.once _ _ e f
      · exact m.1 (n2 (.inl f : Adj qs y x)).2
      · rcases hq with rfl | rfl <;> cases f
        · exact m.1 hb
        · exact m.2 hb
    · have m := n2 (.inl e : Adj qs x y)
      rcases f with (f | f) | f
      · exact (n1 (.inl f : Adj ps y x)).1 m.2
      · exact S.once _ _ e f
      · rcases hq with rfl | rfl <;> cases f
        · exact hak m.2
        · exact hak m.1
    · have hab : a ≠ b := fun z => hak (z ▸ hb)
      rcases f with (f | f) | f
      · have m := n1 (.inl f : Adj ps y x)
        rcases hq with rfl | rfl <;> cases e
        · exact m.1 hb
        · exact m.2 hb
      · have m := n2 (.inl f : Adj qs y x)
        rcases hq with rfl | rfl <;> cases e
        · exact hak m.2
        · exact hak m.1
      · rcases hq with rfl | rfl <;> cases e <;> cases f <;> exact hab rfl
  · show (if top ∈ ks then _ else par top) = none
    rw [if_neg (hd top h1)]
    exact h2
  · by_cases hk : x ∈ ks
    · by_cases hxb : x = b
      · exact ⟨a, by show (if x ∈ ks then (if x = b then some a else par2 x) else par x) = _; rw [if_pos hk, if_pos hxb]⟩
      · obtain ⟨y, hy⟩ := k3 x hk hxb
        exact ⟨y, by show (if x ∈ ks then (if x = b then some a else par2 x) else par x) = _; rw [if_pos hk, if_neg hxb]; exact hy⟩
    · have hx1 : x ∈ hs := (List.mem_append.mp hx).resolve_right hk
      obtain ⟨y, hy⟩ := h3 x hx1 hne
      exact ⟨y, by show (if x ∈ ks then (if x = b then some a else par2 x) else par x) = _; rw [if_neg hk]; exact hy⟩
  · have e : (if x ∈ ks then (if x = b then some a else par2 x) else par x) = some y := e
    show x ∈ hs ++ ks ∧ y ∈ hs ++ ks ∧ (if y ∈ ks then rk a + 1 + rk2 y else rk y) < (if x ∈ ks then rk a + 1 + rk2 x else rk x)
    by_cases hk : x ∈ ks
    · rw [if_pos hk] at e
      rw [if_pos hk]
      by_cases hxb : x = b
      · rw [if_pos hxb] at e
        cases e
        rw [if_neg hak]
        exact ⟨List.mem_append_right _ hk, List.mem_append_left _ ha, by omega⟩
      · rw [if_neg hxb] at e
        obtain ⟨q1, q2, q3⟩ := k4 _ _ e
        rw [if_pos q2]
        exact ⟨List.mem_append_right _ hk, List.mem_append_right _ q2, by omega⟩
    · rw [if_neg hk] at e
      obtain ⟨q1, q2, q3⟩ := h4 _ _ e
      rw [if_neg hk, if_neg (hd _ q2)]
      exact ⟨List.mem_append_left _ q1, List.mem_append_left _ q2, q3⟩
  · rw [adj]
    show _ ↔ ((if x ∈ ks then (if x = b then some a else par2 x) else par x) = some y ∨ (if y ∈ ks then (if y = b then some a else par2 y) else par y) = some x)
    rw [h5, k5]
    have p1 : ∀ {u v}, par u = some v → u ∉ ks ∧ v ∉ ks := fun h => ⟨hd _ (h4 _ _ h).1, hd _ (h4 _ _ h).2.1⟩
    have p2 : ∀ {u v}, par2 u = some v → u ∈ ks ∧ v ∈ ks := fun h => ⟨(k4 _ _ h).1, (k4 _ _ h).2.1⟩
    constructor
    · rintro ((e | e) | (e | e) | ⟨rfl, rfl⟩ | ⟨rfl, rfl⟩)
      · exact .inl (by rw [if_neg (p1 e).1]; exact e)
      · exact .inr (by rw [if_neg (p1 e).1]; exact e)
      · exact .inl (by rw [if_pos (p2 e).1, if_neg (fun z => by rw [z, k2] at e; cases e)]; exact e)
      · exact .inr (by rw [if_pos (p2 e).1, if_neg (fun z => by rw [z, k2] at e; cases e)]; exact e)
      · exact .inr (by rw [if_pos hb, if_pos rfl])
      · exact .inl (by rw [if_pos hb, if_pos rfl])
    · rintro (e | e)
      · by_cases hk : x ∈ ks
        · rw [if_pos hk] at e
          by_cases hxb : x = b
          · rw [if_pos hxb] at e
            cases e
            exact .inr (.inr (.inr ⟨hxb, rfl⟩))
          · rw [if_neg hxb] at e
            exact .inr (.inl (.inl e))
        · rw [if_neg hk] at e
          exact .inl (.inl e)
      · by_cases hk : y ∈ ks
        · rw [if_pos hk] at e
          by_cases hyb : y = b
          · rw [if_pos hyb] at e
            cases e
            exact .inr (.inr (.inl ⟨rfl, hyb⟩))
          · rw [if_neg hyb] at e
            exact .inr (.inl (.inr e))
        · rw [if_neg hk] at e
          exact .inl (.inr e)
/-- other names -/
theorem Tree.map {hs : List Str} {ps : Prs} (T : Tree hs ps) (f : Str → Str) (hf : ∀ x ∈ hs, ∀ y ∈ hs, f x = f y → x = y) : Tree (hs.map f) (ps.map fun q => (f q.1, f q.2)) := by
  obtain ⟨par, rk, top, h1, h2, h3, h4, h5⟩ := T.ex
  have mem : ∀ {q}, q ∈ ps → q.1 ∈ hs ∧ q.2 ∈ hs := fun {q} h => T.mem (.inl h : Adj ps q.1 q.2)
  obtain ⟨g, hg⟩ : ∃ g : Str → Str, ∀ x ∈ hs, g (f x) = x := by
    refine ⟨fun y => Classical.epsilon fun x => x ∈ hs ∧ f x = y, fun x hx => ?_⟩
    have := Classical.epsilon_spec (p := fun z => z ∈ hs ∧ f z = f x) ⟨x, hx, rfl⟩
    exact hf _ this.1 _ hx this.2
  have adj : ∀ u v, Adj (ps.map fun q => (f q.1, f q.2)) u v ↔ ∃ x y, u = f x ∧ v = f y ∧ Adj ps x y := fun u v => by
    unfold Adj
    simp only [List.mem_map, Prod.mk.injEq]
    constructor
    · rintro (⟨q, hq, e1, e2⟩ | ⟨q, hq, e1, e2⟩)
      · exact ⟨q.1, q.2, e1.symm, e2.symm, .inl hq⟩
      · exact ⟨q.2, q.1, e2.symm, e1.symm, .inr hq⟩
    · rintro ⟨x, y, rfl, rfl, h | h⟩
      · exact .inl ⟨_, h, rfl, rfl⟩
      · exact .inr ⟨_, h, rfl, rfl⟩
  refine ⟨?_, ?_, fun a b e k => ?_, fun u => if u ∈ hs.map f then (par (g u)).map f else none, fun u => rk (g u), f top, List.mem_map.mpr ⟨top, h1, rfl⟩, ?_, fun u hu hne => ?_, fun u v e => ?_, fun u v => ?_⟩
  · exact List.pairwise_map.mpr (List.Pairwise.imp_of_mem (fun {x y} hx hy hn e => hn (hf x hx y hy e)) T.nd)
  · refine List.pairwise_map.mpr (List.Pairwise.imp_of_mem (fun {x y} hx hy hn e => hn ?_) T.np)
    simp only [Prod.mk.injEq] at e
    exact Prod.ext (hf _ (mem hx).1 _ (mem hy).1 e.1) (hf _ (mem hx).2 _ (mem hy).2 e.2)
  · obtain ⟨q, hq, e1⟩ := List.mem_map.mp e
    obtain ⟨r, hr, e2⟩ := List.mem_map.mp k
    simp only [Prod.mk.injEq] at e1 e2
    have a1 : q.1 = r.2 := hf _ (mem hq).1 _ (mem hr).2 (e1.1.trans e2.2.symm)
    have a2 : q.2 = r.1 := hf _ (mem hq).2 _ (mem hr).1 (e1.2.trans e2.1.symm)
    have : r = (q.2, q.1) := Prod.ext a2.symm a1.symm
    rw [this] at hr
    exact T.once q.1 q.2 hq hr
  · show (if f top ∈ hs.map f then (par (g (f top))).map f else none) = none
    rw [hg top h1, h2]
    simp
  · obtain ⟨x, hx, rfl⟩ := List.mem_map.mp hu
    obtain ⟨y, hy⟩ := h3 x hx (fun z => hne (by rw [z]))
    exact ⟨f y, by show (if f x ∈ hs.map f then (par (g (f x))).map f else none) = _; rw [if_pos hu, hg x hx, hy]; rfl⟩
  · have e : (if u ∈ hs.map f then (par (g u)).map f else none) = some v := e
    by_cases hu : u ∈ hs.map f
    · rw [if_pos hu] at e
      obtain ⟨x, hx, rfl⟩ := List.mem_map.mp hu
      rw [hg x hx] at e
      obtain ⟨y, hy, rfl⟩ := Option.map_eq_some_iff.mp e
      obtain ⟨q1, q2, q3⟩ := h4 _ _ hy
      refine ⟨hu, List.mem_map.mpr ⟨y, q2, rfl⟩, ?_⟩
      show rk (g (f y)) < rk (g (f x))
      rw [hg x hx, hg y q2]
      exact q3
    · rw [if_neg hu] at e
      cases e
  · rw [adj]
    show _ ↔ ((if u ∈ hs.map f then (par (g u)).map f else none) = some v ∨ (if v ∈ hs.map f then (par (g v)).map f else none) = some u)
    constructor
    · rintro ⟨x, y, rfl, rfl, h⟩
      obtain ⟨m1, m2⟩ := T.mem h
      rcases (h5 x y).mp h with e | e
      · exact .inl (by rw [if_pos (List.mem_map.mpr ⟨x, m1, rfl⟩), hg x m1, e]; rfl)
      · exact .inr (by rw [if_pos (List.mem_map.mpr ⟨y, m2, rfl⟩), hg y m2, e]; rfl)
    · rintro (e | e)
      · by_cases hu : u ∈ hs.map f
        · rw [if_pos hu] at e
          obtain ⟨x, hx, rfl⟩ := List.mem_map.mp hu
          rw [hg x hx] at e
          obtain ⟨y, hy, rfl⟩ := Option.map_eq_some_iff.mp e
          exact ⟨x, y, rfl, rfl, (h5 x y).mpr (.inl hy)⟩
        · rw [if_neg hu] at e
          cases e
      · by_cases hv : v ∈ hs.map f
        · rw [if_pos hv] at e
          obtain ⟨x, hx, rfl⟩ := List.mem_map.mp hv
          rw [hg x hx] at e
          obtain ⟨y, hy, rfl⟩ := Option.map_eq_some_iff.mp e
          exact ⟨y, x, rfl, rfl, (h5 y x).mpr (.inr hy)⟩
        · rw [if_neg hv] at e
          cases e
/-- what stands behind x, all among ss -/
inductive Dsc (par : Str → Option Str) (ss : List Str) (x : Str) : Str → Prop
  | base : Dsc par ss x x
  | up {c d : Str} (h : Dsc par ss x c) (e : par d = some c) (hc : c ∈ ss) : Dsc par ss x d
theorem least {α : Type} (f : α → Nat) : ∀ l : List α, l ≠ [] → ∃ x ∈ l, ∀ y ∈ l, f x ≤ f y
  | [], h => absurd rfl h
  | [a], _ => ⟨a, by simp, fun y hy => by simp at hy; rw [hy]; exact Nat.le_refl _⟩
  | a :: b :: r, _ => by
    obtain ⟨x, h1, h2⟩ := least f (b :: r) (by simp)
    by_cases h : f x ≤ f a
    · exact ⟨x, List.mem_cons_of_mem _ h1, fun y hy => by
        rcases List.mem_cons.mp hy with rfl | hy
        · exact h
        · exact h2 y hy⟩
    · exact ⟨a, List.mem_cons_self, fun y hy => by
        rcases List.mem_cons.mp hy with rfl | hy
        · exact Nat.le_refl _
        · have := h2 y hy; omega⟩
/-- the paths among some houses -/
def among (ss : List Str) (ps : Prs) : Prs := ps.filter fun q => decide (q.1 ∈ ss) && decide (q.2 ∈ ss)
theorem among_adj {ss : List Str} {ps : Prs} (y z : Str) : Adj (among ss ps) y z ↔ Adj ps y z ∧ y ∈ ss ∧ z ∈ ss := by
  unfold Adj among
  simp only [List.mem_filter, Bool.and_eq_true, decide_eq_true_eq]
  constructor
  · rintro (⟨e1, e2, e3⟩ | ⟨e1, e2, e3⟩)
    · exact ⟨.inl e1, e2, e3⟩
    · exact ⟨.inr e1, e3, e2⟩
  · rintro ⟨e1 | e1, e2, e3⟩
    · exact .inl ⟨e1, e2, e3⟩
    · exact .inr ⟨e1, e3, e2⟩
/-- some of a tree's houses, that hang together by the paths among them -/
theorem Tree.part {hs ss : List Str} {ps : Prs} (T : Tree hs ps) (hn : ss.Nodup) (hs0 : ss ≠ []) (hsub : ∀ x ∈ ss, x ∈ hs) (hc : ∀ x ∈ ss, ∀ y ∈ ss, Conn (among ss ps) x y) : Tree ss (among ss ps) := by
  obtain ⟨par, rk, top, h1, h2, h3, h4, h5⟩ := T.ex
  have low : ∀ x, (∀ y, par x = some y → y ∉ ss) → ∀ z, Conn (among ss ps) x z → Dsc par ss x z := by
    intro x hx z hz
    induction hz with
    | refl => exact .base
    | @step c d _ e ih =>
      obtain ⟨a, mc, md⟩ := (among_adj c d).mp e
      rcases (h5 c d).mp a with p | p
      · cases ih with
        | base => exact absurd md (hx d p)
        | up h e2 hc2 =>
          rw [p] at e2
          cases e2
          exact h
      · exact .up ih p mc
  obtain ⟨r, r1, r2⟩ := least rk ss hs0
  have rp : ∀ y, par r = some y → y ∉ ss := fun y e m => by
    have := (h4 _ _ e).2.2
    have := r2 y m
    omega
  have one : ∀ x ∈ ss, x ≠ r → ∃ y, par x = some y ∧ y ∈ ss := fun x hx hne => by
    refine Classical.byContradiction fun no => ?_
    have d := low x (fun y e m => no ⟨y, e, m⟩) r (hc x hx r r1)
    cases d with
    | base => exact hne rfl
    | up _ e m => exact rp _ e m
  refine ⟨hn, T.np.filter _, fun a c e f => T.once a c (List.mem_filter.mp e).1 (List.mem_filter.mp f).1, fun y => if y ∈ ss then (match par y with | some z => if z ∈ ss then some z else none | none => none) else none, rk, r, r1, ?_, fun x hx hne => ?_, fun x y e => ?_, fun x y => ?_⟩
  · show (if r ∈ ss then (match par r with | some z => if z ∈ ss then some z else none | none => none) else none) = none
    rw [if_pos r1]
    cases e : par r with
    | none => rfl
    | some z => exact if_neg (rp z e)
  · obtain ⟨y, e, m⟩ := one x hx hne
    exact ⟨y, by show (if x ∈ ss then (match par x with | some z => if z ∈ ss then some z else none | none => none) else none) = some y; rw [if_pos hx, e]; exact if_pos m⟩
  · have e : (if x ∈ ss then (match par x with | some z => if z ∈ ss then some z else none | none => none) else none) = some y := e
    by_cases hx : x ∈ ss
    · rw [if_pos hx] at e
      cases e2 : par x with
      | none => rw [e2] at e; cases e
      | some z =>
        rw [e2] at e
        by_cases hz : z ∈ ss
        · have e : (if z ∈ ss then some z else none) = some y := e
          rw [if_pos hz] at e
          cases e
          exact ⟨hx, hz, (h4 _ _ e2).2.2⟩
        · have e : (if z ∈ ss then some z else none) = some y := e
          rw [if_neg hz] at e
          cases e
    · rw [if_neg hx] at e
      cases e
  · have key : ∀ u v, u ∈ ss → v ∈ ss → ((if u ∈ ss then (match par u with | some z => if z ∈ ss then some z else none | none => none) else none) = some v ↔ par u = some v) := fun u v hu hv => by
      rw [if_pos hu]
      cases e2 : par u with
      | none => simp
      | some z =>
        show (if z ∈ ss then some z else none) = some v ↔ some z = some v
        by_cases hz : z ∈ ss
        · rw [if_pos hz]
        · rw [if_neg hz]
          constructor
          · intro q; cases q
          · intro q; cases q; exact absurd hv hz
    have memb : ∀ u v, (if u ∈ ss then (match par u with | some z => if z ∈ ss then some z else none | none => none) else none) = some v → u ∈ ss ∧ v ∈ ss := fun u v e => by
      by_cases hu : u ∈ ss
      · rw [if_pos hu] at e
        cases e2 : par u with
        | none => rw [e2] at e; cases e
        | some z =>
          rw [e2] at e
          have e : (if z ∈ ss then some z else none) = some v := e
          by_cases hz : z ∈ ss
          · rw [if_pos hz] at e
            cases e
            exact ⟨hu, hz⟩
          · rw [if_neg hz] at e
            cases e
      · rw [if_neg hu] at e
        cases e
    rw [among_adj, h5]
    constructor
    · rintro ⟨e | e, mx, my⟩
      · exact .inl ((key x y mx my).mpr e)
      · exact .inr ((key y x my mx).mpr e)
    · rintro (e | e)
      · obtain ⟨mx, my⟩ := memb _ _ e
        exact ⟨.inl ((key x y mx my).mp e), mx, my⟩
      · obtain ⟨my, mx⟩ := memb _ _ e
        exact ⟨.inr ((key y x my mx).mp e), mx, my⟩
end Tr

namespace K07
open PySem PySem.Spec PyProof.Rows L2 Tr Sq Dk Exs Oeq
/-! ### part_of -/
abbrev sPart : Stmt := top 30
abbrev nmPart : List Str := ["village", "some", "inner", "one", "other"]
theorem scPart : FnScope nmPart ["village", "some"] (defScope sPart) := ⟨rfl, rfl, rfl, by decide +kernel, rfl, by decide +kernel, by decide +kernel⟩
/-- a new village, told -/
def NewV (C : Addr) (H : Hp) (Q : VK) (hs : List Str) (ps : Prs) : Prop := ∀ (H' : Hp) (u : Addr) (hs' : List Str) (ps' : Prs) (m : VilD), Evl.Ex H H' → H u = none → Vil H' C u hs' ps' m → FreshV H hs' m → hs'.Perm hs → sortedS hs' = true → ps'.Perm (ps.map ordP) → ps'.Pairwise (fun x y => Srs.lexT y x = false) → Tree hs' ps' → Q (.ref u) H'
/-- what a village is known to be: its houses good names, not many -/
def GoodV (hs : List Str) (ps : Prs) : Prop := Tree hs ps ∧ hs.length ≤ 50 ∧ ps.length ≤ 50 ∧ ∀ h ∈ hs, nameOk h = true ∧ h.length ≤ 1000
def spPart (C CB CJ : Addr) : Sp := fun vs H Q E => ∃ (v : Addr) (x : V) (o : Option (List V)) (hs : List Str) (ps : Prs) (m : VilD), vs = [.ref v, x] ∧ Vil H C v hs ps m ∧ GoodV hs ps ∧ RX H x o ∧
  (∀ i, someFlaw hs o = some i → ∀ H' d, Evl.Ex H H' → H' d = none → E (.ref CB) (some d) (upd H' d (.xd [("index", .int (i : Nat))]))) ∧
  (∀ ss : List Str, o = some (ss.map V.str) → ss ≠ [] → ss.Nodup → (∀ s ∈ ss, s ∈ hs) → ((∀ a ∈ ss, ∀ b ∈ ss, Conn (among ss ps) a b) → NewV C H Q ss (among ss ps)) ∧
    ∀ (g : Str → Str) (ys : List Str) (h0 h : Str), Grp (among ss ps) g → ys.Perm ss → sortedS ys = true → ys.head? = some h0 → ys.find? (fun h => decide (g h ≠ g h0)) = some h → ∀ H' d, Evl.Ex H H' → H' d = none → E (.ref CJ) (some d) (upd H' d (.xd [("house", .str h)])))
theorem some_good {hs : List Str} : ∀ {xs : List V} {seen : List V} {i : Nat}, someFrom hs seen xs i = none → ∃ ss : List Str, xs = ss.map V.str ∧ ss.Nodup ∧ (∀ s ∈ ss, s ∈ hs) ∧ ∀ s ∈ ss, V.str s ∉ seen
  | [], _, _, _ => ⟨[], rfl, List.nodup_nil, fun _ h => (by cases h), fun _ h => (by cases h)⟩
  | y :: r, seen, i, h => by
    have h : (if isHouse hs y = true ∧ y ∉ seen then someFrom hs (seen ++ [y]) r (i + 1) else some i) = none := h
    split at h
    · rename_i c
      obtain ⟨ss, rfl, h1, h2, h3⟩ := some_good h
      obtain ⟨z, rfl⟩ : ∃ z, y = .str z := by
        cases y with
        | str z => exact ⟨z, rfl⟩
        | _ => cases c.1
      refine ⟨z :: ss, rfl, List.nodup_cons.mpr ⟨fun m => h3 z m (by simp), h1⟩, fun s hs => ?_, fun s hs => ?_⟩
      · rcases List.mem_cons.mp hs with rfl | hs
        · exact of_decide_eq_true c.1
        · exact h2 s hs
      · rcases List.mem_cons.mp hs with rfl | hs
        · exact c.2
        · exact fun m => h3 s hs (List.mem_append_left _ m)
    · cases h
section
variable {P : Program} {w : World} {K : PySem.W.Frag} {mg : Str → Option Value} {base : Heap}
abbrev spVilP (K : PySem.W.Frag) (CH CP CJ : Addr) : Sp := Lft.spOr (spInitG K) (spInitX K CH CP CJ)
theorem ok_part {C CB CH CP CJ f fS fI fP : Addr} {fd fdS fdI fdP : FuncData} (F : FnP K "part_of" sPart f fd)
    (GS : FnOk P w K mg base (L2.CX P w) 3 fS fdS ["village", "some"] (spSome C CB)) (bS : L2.Binds K fdS ["village", "some"] []) (kS : PySem.W.keepIn K (.ref fS) = true) (gS : mg "check_some" = some (.ref fS))
    (vc : VC P w K mg base C) (gN : mg "Village" = some (.ref C)) (MN : Mk K C fI) (GI : FnOk P w K mg base (L2.CX P w) 5 fI fdI ["self", "houses", "paths"] (spVilP K CH CP CJ)) (bI : L2.Binds K fdI ["self", "houses", "paths"] [])
    (mP : Meth K C "paths" fP) (GP : FnOk P w K mg base CX0 1 fP fdP ["self"] (spPathsM K)) (bP : L2.Binds K fdP ["self"] []) : FnOk P w K mg base (L2.CX P w) 7 f fd ["village", "some"] (spPart C CB CJ) := by
  refine F.ok scPart (fun vs H Q E h => ?_) (fun cdv A outer s H vs Q E hr h => ?_)
  · obtain ⟨v, x, o, hs, ps, m, rfl, _⟩ := h
    rfl
  · obtain ⟨v, x, o, hs, ps, m, rfl, Vh, ⟨Tr, h50, p50, hgd⟩, hx, k1, k2⟩ := h
    refine' ⟨_, pss_cons (ps_expr (pe_callS GS (hr.mono (by decide)) rfl gS kS bS (fun σ => passAt (takes_of rfl rfl rfl rfl) σ) (pa_cons (pv 0) (pa_cons (pv 1) pa_nil))))
      (pss_cons ?lc
      (pss_one (ps_ret (pe_makeS MN GI (hr.mono (by decide)) (by rfl) gN bI (fun σ => passAt (takes_of rfl rfl rfl rfl) σ) (pa_cons (pv 1) (pa_cons (pv 2) pa_nil)))))), ?rd⟩
    case lc =>
      refine ps_setLc (i := 2) (own := [("one", 3), ("other", 4)]) (g := gTup K 2 (gCons (gName 3) (gCons (gName 4) gNil))) (tt := tAnd (tTest (tOp (rIn K false) (tVar 3) (tVar 1))) (tTest (tOp (rIn K false) (tVar 4) (tVar 1)))) (te := tTup (tCons (tVar 3) (tCons (tVar 4) tNil))) (by rfl) scPart.nd rfl rfl (sw_true rfl rfl rfl (by decide +kernel)) (pi_list (pe_meth0 (pv 0) vc.cl mP GP (hr.mono (by decide)) bP .nil pass0))
        (blkOk_by (own := [("one", 3), ("other", 4)]) (N := nmPart) (sc := defScope sPart) (by decide +kernel)) (fun _ _ _ _ _ => pg_tup rfl (pgs_cons (pg_name (i := 3) scPart.nd rfl (.inl rfl)) (pgs_cons (pg_name (i := 4) scPart.nd rfl (.inl rfl)) pgs_nil))) (fun _ _ _ _ _ => pts_one (PW.pt (pw_and (pt_cmpR op_in_seq (pv 3) (pv 1) rfl) (pw_and1 (pt_cmpR op_in_seq (pv 4) (pv 1) rfl))))) ?_
      intro _ _ _ _ _
      exact pe_tup (pa_cons (pv 3) (pa_cons (pv 4) pa_nil))
    case rd =>
      refine ⟨_, rfl, _, rfl, v, x, o, hs, ps, m, rfl, Vh, hx, fun hno H1 x1 => ?_, fun i hi H' d e hd => k1 i hi H' d e hd⟩
      obtain ⟨xs, rfl⟩ : ∃ xs, o = some xs := by
        cases o with
        | some xs => exact ⟨xs, rfl⟩
        | none => cases hno
      have hx0 : xs.length ≠ 0 := fun z => by
        have h : (if xs.length = 0 then some 0 else someFrom hs [] xs 0) = none := hno
        rw [if_pos z] at h
        cases h
      have hno : someFrom hs [] xs 0 = none := by
        have h : (if xs.length = 0 then some 0 else someFrom hs [] xs 0) = none := hno
        rw [if_neg hx0] at h
        exact h
      obtain ⟨ss, rfl, hsn, hsub, _⟩ := some_good hno
      obtain ⟨t, a, rfl, hlt⟩ := hx.lt2
      have hs0 : ss ≠ [] := fun z => hx0 (by rw [z]; rfl)
      obtain ⟨k3, k4⟩ := k2 ss rfl hs0 hsn hsub
      have Vh1 := Vh.ex x1
      refine ⟨_, rfl, v, m.dx, _, rfl, Vh1.at_, rfl, v, C, hs, ps, m, rfl, vc.cl, vc.n2, Vh1, fun q hq => ?_⟩
      have xq := Evl.Ex.new (o := .lst (refsL m.zs)) hq
      have x2 := x1.trans xq
      have q2 : upd H1 q (.lst (refsL m.zs)) q = some (.lst (refsL m.zs)) := upd_same
      have Vh2 := Vh1.ex xq
      have lt2 : Lt _ t a (ss.map V.str) := hlt.ex x2
      have zl : m.zs.length ≤ 50 := by rw [← List.length_map (f := (·.2)), Vh.eq]; exact p50
      generalize upd H1 q (.lst (refsL m.zs)) = H2 at x2 q2 Vh2 lt2 ⊢
      refine ⟨q, rfl, ⟨_, SqL.of q2⟩, fun D hD => ?_⟩
      have sl : ss.length ≤ 50 := Nat.le_trans (hsn.length_le_of_subset hsub) h50
      have fl : (ss.map V.str).all flatV = true := List.all_eq_true.mpr fun y hy => by
        obtain ⟨z, _, rfl⟩ := List.mem_map.mp hy
        rfl
      refine lc_it (walk_list (xs := refsL m.zs)) (fun j H' => Evl.Ex H2 H' ∧ ∃ us : PrL, H' D = some (.lst (refsL us)) ∧ PrsAt H' us ∧ us.map (·.2) = among ss ((m.zs.map (·.2)).take j) ∧ us.length ≤ j) ⟨Evl.Ex.new hD, [], upd_same, fun _ h => (by cases h), rfl, Nat.le_refl _⟩ (fun j H' _ hp => SqL.of (hp.1 _ _ q2)) (fun j x H6 H7 hj hp hy => ?_) (fun H6 hp => ?_)
      · obtain ⟨x6, us, d1, d2, d3, d4⟩ := hp
        obtain ⟨rfl, hx⟩ := hy
        unfold refsL at hj hx
        rw [List.length_map] at hj
        obtain ⟨t3, ht⟩ := getD_of hj
        rw [List.getElem?_map, ht] at hx
        cases hx
        obtain ⟨T, b, c⟩ := t3
        have hT := x6 _ _ (Vh2.pr _ (List.mem_of_getElem? ht))
        have tk : (m.zs.map (·.2)).take (j + 1) = (m.zs.map (·.2)).take j ++ [(b, c)] := by rw [List.take_add_one, List.getElem?_map, ht]; rfl
        have amg : among ss ((m.zs.map (·.2)).take (j + 1)) = us.map (·.2) ++ among ss [(b, c)] := by rw [tk, d3]; unfold among; rw [List.filter_append]
        have lt6 := lt2.ex x6
        have sk := sqk_or (K := K) lt6.sq
        refine ⟨T, _, rfl, SqT.of hT, rfl, _, _, rfl, _, _, rfl, rfl, rfl, _, rfl, _, rfl, a, _, rfl, sk, rfl, fl, _, rfl, ?_⟩
        rw [if_neg (by simp), in_strs]
        by_cases hb : b ∈ ss
        · rw [decide_eq_true hb]
          refine iteT ⟨_, rfl, _, rfl, a, _, rfl, sk, rfl, fl, _, rfl, ?_⟩
          rw [if_neg (by simp), in_strs]
          by_cases hc : c ∈ ss
          · rw [decide_eq_true hc]
            have e1 : among ss [(b, c)] = [(b, c)] := by unfold among; simp [hb, hc]
            refine iteT ⟨_, rfl, _, rfl, by show 2 ≤ sizeLine; decide, fun u hu => ?_⟩
            have hDu : D ≠ u := ne_of_none d1 hu
            refine ⟨_, by rw [upd_ne hDu]; exact d1, ?_, ex_upd (x6.trans (Evl.Ex.new hu)) hD, us ++ [(u, b, c)], by rw [upd_same]; unfold refsL; rw [List.map_append]; rfl, fun t ht => ?_, ?_, ?_⟩
            · unfold refsL
              rw [List.length_map]
              exact Nat.lt_of_le_of_lt (show us.length ≤ 1000 by omega) (by decide)
            · rcases List.mem_append.mp ht with ht | ht
              · have := d2 t ht
                rw [upd_ne (fun z => by rw [z, d1] at this; cases this), upd_ne (ne_of_none this hu)]
                exact this
              · rw [List.mem_singleton.mp ht, upd_ne hDu.symm]
                exact upd_same
            · rw [amg, e1, List.map_append]
              rfl
            · rw [List.length_append, List.length_singleton]
              omega
          · rw [decide_eq_false hc]
            have e1 : among ss [(b, c)] = [] := by unfold among; simp [hc]
            exact iteF ⟨x6, us, d1, d2, by rw [amg, e1, List.append_nil], by omega⟩
        · rw [decide_eq_false hb]
          have e1 : among ss [(b, c)] = [] := by unfold among; simp [hb]
          exact iteF ⟨x6, us, d1, d2, by rw [amg, e1, List.append_nil], by omega⟩
      · obtain ⟨x6, us, d1, d2, d3, d4⟩ := hp
        rw [List.take_of_length_le (by unfold refsL; rw [List.length_map, List.length_map]; exact Nat.le_refl _), Vh.eq] at d3
        have ul : us.length ≤ 50 := Nat.le_trans d4 (by unfold refsL; rw [List.length_map]; exact zl)
        have x06 := x2.trans x6
        have lt6 := lt2.ex x6
        have hin : ∀ q ∈ among ss ps, q.1 ∈ ss ∧ q.2 ∈ ss := fun q hq => by
          have := (List.mem_filter.mp hq).2
          simpa using this
        have hsubp : ∀ q ∈ among ss ps, q ∈ ps := fun q hq => (List.mem_filter.mp hq).1
        obtain ⟨g, g1, g2, _⟩ := forest Tr (l := among ss ps) (Tr.np.filter _) hsubp
        refine ⟨_, rfl, _, rfl, fun u dx hu hdx hne => ?_⟩
        have hlu : ∀ {b : Addr} {o : HO}, H b = some o → b ≠ u := fun h z => by rw [z] at h; rw [x06 _ _ h] at hu; cases hu
        by_cases hcn : ∀ a ∈ ss, ∀ b ∈ ss, Conn (among ss ps) a b
        · refine .inl (mkV (tl := t) (tq := false) vc.cl vc.n1 vc.n2 vc.n3 lt6 (q := D) (qs := us) d1 (fun r hr => ⟨true, d2 r hr⟩) (by rw [d3]; exact Tr.part hsn hs0 hsub hcn) hs0 (by omega) (by omega) (fun s hs => hgd s (hsub s hs)) hu hdx hne fun H' hs' ps' m' x' V' fr' e1 e2 e3 e4 T' => ⟨rfl, ?_⟩)
          have z : ∀ {b : Addr}, H6 b = none → H b = none := fun hb => none_of (fun o e => x06 _ _ e) hb
          exact k3 hcn H' u hs' ps' m' (x06.trans x') (z hu) V' ⟨z fr'.a, z fr'.b, z fr'.d, fun t ht => z (fr'.z t ht), fun h hh => z (fr'.ad h hh)⟩ e1 e2 (by rw [d3] at e3; exact e3) e4 T'
        · have hu6 : ∀ {b : Addr} {o : HO}, H6 b = some o → b ≠ u ∧ b ≠ dx := fun h => ⟨ne_of_none h hu, ne_of_none h hdx⟩
          have up : ∀ {b : Addr} {o : HO}, H6 b = some o → upd (upd H6 dx (.own u)) u (.ins C dx []) b = some o := fun h => by rw [upd_ne (hu6 h).1, upd_ne (hu6 h).2]; exact h
          refine .inr ⟨u, C, dx, .ref a, .ref D, rfl, upd_same, vc.cl, vc.n1, .inr ⟨t, a, ss, some ((among ss ps).map pr2), rfl, up lt6, (hu6 lt6).1, hsn, hs0, by omega, fun s hs => hgd s (hsub s hs), fun H' but => ?_, fun ys hy1 hy2 => ?_⟩⟩
          · have k8 : Evl.Ex H6 H' := fun b o h => but b o (hu6 h).1 (up h)
            have := rx_prs (d2.ex k8)
            rw [d3] at this
            exact .seq (t := false) (k8 _ _ d1) this (by unfold refsL; rw [List.length_map]; omega)
          · cases ys with
            | nil => exact absurd (hy1.symm.eq_nil) hs0
            | cons h0 yt =>
              refine ⟨h0, rfl, .inr ?_⟩
              cases hf : (h0 :: yt).find? (fun h => decide (g h ≠ g h0)) with
              | none =>
                refine absurd (fun a ha b hb => ?_) hcn
                rw [List.find?_eq_none] at hf
                have h1 := hf a (hy1.mem_iff.mpr ha)
                have h2 := hf b (hy1.mem_iff.mpr hb)
                simp only [ne_eq, decide_eq_true_eq, Decidable.not_not] at h1 h2
                exact (g1 a b).mp (h1.trans h2.symm)
              | some h =>
                refine ⟨g, h, ?_, hf, fun H' d but hd => ?_⟩
                · have e := g2 []
                  rw [List.append_nil] at e
                  exact pathsFrom_sub (fun q hq => ⟨hy1.mem_iff.mpr (hin q hq).1, hy1.mem_iff.mpr (hin q hq).2⟩) e
                · exact k4 g (h0 :: yt) h0 h g1 hy1 hy2 rfl hf H' d (fun b o hb => but b o (hlu hb) (up (x06 _ _ hb))) hd
end
end K07

namespace K07
open PySem PySem.Spec PyProof.Rows L2 Tr Sq Dk Exs Oeq
/-! ### built_on, joined_by -/
abbrev sBuilt : Stmt := top 31
abbrev sJoinV : Stmt := top 32
theorem scBuilt : FnScope ["village", "house", "name"] ["village", "house", "name"] (defScope sBuilt) := ⟨rfl, rfl, rfl, by decide +kernel, rfl, by decide +kernel, by decide +kernel⟩
theorem scJoinV : FnScope ["one", "other", "house", "far", "name"] ["one", "other", "house", "far"] (defScope sJoinV) := ⟨rfl, rfl, rfl, by decide +kernel, rfl, by decide +kernel, by decide +kernel⟩
/-- an own error with its one field, told -/
def Ref1 (E : XK) (CE : Addr) (f : Str) (x : V) (H : Hp) : Prop := ∀ H' d, Evl.Ex H H' → H' d = none → E (.ref CE) (some d) (upd H' d (.xd [(f, x)]))
theorem Ref1.ex {E : XK} {CE : Addr} {f : Str} {x : V} {H H' : Hp} (h : Ref1 E CE f x H) (e : Evl.Ex H H') : Ref1 E CE f x H' := fun H2 d e2 hd => h H2 d (e.trans e2) hd
theorem NewV.ex {C : Addr} {H H' : Hp} {Q : VK} {hs : List Str} {ps : Prs} (h : NewV C H Q hs ps) (e : Evl.Ex H H') : NewV C H' Q hs ps := fun H2 u hs' ps' m e2 hu V fr e3 e4 e5 e6 T =>
  have z : ∀ {b : Addr}, H' b = none → H b = none := fun hb => none_of (fun o q => e _ _ q) hb
  h H2 u hs' ps' m (e.trans e2) (z hu) V ⟨z fr.a, z fr.b, z fr.d, fun t ht => z (fr.z t ht), fun x hx => z (fr.ad x hx)⟩ e3 e4 e5 e6 T
def spBuilt (C CN CB : Addr) : Sp := fun vs H Q E => ∃ (v : Addr) (x y : V) (nx ny : String) (hs : List Str) (ps : Prs) (m : VilD), vs = [.ref v, x, y] ∧ Vil H C v hs ps m ∧ GoodV hs ps ∧ Pl H x nx ∧ Pl H y ny ∧ (∀ z, y = .str z → z.length ≤ 1000) ∧
  (isHouse hs x = false → Ref1 E CN "thing" x H) ∧ (isHouse hs x = true → (isNm y = false ∨ isHouse hs y = true) → Ref1 E CB "thing" y H) ∧
  ∀ a b, x = .str a → y = .str b → a ∈ hs → nameOk b = true → b ∉ hs → NewV C H Q (hs ++ [b]) (ps ++ [(a, b)])
def spJoinV (C CN CC : Addr) : Sp := fun vs H Q E => ∃ (v u : Addr) (x y : V) (nx ny : String) (hs ks : List Str) (ps qs : Prs) (m n : VilD), vs = [.ref v, .ref u, x, y] ∧ Vil H C v hs ps m ∧ Vil H C u ks qs n ∧ Tree hs ps ∧ Tree ks qs ∧ hs.length + ks.length ≤ 60 ∧ ps.length + qs.length ≤ 59 ∧
  (∀ h ∈ hs, nameOk h = true ∧ h.length ≤ 1000) ∧ (∀ h ∈ ks, nameOk h = true ∧ h.length ≤ 1000) ∧ Pl H x nx ∧ Pl H y ny ∧
  (isHouse hs x = false → Ref1 E CN "thing" x H) ∧ (isHouse hs x = true → isHouse ks y = false → Ref1 E CN "thing" y H) ∧
  ∀ a b, x = .str a → y = .str b → a ∈ hs → b ∈ ks → (∀ c, hs.find? (fun h => decide (h ∈ ks)) = some c → Ref1 E CC "name" (.str c) H) ∧ ((∀ h ∈ hs, h ∉ ks) → NewV C H Q (hs ++ ks) (ps ++ qs ++ [(a, b)]))
theorem isHouse_str {hs : List Str} {x : V} (h : isHouse hs x = true) : ∃ z, x = .str z ∧ z ∈ hs := by
  cases x with
  | str z => exact ⟨z, rfl, of_decide_eq_true h⟩
  | _ => cases h
theorem isNm_str {x : V} (h : isNm x = true) : ∃ z, x = .str z ∧ nameOk z = true := by
  cases x with
  | str z => exact ⟨z, rfl, h⟩
  | _ => cases h
section
variable {P : Program} {w : World} {K : PySem.W.Frag} {mg : Str → Option Value} {base : Heap}
theorem ok_built {C CN CB f f1 fA fN fH fI fP : Addr} {fd fdA fdN fdH fdI fdP : FuncData} (F : FnP K "built_on" sBuilt f fd) (T1 : Err P w K mg base "BadName" "thing" CB f1)
    (GA : FnOk P w K mg base (L2.CX P w) 3 fA fdA ["village", "thing"] (spAskH C CN)) (bA : L2.Binds K fdA ["village", "thing"] []) (kA : PySem.W.keepIn K (.ref fA) = true) (gA : mg "ask_house" = some (.ref fA))
    (GN : FnOk P w K mg base CX0 1 fN fdN ["thing"] spIsNameX) (bN : L2.Binds K fdN ["thing"] []) (kN : PySem.W.keepIn K (.ref fN) = true) (gNm : mg "is_name" = some (.ref fN))
    (GH : FnOk P w K mg base CX0 2 fH fdH ["village", "thing"] (spIsHouse C)) (bH : L2.Binds K fdH ["village", "thing"] []) (kH : PySem.W.keepIn K (.ref fH) = true) (gH : mg "is_house" = some (.ref fH))
    (vc : VC P w K mg base C) (gN : mg "Village" = some (.ref C)) (MN : Mk K C fI) (GI : FnOk P w K mg base CX0 4 fI fdI ["self", "houses", "paths"] (spInitG K)) (bI : L2.Binds K fdI ["self", "houses", "paths"] [])
    (mP : Meth K C "paths" fP) (GP : FnOk P w K mg base CX0 1 fP fdP ["self"] (spPathsM K)) (bP : L2.Binds K fdP ["self"] []) : FnOk P w K mg base (L2.CX P w) 6 f fd ["village", "house", "name"] (spBuilt C CN CB) := by
  obtain ⟨fM, fdM, mM, GM, bM⟩ := vc.hs
  refine F.ok scBuilt (fun vs H Q E h => ?_) (fun cdv A outer s H vs Q E hr h => ?_)
  · obtain ⟨v, x, y, nx, ny, hs, ps, m, rfl, _⟩ := h
    rfl
  · obtain ⟨v, x, y, nx, ny, hs, ps, m, rfl, Vh, ⟨Tr, h50, p50, hgd⟩, hx, hy, hlen, k1, k2, k3⟩ := h
    refine' ⟨_, pss_cons (ps_expr (pe_callS GA (hr.mono (by decide)) rfl gA kA bA (fun σ => passAt (takes_of rfl rfl rfl rfl) σ) (pa_cons (pv 0) (pa_cons (pv 1) pa_nil))))
      (pss_cons (ps_if (PW.pt (pw_or (pt_not (pt_val (pe_call GN (hr.mono (by decide)) rfl gNm kN bN .nil pass0 (pa_cons (pv 2) pa_nil)))) (pw_or1 (pt_val (pe_call GH (hr.mono (by decide)) rfl gH kH bH .nil pass0 (pa_cons (pv 0) (pa_cons (pv 2) pa_nil))))))) (pss_one (ps_raise1 rfl T1 (hr.mono (by decide)) (takes_of rfl rfl rfl rfl) rfl (pv 2))) pss_nil)
      (pss_one (ps_ret (pe_make MN GI (hr.mono (by decide)) (by rfl) gN bI .nil pass0 (pa_cons (pe_lst (StX.pa_star (pe_meth0 (pv 0) vc.cl mM GM (hr.mono (by decide)) bM .nil pass0) (pa_cons (pv 2) pa_nil)))
        (pa_cons (pe_lst (StX.pa_star (pe_meth0 (pv 0) vc.cl mP GP (hr.mono (by decide)) bP .nil pass0) (pa_cons (pe_tup (pa_cons (pv 1) (pa_cons (pv 2) pa_nil))) pa_nil))) pa_nil)))))), ?rd⟩
    refine ⟨_, rfl, _, rfl, v, x, nx, hs, ps, m, rfl, Vh, hx, fun hi => ?_, fun hi d hd => k1 hi H d (fun _ _ h => h) hd⟩
    refine ⟨_, rfl, y, ny, rfl, hy, hlen, fun H1 x1 => ⟨_, rfl, ?_⟩⟩
    cases hn : isNm y with
    | false => exact iteT ⟨_, rfl, raiseP fun d hd => k2 hi (.inl hn) H1 d x1 hd⟩
    | true =>
    refine iteF ⟨_, rfl, _, rfl, v, y, ny, hs, ps, m, rfl, Vh.ex x1, hy.ext x1, _, rfl, ?_⟩
    cases hh : isHouse hs y with
    | true => exact iteT ⟨_, rfl, raiseP fun d hd => k2 hi (.inr hh) H1 d x1 hd⟩
    | false =>
    obtain ⟨a, rfl, ha⟩ := isHouse_str hi
    obtain ⟨b, rfl, hb⟩ := isNm_str hn
    have hb2 : b ∉ hs := of_decide_eq_false hh
    have Vh1 := Vh.ex x1
    refine iteF ⟨_, rfl, v, m.dx, _, rfl, Vh1.at_, rfl, v, C, hs, ps, m, rfl, vc.cl, vc.n1, Vh1, fun p hp => ?_⟩
    have xp := Evl.Ex.new (o := .lst (hs.map V.str)) hp
    refine ⟨p, _, rfl, .inr (SqL.of upd_same), _, rfl, ?_⟩
    refine ⟨Nat.le_trans (show _ ≤ 60 by rw [List.length_append, List.length_map]; show hs.length + 1 ≤ 60; omega) (by decide), fun l hl => ?_⟩
    have xl := Evl.Ex.new (o := .lst (hs.map V.str ++ [V.str b])) hl
    have x2 := (x1.trans xp).trans xl
    have l2 : upd (upd H1 p (.lst (hs.map V.str))) l (.lst (hs.map V.str ++ [V.str b])) l = some (.lst (hs.map V.str ++ [V.str b])) := upd_same
    have e2 : (hs.map V.str ++ [V.str b]) = (hs ++ [b]).map V.str := by rw [List.map_append]; rfl
    clear xl xp
    generalize upd (upd H1 p (.lst (hs.map V.str))) l (.lst (hs.map V.str ++ [V.str b])) = H2 at x2 l2 ⊢
    rw [e2] at l2
    have Vh2 := Vh.ex x2
    refine ⟨_, rfl, v, m.dx, _, rfl, Vh2.at_, rfl, v, C, hs, ps, m, rfl, vc.cl, vc.n2, Vh2, fun p2 hp2 => ?_⟩
    have xp2 := Evl.Ex.new (o := .lst (refsL m.zs)) hp2
    refine ⟨p2, _, rfl, .inr (SqL.of upd_same), ?_⟩
    refine ⟨_, rfl, _, rfl, by show 2 ≤ sizeLine; decide, fun t ht => ?_⟩
    have xt := Evl.Ex.new (o := .tup [V.str a, V.str b]) ht
    have zl : (refsL m.zs).length ≤ 50 := by unfold refsL; rw [List.length_map, ← List.length_map (f := (·.2)), Vh.eq]; exact p50
    refine ⟨Nat.le_trans (show _ ≤ 60 by rw [List.length_append]; show _ + 1 ≤ 60; omega) (by decide), fun l3 hl3 => ?_⟩
    have xl := Evl.Ex.new (o := .lst (refsL m.zs ++ [V.ref t])) hl3
    have x24 := (xp2.trans xt).trans xl
    have P4 : PrsAt (upd (upd (upd H2 p2 (.lst (refsL m.zs))) t (.tup [V.str a, V.str b])) l3 (.lst (refsL m.zs ++ [V.ref t]))) (m.zs ++ [(t, a, b)]) := fun r hr => by
      rcases List.mem_append.mp hr with hr | hr
      · exact x24 _ _ (Vh2.pr r hr)
      · rw [List.mem_singleton.mp hr]
        exact xl _ _ upd_same
    have l4 : upd (upd (upd H2 p2 (.lst (refsL m.zs))) t (.tup [V.str a, V.str b])) l3 (.lst (refsL m.zs ++ [V.ref t])) l3 = some (.lst (refsL (m.zs ++ [(t, a, b)]))) := by rw [upd_same]; unfold refsL; rw [List.map_append]; rfl
    clear xl xt xp2
    generalize upd (upd (upd H2 p2 (.lst (refsL m.zs))) t (.tup [V.str a, V.str b])) l3 (.lst (refsL m.zs ++ [V.ref t])) = H4 at x24 P4 l4 ⊢
    have pe : (m.zs ++ [(t, a, b)]).map (·.2) = ps ++ [(a, b)] := by rw [List.map_append, Vh.eq]; rfl
    have ml : m.zs.length ≤ 50 := by unfold refsL at zl; rw [List.length_map] at zl; exact zl
    refine fun u dx hu hdx hne => mkV (tl := false) (tq := false) (l := l) (q := l3) (hs := hs ++ [b]) (qs := m.zs ++ [(t, a, b)]) vc.cl vc.n1 vc.n2 vc.n3 (x24 _ _ l2) l4 (fun r hr => ⟨true, P4 r hr⟩) (by rw [pe]; exact Tr.leaf ha hb2 (.inl rfl)) (by simp) (by rw [List.length_append]; show _ + 1 ≤ 60; omega) (by rw [List.length_append]; show _ + 1 ≤ 60; omega) (fun z hz => ?_) hu hdx hne fun H' hs' ps' m' x' V' fr' e1 e2 e3 e4 T' => ⟨rfl, (k3 a b rfl rfl ha hb hb2).ex (x2.trans x24) H' u hs' ps' m' x' hu V' fr' e1 e2 (by rw [pe] at e3; exact e3) e4 T'⟩
    rcases List.mem_append.mp hz with hz | hz
    · exact hgd z hz
    · rw [List.mem_singleton.mp hz]
      exact ⟨hb, hlen b rfl⟩
theorem ok_joinV {C CN CC f f1 fA fH fI fP : Addr} {fd fdA fdH fdI fdP : FuncData} (F : FnP K "joined_by" sJoinV f fd) (T1 : Err P w K mg base "CommonHouse" "name" CC f1)
    (GA : FnOk P w K mg base (L2.CX P w) 3 fA fdA ["village", "thing"] (spAskH C CN)) (bA : L2.Binds K fdA ["village", "thing"] []) (kA : PySem.W.keepIn K (.ref fA) = true) (gA : mg "ask_house" = some (.ref fA))
    (GH : FnOk P w K mg base CX0 2 fH fdH ["village", "thing"] (spIsHouse C)) (bH : L2.Binds K fdH ["village", "thing"] []) (kH : PySem.W.keepIn K (.ref fH) = true) (gH : mg "is_house" = some (.ref fH))
    (vc : VC P w K mg base C) (gN : mg "Village" = some (.ref C)) (MN : Mk K C fI) (GI : FnOk P w K mg base CX0 4 fI fdI ["self", "houses", "paths"] (spInitG K)) (bI : L2.Binds K fdI ["self", "houses", "paths"] [])
    (mP : Meth K C "paths" fP) (GP : FnOk P w K mg base CX0 1 fP fdP ["self"] (spPathsM K)) (bP : L2.Binds K fdP ["self"] []) : FnOk P w K mg base (L2.CX P w) 6 f fd ["one", "other", "house", "far"] (spJoinV C CN CC) := by
  obtain ⟨fM, fdM, mM, GM, bM⟩ := vc.hs
  refine F.ok scJoinV (fun vs H Q E h => ?_) (fun cdv A outer s H vs Q E hr h => ?_)
  · obtain ⟨v, u, x, y, nx, ny, hs, ks, ps, qs, m, n, rfl, _⟩ := h
    rfl
  · obtain ⟨v, u, x, y, nx, ny, hs, ks, ps, qs, m, n, rfl, Vh, Vk, Tr, Sr, h60, p60, hgd, kgd, hx, hy, k1, k2, k3⟩ := h
    refine' ⟨_, pss_cons (ps_expr (pe_callS GA (hr.mono (by decide)) rfl gA kA bA (fun σ => passAt (takes_of rfl rfl rfl rfl) σ) (pa_cons (pv 0) (pa_cons (pv 2) pa_nil))))
      (pss_cons (ps_expr (pe_callS GA (hr.mono (by decide)) rfl gA kA bA (fun σ => passAt (takes_of rfl rfl rfl rfl) σ) (pa_cons (pv 1) (pa_cons (pv 3) pa_nil))))
      (pss_cons (ps_for (PassesOwn.leaving) rfl (pi_list (pe_meth0 (pv 0) vc.cl mM GM (hr.mono (by decide)) bM .nil pass0)) (pg_name (i := 4) scJoinV.nd rfl (.inl rfl))
        (pss_one (ps_if (pt_val (pe_call GH (hr.mono (by decide)) rfl gH kH bH .nil pass0 (pa_cons (pv 1) (pa_cons (pv 4) pa_nil)))) (pss_one (ps_raise1 rfl T1 (hr.mono (by decide)) (takes_of rfl rfl rfl rfl) rfl (pv 4))) pss_nil)))
      (pss_one (ps_ret (pe_make MN GI (hr.mono (by decide)) (by rfl) gN bI .nil pass0 (pa_cons (pe_lst (StX.pa_star (pe_meth0 (pv 0) vc.cl mM GM (hr.mono (by decide)) bM .nil pass0) (StX.pa_star (pe_meth0 (pv 1) vc.cl mM GM (hr.mono (by decide)) bM .nil pass0) pa_nil)))
        (pa_cons (pe_lst (StX.pa_star (pe_meth0 (pv 0) vc.cl mP GP (hr.mono (by decide)) bP .nil pass0) (StX.pa_star (pe_meth0 (pv 1) vc.cl mP GP (hr.mono (by decide)) bP .nil pass0) (pa_cons (pe_tup (pa_cons (pv 2) (pa_cons (pv 3) pa_nil))) pa_nil)))) pa_nil))))))), ?rd⟩
    refine ⟨_, rfl, _, rfl, v, x, nx, hs, ps, m, rfl, Vh, hx, fun hi => ?_, fun hi d hd => k1 hi H d (fun _ _ h => h) hd⟩
    refine ⟨_, rfl, _, rfl, u, y, ny, ks, qs, n, rfl, Vk, hy, fun hj => ?_, fun hj d hd => k2 hi hj H d (fun _ _ h => h) hd⟩
    obtain ⟨a, rfl, ha⟩ := isHouse_str hi
    obtain ⟨b, rfl, hb⟩ := isHouse_str hj
    obtain ⟨k4, k5⟩ := k3 a b rfl rfl ha hb
    refine ⟨_, rfl, v, m.dx, _, rfl, Vh.at_, rfl, v, C, hs, ps, m, rfl, vc.cl, vc.n1, Vh, fun p hp => ?_⟩
    have x1 := Evl.Ex.new (o := .lst (hs.map V.str)) hp
    have p1 : upd H p (.lst (hs.map V.str)) p = some (.lst (hs.map V.str)) := upd_same
    generalize upd H p (.lst (hs.map V.str)) = H1 at x1 p1 ⊢
    refine ⟨p, rfl, ⟨_, SqL.of p1⟩, ?_⟩
    have Vh1 := Vh.ex x1
    have Vk1 := Vk.ex x1
    refine for_it (walk_list (xs := hs.map V.str)) (fun i σ H' => H' = H1 ∧ (∃ v4, σ = [some (.ref v), some (.ref u), some (.str a), some (.str b), v4]) ∧ ∀ y ∈ hs.take i, decide (y ∈ ks) = false) ⟨rfl, ⟨_, rfl⟩, fun y hy => absurd hy (by simp)⟩ ?_ ?_ ?_
    · rintro i σ H' _ ⟨rfl, _⟩
      exact SqL.of p1
    · rintro i y σ H4 H5 hi ⟨rfl, ⟨w4, rfl⟩, hb5⟩ ⟨rfl, hy⟩
      rw [List.length_map] at hi
      obtain ⟨z, hh⟩ := getD_of hi
      rw [List.getElem?_map, hh] at hy
      cases hy
      refine ⟨_, rfl, _, rfl, u, .str z, _, ks, qs, n, rfl, Vk1, .str z, _, rfl, ?_⟩
      show (if decide (z ∈ ks) = true then _ else _)
      by_cases hz : z ∈ ks
      · rw [if_pos (decide_eq_true hz)]
        refine ⟨_, rfl, raiseP fun d hd => k4 z (find_first hb5 hh (decide_eq_true hz)) H5 d x1 hd⟩
      · rw [if_neg (by simp [hz])]
        refine ⟨rfl, ⟨_, rfl⟩, fun y2 hy2 => ?_⟩
        rw [List.take_add_one, hh] at hy2
        rcases List.mem_append.mp hy2 with hy2 | hy2
        · exact hb5 y2 hy2
        · have hy2 : y2 = z := by simpa using hy2
          rw [hy2]
          exact decide_eq_false hz
    · rintro σ H4 ⟨rfl, ⟨w4, rfl⟩, hb5⟩
      rw [List.length_map, List.take_length] at hb5
      have dis : ∀ h ∈ hs, h ∉ ks := fun h hh => of_decide_eq_false (hb5 h hh)
      refine ⟨_, rfl, v, m.dx, _, rfl, Vh1.at_, rfl, v, C, hs, ps, m, rfl, vc.cl, vc.n1, Vh1, fun p2 hp2 => ?_⟩
      have y1 := Evl.Ex.new (o := .lst (hs.map V.str)) hp2
      refine ⟨p2, _, rfl, .inr (SqL.of upd_same), _, rfl, u, n.dx, _, rfl, (Vk1.ex y1).at_, rfl, u, C, ks, qs, n, rfl, vc.cl, vc.n1, Vk1.ex y1, fun p3 hp3 => ?_⟩
      have y2 := Evl.Ex.new (o := .lst (ks.map V.str)) hp3
      refine ⟨p3, _, rfl, .inr (SqL.of upd_same), ?_⟩
      refine ⟨Nat.le_trans (show _ ≤ 60 by rw [List.append_nil, List.length_append, List.length_map, List.length_map]; omega) (by decide), fun l hl => ?_⟩
      rw [List.append_nil, ← List.map_append] at *
      have y3 := Evl.Ex.new (o := .lst ((hs ++ ks).map V.str)) hl
      have x2 := (x1.trans (y1.trans y2)).trans y3
      have l2 : upd (upd (upd H4 p2 (.lst (hs.map V.str))) p3 (.lst (ks.map V.str))) l (.lst ((hs ++ ks).map V.str)) l = some (.lst ((hs ++ ks).map V.str)) := upd_same
      clear y1 y2 y3
      generalize upd (upd (upd H4 p2 (.lst (hs.map V.str))) p3 (.lst (ks.map V.str))) l (.lst ((hs ++ ks).map V.str)) = H2 at x2 l2 ⊢
      have Vh2 := Vh.ex x2
      have Vk2 := Vk.ex x2
      refine ⟨_, rfl, v, m.dx, _, rfl, Vh2.at_, rfl, v, C, hs, ps, m, rfl, vc.cl, vc.n2, Vh2, fun p4 hp4 => ?_⟩
      have z1 := Evl.Ex.new (o := .lst (refsL m.zs)) hp4
      refine ⟨p4, _, rfl, .inr (SqL.of upd_same), _, rfl, u, n.dx, _, rfl, (Vk2.ex z1).at_, rfl, u, C, ks, qs, n, rfl, vc.cl, vc.n2, Vk2.ex z1, fun p5 hp5 => ?_⟩
      have z2 := Evl.Ex.new (o := .lst (refsL n.zs)) hp5
      refine ⟨p5, _, rfl, .inr (SqL.of upd_same), _, rfl, _, rfl, by show 2 ≤ sizeLine; decide, fun t ht => ?_⟩
      have z3 := Evl.Ex.new (o := .tup [V.str a, V.str b]) ht
      have zl : m.zs.length + n.zs.length ≤ 59 := by rw [← List.length_map (f := (·.2)), Vh.eq, ← List.length_map (f := (·.2)) (as := n.zs), Vk.eq]; exact p60
      have zl2 : (refsL m.zs ++ (refsL n.zs ++ [V.ref t])).length ≤ 60 := by unfold refsL; rw [List.length_append, List.length_append, List.length_map, List.length_map]; show _ + (_ + 1) ≤ 60; omega
      refine ⟨Nat.le_trans zl2 (by decide), fun l3 hl3 => ?_⟩
      have z4 := Evl.Ex.new (o := .lst (refsL m.zs ++ (refsL n.zs ++ [V.ref t]))) hl3
      have x24 := ((z1.trans z2).trans z3).trans z4
      have P4 : PrsAt (upd (upd (upd (upd H2 p4 (.lst (refsL m.zs))) p5 (.lst (refsL n.zs))) t (.tup [V.str a, V.str b])) l3 (.lst (refsL m.zs ++ (refsL n.zs ++ [V.ref t])))) (m.zs ++ n.zs ++ [(t, a, b)]) := fun r hr => by
        rcases List.mem_append.mp hr with hr | hr
        · rcases List.mem_append.mp hr with hr | hr
          · exact x24 _ _ (Vh2.pr r hr)
          · exact x24 _ _ (Vk2.pr r hr)
        · rw [List.mem_singleton.mp hr]
          exact z4 _ _ upd_same
      have l4 : upd (upd (upd (upd H2 p4 (.lst (refsL m.zs))) p5 (.lst (refsL n.zs))) t (.tup [V.str a, V.str b])) l3 (.lst (refsL m.zs ++ (refsL n.zs ++ [V.ref t]))) l3 = some (.lst (refsL (m.zs ++ n.zs ++ [(t, a, b)]))) := by rw [upd_same]; unfold refsL; rw [List.map_append, List.map_append, List.append_assoc]; rfl
      clear z1 z2 z3 z4
      generalize upd (upd (upd (upd H2 p4 (.lst (refsL m.zs))) p5 (.lst (refsL n.zs))) t (.tup [V.str a, V.str b])) l3 (.lst (refsL m.zs ++ (refsL n.zs ++ [V.ref t]))) = H6 at x24 P4 l4 ⊢
      have pe : (m.zs ++ n.zs ++ [(t, a, b)]).map (·.2) = ps ++ qs ++ [(a, b)] := by rw [List.map_append, List.map_append, Vh.eq, Vk.eq]; rfl
      refine fun o dx ho hdx hne => mkV (tl := false) (tq := false) (l := l) (q := l3) (hs := hs ++ ks) (qs := m.zs ++ n.zs ++ [(t, a, b)]) vc.cl vc.n1 vc.n2 vc.n3 (x24 _ _ l2) l4 (fun r hr => ⟨true, P4 r hr⟩) (by rw [pe]; exact Tr.join Sr dis ha hb (.inl rfl)) (fun z => by rw [List.append_eq_nil_iff] at z; rw [z.1] at ha; cases ha) (by rw [List.length_append]; omega) (by rw [List.length_append, List.length_append]; show _ + _ + 1 ≤ 60; omega) (fun z hz => ?_) ho hdx hne fun H' hs' ps' m' x' V' fr' e1 e2 e3 e4 T' => ⟨rfl, (k5 dis).ex (x2.trans x24) H' o hs' ps' m' x' ho V' fr' e1 e2 (by rw [pe] at e3; exact e3) e4 T'⟩
      rcases List.mem_append.mp hz with hz | hz
      · exact hgd z hz
      · exact kgd z hz
end
end K07

namespace K07
open PySem PySem.Spec PyProof.Rows L2 Tr Sq Dk
/-! ### has_just of anything -/
abbrev sHasJ : Stmt := top 18
/-- a thing: a dict of plain things, or no dict at all -/
inductive DX (H : Hp) : V → Option (List (Key × V)) → Prop
  | dic {a : Addr} {kvs : List (Key × V)} (h : H a = some (.dK kvs)) (hi : ∀ p ∈ kvs, ∃ n, Pl H p.2 n) (hn : ∀ p ∈ kvs, p.2 ≠ .ref a) (hl : kvs.length ≤ 1000) : DX H (.ref a) (some kvs)
  | not {x : V} {n : String} (h : Pl H x n) (hn : isB n "dict" = false) : DX H x none
theorem DX.ex {H H' : Hp} {x : V} {o : Option (List (Key × V))} (h : DX H x o) (e : Evl.Ex H H') : DX H' x o := by
  cases h with
  | dic h hi hn hl => exact .dic (e _ _ h) (fun p hp => (hi p hp).imp fun n z => z.ext e) hn hl
  | not h hn => exact .not (h.ext e) hn
theorem Pl.updA {H : Hp} {x : V} {n : String} {a : Addr} {o : HO} (h : Pl H x n) (hn : x ≠ .ref a) : Pl (upd H a o) x n := by
  have key : ∀ {b : Addr} {u : HO}, x = .ref b → H b = some u → upd H a o b = some u := fun hx e => by rw [upd_ne (fun z => hn (by rw [hx, z]))]; exact e
  cases h with
  | non => exact .non
  | bl b => exact .bl b
  | int i => exact .int i
  | str z => exact .str z
  | lst h => exact .lst (key rfl h)
  | tup h => exact .tup (key rfl h)
  | frt h => exact .frt (key rfl h)
  | dic h => exact .dic (key rfl h)
  | dct h => exact .dct (key rfl h)
def hasJ (hs : List Str) : Option (List (Key × V)) → Bool
  | none => false
  | some kvs => decide (kvs.length = hs.length) && hs.all fun h => (valV kvs (Sum.inr h)).isSome
def spHasJ : Sp := fun vs H Q _ => ∃ (x : V) (o : Option (List (Key × V))) (l : Addr) (hs : List Str), vs = [x, .ref l] ∧ DX H x o ∧ H l = some (.lst (hs.map V.str)) ∧ hs.length ≤ 1000 ∧ ∀ H', Evl.Ex H H' → Q (.bl (hasJ hs o)) H'
/-- walking the values within a lock: the same behind -/
theorem unlock {H H' : Hp} {d : Addr} {u : HO} {od : Obj} (hd : H d = some u) (x : Evl.Ex (upd H d (.frz od u)) H') : Evl.Ex H (upd H' d u) := fun b o e => by
  by_cases h : b = d
  · rw [h, hd] at e
    rw [h, upd_same]
    exact e
  · rw [upd_ne h]
    exact x _ _ (by rw [upd_ne h]; exact e)
section
variable {P : Program} {w : World} {K : PySem.W.Frag} {mg : Str → Option Value} {base : Heap}
theorem scHasJ : FnScope ["thing", "keys", "key"] ["thing", "keys"] (defScope sHasJ) := ⟨rfl, rfl, rfl, by decide +kernel, rfl, by decide +kernel, by decide +kernel⟩
theorem ok_hasJ {f : Addr} {fd : FuncData} (F : FnP K "has_just" sHasJ f fd) (gI : mg "isinstance" = none) (gD : mg "dict" = none) (gL : mg "len" = none) (gA : mg "all" = none) : FnOk P w K mg base CX0 1 f fd ["thing", "keys"] spHasJ := by
  refine F.ok scHasJ (fun vs H Q E h => ?_) (fun cdv A outer s H vs Q E hr h => ?_)
  · obtain ⟨x, o, l, hs, rfl, _⟩ := h
    rfl
  · obtain ⟨x, o, l, hs, rfl, hx, hl, h1k, k⟩ := h
    refine' ⟨_, PSs.nox (pss_cons (ps_if (PW.pt (pw_or (pt_not (pt_val (pe_callB call_isi rfl gI (by decide +kernel) (pa_cons (pv 0) (pa_cons (pe_bltn (v := .ty "dict") rfl gD (by decide +kernel) rfl) pa_nil)))))
        (pw_or1 (pt_cmpR op_ne (pe_callB call_lenD (by rfl) gL PySem.boot_len (pa_cons (pv 0) pa_nil)) (pe_callB call_len_seq (by rfl) gL PySem.boot_len (pa_cons (pv 1) pa_nil)) (nomark _))))) (pss_one (ps_ret pe_bl)) pss_nil)
      (pss_one (ps_ret (pe_callB (cr_all rfl) (by rfl) gA (by decide +kernel) (pa_cons ?lc pa_nil))))), ?rd⟩
    case lc =>
      refine pe_lc (own := [("key", 2)]) (g := gName 2) (tt := tYes) (te := tDIn (tVar 2) (tVar 0)) rfl scHasJ.nd (pi_list (pv 1))
        (blkOk_by (own := [("key", 2)]) (N := ["thing", "keys", "key"]) (sc := defScope sHasJ) (by decide +kernel)) (fun _ _ _ _ _ => pg_name (i := 2) scHasJ.nd rfl (.inl rfl)) (fun _ _ _ _ _ => pts_nil) ?_
      intro _ _ _ _ _
      exact pe_cmp (pc_din (hu_of hr) (pv 2) (pv 0)) rfl
    cases hx with
    | @not x n hp hn =>
      refine ⟨_, rfl, _, _, _, _, _, rfl, .ty _, hp.ty, hp.one "dict", _, rfl, ?_⟩
      rw [hn]
      exact iteT (iteT (k _ (fun _ _ e => e)))
    | @dic a kvs ha hi hna hkl =>
      refine ⟨_, rfl, _, _, _, _, _, rfl, .ty _, (Pl.dic ha : Pl H (.ref a) "dict").ty, (Pl.dic ha : Pl H (.ref a) "dict").one "dict", _, rfl, ?_⟩
      refine iteF ⟨_, rfl, a, kvs, rfl, ha, _, rfl, l, _, rfl, .inl (SqL.of hl), rfl, _, rfl, ?_⟩
      have e1 : (!decide (L2.V.int (kvs.length : Nat) = L2.V.int (((hs.map V.str).length : Nat) : Int))) = !decide (kvs.length = hs.length) := by
        rw [List.length_map]
        congr 1
        rw [Bool.eq_iff_iff]
        simp
        omega
      rw [e1]
      cases hlen : decide (kvs.length = hs.length) with
      | false =>
        have this : Q (.bl (decide (kvs.length = hs.length) && hs.all fun h => (valV kvs (Sum.inr h)).isSome)) H := k H (fun _ _ e => e)
        rw [hlen] at this
        exact iteT this
      | true =>
        refine iteF ⟨_, rfl, l, rfl, ⟨_, SqL.of hl⟩, fun D hD => ?_⟩
        refine lc_it (walk_list (xs := hs.map V.str)) (fun i H' => Evl.Ex H H' ∧ H' D = some (.lst (((hs.take i).map fun h => (valV kvs (Sum.inr h)).isSome).map V.bl))) ⟨Evl.Ex.new hD, upd_same⟩ (fun i H' _ hp => SqL.of (hp.1 _ _ hl)) (fun i x H1 H2 hi2 hp hy => ?_) (fun H1 hp => ?_)
        · obtain ⟨x1, e2⟩ := hp
          obtain ⟨rfl, hx⟩ := hy
          rw [List.length_map] at hi2
          obtain ⟨h, hh⟩ := getD_of hi2
          rw [List.getElem?_map, hh] at hx
          cases hx
          refine ⟨rfl, _, rfl, _, rfl, a, _, rfl, DGet.k (k := Sum.inr h) (x1 _ _ ha), _, e2, ?_, ex_upd x1 hD, ?_⟩
          · rw [List.length_map, List.length_map, List.length_take]
            exact Nat.lt_of_le_of_lt (show min i hs.length ≤ 1000 by omega) (by decide)
          · rw [upd_same, List.take_add_one, hh, List.map_append, List.map_append]
            rfl
        · obtain ⟨x1, e2⟩ := hp
          rw [List.length_map, List.take_length] at e2
          refine ⟨D, _, rfl, SqL.of e2, ?_⟩
          have this : Q (.bl (decide (kvs.length = hs.length) && hs.all fun h => (valV kvs (Sum.inr h)).isSome)) H1 := k _ x1
          rw [hlen, Bool.true_and] at this
          rw [List.all_map]
          exact this
end
end K07

/-! list(d.values()) of a dict whose keys are tuples. Law-independent. -/
namespace L2
open PySem PySem.Spec PyProof.Rows Dt
section
variable {X : Cx}
def tListValsT (te : TE) : TE := fun σ H Q => te σ H fun x H1 => ∃ (d : Addr) (kvs : List (List Key × V)), x = .ref d ∧ H1 d = some (.dT kvs) ∧ ∀ p, H1 p = none → Q (.ref p) (upd H1 p (.lst (kvs.map (·.2))))
theorem vals_at : ∀ {xs : List V} {us : List Value}, us.length = xs.length → (∀ (j : Nat) (x : V) (u : Value), xs[j]? = some x → us[j]? = some u → RelV x u) → Vals xs us
  | [], [], _, _ => .nil
  | [], _ :: _, h, _ => by cases h
  | _ :: _, [], h, _ => by cases h
  | x :: xs, u :: us, h, k => .cons (k 0 x u rfl rfl) (vals_at (by simpa using h) fun j y w e1 e2 => k (j + 1) y w (by simpa using e1) (by simpa using e2))
theorem pe_listValsT {e : Expr} {te : TE} {p apos cpos pos : Pos} (hc : X.calm = true) (he : PE X e te) (hg : Gl X "list") (hm : X.mg "list" = none) (hv : bootBuiltins "list" = some (.type "list")) (hb : attributeBase e "values" X.env (eval e X.env) = eval e X.env := by rfl) (line : (apos.endLine == cpos.line) = true := by rfl)
    (hs : starEach [.Call (.Attribute e "values" apos) [] [] cpos] X.env = (false, eval (.Call (.Attribute e "values" apos) [] [] cpos) X.env) :: starEach [] X.env := by rfl) : PE X (.Call (.Name "list" p) [.Call (.Attribute e "values" apos) [] [] cpos] [] pos) (tListValsT te) := by
  refine ⟨fun pins s σ H Q I hq => wpAny_Call_Name_kw (ld_blt I hg hm hv (PyProof.Rows.callWith_type1 ?_ hs rfl))⟩
  rw [hs]
  show wpAny _ _ (spliced ((false, eval (.Call (.Attribute e "values" apos) [] [] cpos) X.env) :: backTo pos (starEach [] X.env))) _ _ s
  refine Calls.spliced_cons (wpAny_Call_method (T := "dict") (id := "dict.values") hb rfl line F.plainAttrs_dict F.slot_dict_values F.type_dict_values (thn (he.run pins s σ H _ I hq) fun u s1 ⟨x, H1, I1, rx, d, kvs, ex, hd, q⟩ => ?_))
  subst ex
  obtain rfl : u = Value.ref d := rx
  obtain ⟨hs0, hz, es, ep, raw, size, ent⟩ := entsT (I1.hok d _ hd)
  have I2 : Inv X pins σ H1 { s1 with heap := s1.heap.push { cls := .type "dict_values", data := .fields #[.ref d] } } := I1.kept (t' := s1.toks) fun b ob q => Heap.get?_push_of_some _ q
  refine ⟨raw.typeIs, fun b hb' => (let ⟨ob, e1, e2, _⟩ := raw; ⟨ob, by cases hb'; exact e1, e2.2.1⟩), ?_⟩
  show wpAny _ _ (callWith cpos (.builtin "dict.values") [.ref d] [] []) _ X.xe s1
  refine method_meetsIn F.slot_dict_values F.entry_dict_values rfl (PySem.evalArgs_none ⟨rfl, raw.typeIs, F.args_dict_values_1 _, _, meets_dict_values_raw d hs0, ⟨es, ep, raw⟩, Calls.spliced_nil ?_⟩)
  refine PySem.W.kdl_call (KdlSrc.rawValues (prog := X.prog) (w := X.w) (r := s1.heap.objs.size) (d := d) (es := es) (ep := ep)) (I1.ok.hd hc) ⟨⟨_, Heap.get?_push_size _ rfl, rfl, rfl⟩, raw.push _⟩ (by omega) fun h' tk acc c kp hS it => ?_
  have hl : acc.toList.length = (kvs.map (·.2)).length := by rw [Array.length_toList, it.1, List.length_map, size]
  have rv : Vals (kvs.map (·.2)) acc.toList := vals_at hl fun j x u e1 e2 => by
    rw [List.getElem?_map] at e1
    obtain ⟨kv, e3, rfl⟩ := Option.map_eq_some_iff.mp e1
    obtain ⟨hj, b, _, _, r3⟩ := ent j kv.1 kv.2 e3
    obtain ⟨hj2, e4⟩ := it.2 j u (by rw [← Array.getElem?_toList]; exact e2)
    rw [e4]
    exact r3
  have hz2 : (kvs.map (·.2)).length ≤ sizeLine := by rw [List.length_map]; omega
  refine ⟨.ref _, _, I2.laid (t' := tk) (o := .lst (kvs.map (·.2))) kp (Nat.le_refl _) ?_, rfl, q _ (I2.hok.fresh (Nat.le_refl _))⟩
  exact ⟨hz2, acc.toList, c, rv, by rw [Array.toArray_toList]; exact hS⟩
end
end L2

/-! list(d.values()) of a dict whose keys are texts or numbers. Law-independent. -/
namespace L2
open PySem PySem.Spec PyProof.Rows Dt
theorem vals_kv {P : Program} {w : World} : ∀ {kvs : List (Key × V)} {vs : List (Key × Value)} {es : List DictEntry}, Paired (fun (p : Key × V) (q : Key × Value) => p.1 = q.1 ∧ RelV p.2 q.2) kvs vs → Pairs (mixKind P w) es vs → es.length = kvs.length ∧ ∀ (i : Nat) (v : V), (kvs.map (·.2))[i]? = some v → ∃ e : DictEntry, es[i]? = some e ∧ RelV v e.val
  | [], [], _, .nil, .nil => ⟨rfl, fun i v h => by simp at h⟩
  | q :: kvs, z :: vs, e :: es, .cons a t, .cons h1 h2 h3 => by
    obtain ⟨k1, k2⟩ := vals_kv t h3
    refine ⟨by simp [k1], fun i v h => ?_⟩
    cases i with
    | zero =>
      simp only [List.map_cons, List.getElem?_cons_zero, Option.some.injEq] at h
      subst h
      exact ⟨e, rfl, by rw [h2]; exact a.2⟩
    | succ i =>
      rw [List.map_cons, List.getElem?_cons_succ] at h
      obtain ⟨e2, m1, m2⟩ := k2 i v h
      exact ⟨e2, by rw [List.getElem?_cons_succ]; exact m1, m2⟩
section
variable {X : Cx}
def tListValsK (te : TE) : TE := fun σ H Q => te σ H fun x H1 => ∃ (d : Addr) (kvs : List (Key × V)), x = .ref d ∧ H1 d = some (.dK kvs) ∧ ∀ p, H1 p = none → Q (.ref p) (upd H1 p (.lst (kvs.map (·.2))))
theorem pe_listValsK {e : Expr} {te : TE} {p apos cpos pos : Pos} (hc : X.calm = true) (he : PE X e te) (hg : Gl X "list") (hm : X.mg "list" = none) (hv : bootBuiltins "list" = some (.type "list")) (hb : attributeBase e "values" X.env (eval e X.env) = eval e X.env := by rfl) (line : (apos.endLine == cpos.line) = true := by rfl)
    (hs : starEach [.Call (.Attribute e "values" apos) [] [] cpos] X.env = (false, eval (.Call (.Attribute e "values" apos) [] [] cpos) X.env) :: starEach [] X.env := by rfl) : PE X (.Call (.Name "list" p) [.Call (.Attribute e "values" apos) [] [] cpos] [] pos) (tListValsK te) := by
  refine ⟨fun pins s σ H Q I hq => wpAny_Call_Name_kw (ld_blt I hg hm hv (PyProof.Rows.callWith_type1 ?_ hs rfl))⟩
  rw [hs]
  show wpAny _ _ (spliced ((false, eval (.Call (.Attribute e "values" apos) [] [] cpos) X.env) :: backTo pos (starEach [] X.env))) _ _ s
  refine Calls.spliced_cons (wpAny_Call_method (T := "dict") (id := "dict.values") hb rfl line F.plainAttrs_dict F.slot_dict_values F.type_dict_values (thn (he.run pins s σ H _ I hq) fun u s1 ⟨x, H1, I1, rx, d, kvs, ex, hd, q⟩ => ?_))
  subst ex
  obtain rfl : u = Value.ref d := rx
  obtain ⟨hz, hs0, vs, kv, o, es, ep, ho, hx, hdt, _, hp, _⟩ := (show ObjOk X.prog X.w H1 s1.heap d (.dK kvs) from I1.hok d _ hd)
  obtain ⟨size, ent⟩ := vals_kv kv hp
  have raw : s1.heap.DictRaw d es ep := ⟨o, ho, hx, hdt⟩
  have I2 : Inv X pins σ H1 { s1 with heap := s1.heap.push { cls := .type "dict_values", data := .fields #[.ref d] } } := I1.kept (t' := s1.toks) fun b ob q => Heap.get?_push_of_some _ q
  refine ⟨raw.typeIs, fun b hb' => (let ⟨ob, e1, e2, _⟩ := raw; ⟨ob, by cases hb'; exact e1, e2.2.1⟩), ?_⟩
  show wpAny _ _ (callWith cpos (.builtin "dict.values") [.ref d] [] []) _ X.xe s1
  refine method_meetsIn F.slot_dict_values F.entry_dict_values rfl (PySem.evalArgs_none ⟨rfl, raw.typeIs, F.args_dict_values_1 _, _, meets_dict_values_raw d hs0, ⟨es, ep, raw⟩, Calls.spliced_nil ?_⟩)
  refine PySem.W.kdl_call (KdlSrc.rawValues (prog := X.prog) (w := X.w) (r := s1.heap.objs.size) (d := d) (es := es) (ep := ep)) (I1.ok.hd hc) ⟨⟨_, Heap.get?_push_size _ rfl, rfl, rfl⟩, raw.push _⟩ (by rw [← Array.length_toList]; omega) fun h' tk acc c kp hS it => ?_
  have hl : acc.toList.length = (kvs.map (·.2)).length := by rw [Array.length_toList, it.1, List.length_map, ← Array.length_toList, size]
  have rv : Vals (kvs.map (·.2)) acc.toList := vals_at hl fun j x u e1 e2 => by
    obtain ⟨e, e3, r3⟩ := ent j x e1
    obtain ⟨hj2, e4⟩ := it.2 j u (by rw [← Array.getElem?_toList]; exact e2)
    rw [e4]
    have : es[j] = e := by rw [Array.getElem?_toList, Array.getElem?_eq_getElem hj2] at e3; exact Option.some.inj e3
    rw [this]
    exact r3
  have hz2 : (kvs.map (·.2)).length ≤ sizeLine := by rw [List.length_map]; omega
  refine ⟨.ref _, _, I2.laid (t' := tk) (o := .lst (kvs.map (·.2))) kp (Nat.le_refl _) ?_, rfl, q _ (I2.hok.fresh (Nat.le_refl _))⟩
  exact ⟨hz2, acc.toList, c, rv, by rw [Array.toArray_toList]; exact hS⟩
end
end L2

/-! set(l) of a list of texts, len of a set. Law-independent. -/
namespace Sts
open PySem PySem.Spec PyProof.Rows L2
theorem nodup_take {α : Type} {l : List α} {i : Nat} {k : α} (h : l[i]? = some k) : (l.take (i + 1)).Nodup ↔ (l.take i).Nodup ∧ k ∉ l.take i := by
  rw [List.take_add_one, h]
  show (l.take i ++ [k]).Nodup ↔ _
  rw [List.nodup_append]
  constructor
  · rintro ⟨h1, _, h3⟩
    exact ⟨h1, fun m => h3 k m k (by simp) rfl⟩
  · rintro ⟨h1, h2⟩
    exact ⟨h1, by simp, fun a ha b hb => by
      rw [List.mem_singleton.mp hb]
      exact fun e => h2 (e ▸ ha)⟩
def inT (zs : List Str) : Key → Bool
  | .inr z => decide (z ∈ zs)
  | .inl _ => false
theorem set_update {P : Program} {w : World} {A : Around} {I : Addr} {fp wr : List Addr} {G : Array GenState → Array GenState → Prop} {n : Nat} {Pv : Nat → Value → Prop} {St : Nat → Shared → Prop} {R : Result → Shared → Prop}
    (W : WalksS P w A.in1 I fp wr G n Pv St) (S : Addr) (hS : S ∉ fp) (zs : List Str) (hn : n = zs.length) (hb : zs.length + 1 < scanBound) (hP : ∀ i v, Pv i v → ∃ z t, zs[i]? = some z ∧ v = .str z t) :
    ∀ (k i : Nat) (s : Shared), n - i = k → i ≤ n → St i s → (∃ c, c ≤ i ∧ (c = i ↔ (zs.take i).Nodup) ∧ Heap.SetOf (mixKind P w) s.heap S (inT (zs.take i)) c) →
      (∀ (s' : Shared) (c : Nat), Moved (S :: wr) G s s' → c ≤ n → (c = n ↔ zs.Nodup) → Heap.SetOf (mixKind P w) s'.heap S (inT zs) c → R (.ok (.ret .none)) s') →
      codeAny (model P w) A (.builtin "set.update.loop" ⟨[.ref S, .ref I], []⟩) R s := by
  intro k
  induction k with
  | zero =>
    intro i s hk hi hst hs hR
    obtain rfl : i = n := by omega
    refine codeAny_builtin_at F.entry_set_update_loop (fun Γ p _ hin => ?_)
    obtain ⟨c, hc, hd, hs⟩ := hs
    refine (wpAny_bind (W.done s _ _ hst fun s' mv => wpAny_pure ?_) : wpAny (model P w) A.in1 (Builtin.«set.update.loop» ⟨[.ref S, .ref I], []⟩) _ _ s) Γ p hin
    have e : zs.take i = zs := by rw [hn]; exact List.take_length
    rw [e] at hd hs
    refine hR s' c ⟨fun b o hb h => mv.heap b o (fun z => hb (List.mem_cons_of_mem _ z)) h, mv.gens, mv.drawn, mv.os, mv.toks⟩ hc hd (setOf_at hs fun o h => mv.heap S o (fun z => hS (W.sub S z)) h)
  | succ k ih =>
    intro i s hk hi hst hs hR
    obtain ⟨c, hc, hd, hs⟩ := hs
    refine codeAny_builtin_at F.entry_set_update_loop (fun Γ p _ hin => ?_)
    refine (wpAny_bind (W.item i s _ _ (by omega) hst fun v s1 pv st1 mv => ?_) : wpAny (model P w) A.in1 (Builtin.«set.update.loop» ⟨[.ref S, .ref I], []⟩) _ _ s) Γ p hin
    obtain ⟨z, t, hz, rfl⟩ := hP i v pv
    have hs1 : Heap.SetOf (mixKind P w) s1.heap S (inT (zs.take i)) c := setOf_at hs fun o h => mv.heap S o (fun z => hS (W.sub S z)) h
    refine wpAny_bind (wpAny_holding (wpAny_holding (wpAny_bind ((mixKind P w).pyHash (k := Sum.inr z) ?_ ?_))))
    · show Value.isStrOf z (.str z t) = true
      simp [Value.isStrOf]
    refine wpAny_setAddHashed_of (knd := mixKind P w) (k := Sum.inr z) ?_ rfl hs1 (by omega) (fun h' sb hs2 => wpAny_pure ?_)
    · show Value.isStrOf z (.str z t) = true
      simp [Value.isStrOf]
    have hSw : S ∉ wr := fun z => hS (W.sub S z)
    have ef : (fun k' => inT (zs.take i) k' || decide (k' = Sum.inr z)) = inT (zs.take (i + 1)) := by
      funext k'
      rw [List.take_add_one, hz]
      cases k' with
      | inl m => simp [inT]
      | inr y =>
        show (decide (y ∈ zs.take i) || decide ((Sum.inr y : Key) = Sum.inr z)) = decide (y ∈ zs.take i ++ [z])
        rw [Bool.eq_iff_iff]
        simp
    rw [ef] at hs2
    refine ⟨Code.quiet_builtin _ (by decide +kernel), ih (i + 1) _ (by omega) (by omega) (W.frame (i + 1) s1 h' _ st1 (Nat.le_succ _) fun b hb o h => ?_) ⟨_, ?_, ?_, hs2⟩ fun s' c' mv' h1 h2 h3 => hR s' c' ⟨fun b o hb h => mv'.heap b o hb ?_, W.gtrans _ _ _ mv.gens mv'.gens, mv'.drawn.trans mv.drawn, mv'.os.trans mv.os, Nat.le_trans mv.toks (Nat.le_trans (Nat.le_succ _) mv'.toks)⟩ h1 h2 h3⟩
    · show h'.get? b = some o
      rw [sb.2 b (fun z => hS (z ▸ hb))]
      exact h
    · split <;> omega
    · rw [nodup_take hz]
      show (if decide (z ∈ zs.take i) = true then c else c + 1) = i + 1 ↔ _
      by_cases hm : z ∈ zs.take i
      · rw [if_pos (decide_eq_true hm)]
        exact ⟨fun e => by omega, fun e => absurd hm e.2⟩
      · rw [if_neg (by simp [hm])]
        exact ⟨fun e => ⟨hd.mp (by omega), hm⟩, fun e => by rw [hd.mpr e.1]⟩
    · show h'.get? b = some o
      rw [sb.2 b (fun z => hb (z ▸ List.mem_cons_self))]
      exact mv.heap b o (fun z => hb (List.mem_cons_of_mem _ z)) h
theorem callType_gen {P : Program} {w : World} {A : Around} {E : Value → Shared → Prop} {s : Shared} {T newId initId : String} {args : List Value} {Q Q₁ : Value → Shared → Prop} (TC : TypeCalled T newId initId) (hc : checkTypeCall T { pos := args } = pure ())
    (hnew : codeAny (model P w) A.in1 (Code.call (Value.builtin newId) { pos := Value.type T :: args }) (wants Q₁ E) s)
    (h : ∀ (obj : Value) (s₁ : Shared), Q₁ obj s₁ → s₁.TypeIs obj T ∧ codeAny (model P w) A.in1 (Code.call (Value.builtin initId) { pos := obj :: args }) (wants (fun r s₂ => r = Value.none ∧ Q obj s₂) E) s₁) :
    wpAny (model P w) A (call (Value.type T) args) Q E s := by
  refine wpAny_call (codeAny_of_tree ?_)
  refine wpAny_pure ⟨Code.quiet_builtin _ (by decide +kernel), codeAny_builtin F.entry_type_call ?_⟩
  rw [Around.under_plain (weight_type_call_type _ _ _) rfl]
  refine wpAny_ite_false (by rw [TC.notType]; rfl) ?_
  refine wpAny_ite_false (by rw [TC.canCreate]; rfl) ?_
  refine wpAny_bind (wpAny_of_eq hc ?_)
  obtain ⟨c, tl, hm⟩ := TC.mro
  refine wpAny_bind (wpAny_of_eq hm ?_)
  refine wpAny_ite_false rfl ?_
  refine wpAny_bind (wpAny_of_eq TC.made ?_)
  refine wpAny_bind (wpAny_pure ?_)
  refine wpAny_bind (wpAny_holding (wpAny_call (codeAny_mono hnew fun r s1 hr => ?_)))
  cases r with
  | error e => exact hr
  | ok f =>
    cases f with
    | ret obj =>
      obtain ⟨hT, hi⟩ := h obj s1 hr
      refine wpAny_bind (wpAny_isInstance hT TC.sub ?_)
      refine wpAny_ite_false rfl ?_
      refine wpAny_bind (wpAny_holding (wpAny_bind (wpAny_specialOf hT TC.init.lookup ?_)))
      refine wpAny_holding (wpAny_bind (wpAny_of_eq (TC.init.bind obj) (wpAny_bind (wpAny_call (codeAny_mono hi fun r s2 hr2 => ?_)))))
      cases r with
      | error e => exact hr2
      | ok f =>
        cases f with
        | ret v =>
          obtain ⟨rfl, hq⟩ := hr2
          refine wpAny_pure (wpAny_ite_false rfl (wpAny_pure hq))
        | next => exact hr2
        | brk => exact hr2
        | cont => exact hr2
    | next => exact hr
    | brk => exact hr
    | cont => exact hr
theorem fresh_of {P : Program} {w : World} {K : Type} [DecidableEq K] (knd : KeyKind P w K) (led : Bool) : Obj.SetObjOf knd { cls := Value.type "set", data := Data.set #[] 0 (SetTable.fresh 0 0 led) } (fun _ => false) 0 := setObjOf_fresh led
theorem setOf_of {P : Program} {w : World} {K : Type} [DecidableEq K] {knd : KeyKind P w K} {o : Obj} {S : K → Bool} {n : Nat} {h : Heap} {a : Addr} (h1 : Obj.SetObjOf knd o S n) (h2 : h.get? a = some o) (h3 : n < scanBound) : Heap.SetOf knd h a S n := Obj.SetObjOf.setOf h1 h2 h3
theorem call_set {P : Program} {w : World} {A : Around} {E : Value → Shared → Prop} {s : Shared} {l : Addr} {items : Array Value} (zs : List Str) {Q : Value → Shared → Prop} (hA : A.handled = none) (hl : s.heap.IsList l items) (hz : items.size = zs.length) (hi : ∀ (i : Nat) (v : Value), items[i]? = some v → ∃ (z : Str) (t : Tok), zs[i]? = some z ∧ v = Value.str z t) (hb : zs.length + 1 < scanBound)
    (hQ : ∀ (h' : Heap) (tk : Nat) (c : Nat), Heap.SetOf (mixKind P w) h' s.heap.objs.size (inT zs) c → c ≤ zs.length → (c = zs.length ↔ zs.Nodup) → (∀ (b : Addr) (o : Obj), s.heap.get? b = some o → h'.get? b = some o) → Q (.ref s.heap.objs.size) ⟨h', s.gens, s.drawn, tk, s.os⟩) :
    wpAny (model P w) A (call (.type "set") [.ref l]) Q E s := by
  refine callType_gen F.called_set (F.typeCall_set_1 _) (code_set_new_1 (Q₁ := fun v s1 => v = .ref s.heap.objs.size ∧ ∃ led, s1 = { heap := s.heap.push { cls := Value.type "set", data := Data.set #[] 0 (SetTable.fresh 0 0 led) }, gens := s.gens, drawn := s.drawn, toks := s.toks, os := s.os }) _ fun led => ⟨rfl, led, rfl⟩) ?_
  rintro obj s1 ⟨rfl, led, rfl⟩
  have g0 : (s.heap.push { cls := Value.type "set", data := Data.set #[] 0 (SetTable.fresh 0 0 led) }).get? s.heap.objs.size = some { cls := Value.type "set", data := Data.set #[] 0 (SetTable.fresh 0 0 led) } := Heap.get?_push_size _ rfl
  refine ⟨⟨_, g0, rfl⟩, codeAny_call_builtin (by decide +kernel) F.entry_set_init (check_set_init_1 ⟨_, g0, rfl⟩ ?_)⟩
  refine wpAny_bind (wpAny_pure ?_)
  refine wpAny_bind (wpAny_bind (wpAny_bind (wpAny_typeOf ⟨_, g0, rfl⟩ (wpAny_pure ?_))))
  refine wpAny_pure ?_
  refine wpAny_bind (wpAny_pure ?_)
  refine wpAny_bind (wpAny_pure ?_)
  refine wpAny_bind (wpAny_bind (wpAny_setState_of g0 rfl rfl (wpAny_pure ?_)))
  refine wpAny_ite_false rfl ?_
  refine wpAny_bind ?_
  generalize hs0 : s.heap.push { cls := Value.type "set", data := Data.set #[] 0 (SetTable.fresh 0 0 led) } = h0 at g0 ⊢
  have up : ∀ (b : Addr) (o : Obj), s.heap.get? b = some o → h0.get? b = some o := fun b o h => by rw [← hs0]; exact Heap.get?_push_of_some _ h
  have hl0 : h0.IsList l items := by rw [← hs0]; exact hl.push _
  have hT : (⟨h0, s.gens, s.drawn, s.toks, s.os⟩ : Shared).TypeIs (.ref l) "list" := by
    obtain ⟨o, e1, e2, _⟩ := hl0
    exact ⟨o, e1, e2⟩
  refine wpAny_bind (wpAny_bind (wpAny_isInstance hT F.sub_list_set ?_))
  refine wpAny_isInstance hT F.sub_list_frozenset ?_
  refine wpAny_ite_false rfl ?_
  refine wpAny_bind (wpAny_typeOf hT ?_)
  refine wpAny_ite_false (by decide) ?_
  refine wpAny_bind (wpAny_pyIter_list hl0 ?_)
  refine wpAny_bind (wpAny_runValue ?_)
  have hsz : h0.objs.size = s.heap.objs.size + 1 := by rw [← hs0]; exact Heap.size_push _ _
  have hls : l < s.heap.objs.size := by
    obtain ⟨o, e1, _⟩ := hl
    exact Heap.lt_size e1
  let it : Obj := { cls := Value.type "list_iterator", data := Data.fields #[Value.ref l, Value.int 0 0] }
  have W := (Walks.list (prog := P) (w := w) (A := A.in1.in1.in1) hA h0.objs.size l (Nat.ne_of_lt (by rw [hsz]; exact Nat.lt_succ_of_lt hls)) items).toS
  refine set_update W s.heap.objs.size (fun z => ?_) zs hz hb (fun i v h => hi i v h) items.size 0 _ (Nat.sub_zero _) (Nat.zero_le _) ⟨⟨it, Heap.get?_push_size _ rfl, rfl, rfl⟩, hl0.push _⟩ ⟨0, Nat.le_refl _, ?_, ?_⟩ fun s' c mv h1 h2 h3 => ?_
  · rcases List.mem_cons.mp z with z | z
    · exact absurd z (Nat.ne_of_lt (by rw [hsz]; exact Nat.lt_succ_self _))
    · exact absurd (List.mem_singleton.mp z) (Nat.ne_of_gt hls)
  · simp
  · rw [show inT (zs.take 0) = fun _ => false from funext fun k => by cases k <;> simp [inT]]
    exact setOf_at (h := h0) (setOf_of (fresh_of (mixKind P w) led) g0 (by decide)) fun o h => Heap.get?_push_of_some _ h
  · refine wpAny_pure (wpAny_pure ?_)
    obtain ⟨h', g', d', t', o'⟩ := s'
    obtain ⟨m1, m2, m3, m4, m5⟩ := mv
    have m2 : g' = s.gens := m2
    have m3 : d' = s.drawn := m3
    have m4 : o' = s.os := m4
    subst m2 m3 m4
    refine ⟨rfl, hQ h' t' c h3 (by rw [← hz]; exact h1) (by rw [← hz]; exact h2) fun b o h => m1 b o (fun z => ?_) ?_⟩
    · have hb2 := Heap.lt_size h
      rcases List.mem_cons.mp z with z | z
      · exact absurd z (Nat.ne_of_lt hb2)
      · exact absurd (List.mem_singleton.mp z) (Nat.ne_of_lt (by rw [hsz]; exact Nat.lt_succ_of_lt hb2))
    · exact Heap.get?_push_of_some _ (up b o h)
def rSetOfS (K : PySem.W.Frag) (P : Program) (w : World) : List V → Hp → VK → Prop := fun xs H Q => ∃ (l : Addr) (zs : List Str), xs = [.ref l] ∧ SqL K H l (zs.map V.str) ∧ zs.length + 1 < scanBound ∧ ∀ a c, H a = none → c ≤ zs.length → (c = zs.length ↔ zs.Nodup) → Q (.ref a) (upd H a (SetK P w a (inT zs) c))
theorem texts_of : ∀ {zs : List Str} {its : List Value}, Vals (zs.map V.str) its → ∀ (i : Nat) (v : Value), its[i]? = some v → ∃ (z : Str) (t : Tok), zs[i]? = some z ∧ v = Value.str z t
  | [], _, .nil, i, v, h => by simp at h
  | z :: zs, _, .cons r t, 0, v, h => by
    simp only [List.getElem?_cons_zero, Option.some.injEq] at h
    subst h
    obtain ⟨tk, rfl⟩ := r
    exact ⟨z, tk, rfl, rfl⟩
  | z :: zs, _, .cons r t, i + 1, v, h => by
    rw [List.getElem?_cons_succ] at h
    obtain ⟨z2, tk, h1, h2⟩ := texts_of t i v h
    exact ⟨z2, tk, by rw [List.getElem?_cons_succ]; exact h1, h2⟩
section
variable {X : Cx}
theorem cr_setOfS (hc : X.calm = true) : CallR X (.type "set") (rSetOfS X.K X.prog X.w) := by
  intro pins s σ H xs us Q I r h
  obtain ⟨l, zs, rfl, hl, hb, q⟩ := h
  obtain ⟨u, rfl, ru⟩ := vals1 r
  obtain rfl : u = Value.ref l := ru
  obtain ⟨its, rv, pl, _⟩ := I.list hl
  have len : its.length = zs.length := by have := rv.length; rw [List.length_map] at this; omega
  refine call_set zs (I.ok.hd hc) (items := its.toArray) ?_ (by simpa using len) (fun i v h => texts_of rv i v (by simpa using h)) hb fun h' tk c hs h1 h2 kp => ?_
  · obtain ⟨o, n, e1, e2, e3, e4⟩ := pl
    exact ⟨o, e1, e2, n, e4⟩
  · exact ⟨.ref s.heap.objs.size, _, I.laid (t' := tk) kp (Nat.le_refl _) (setK_new hs), rfl, q _ c (I.hok.fresh (Nat.le_refl _)) h1 h2⟩
def rLenK (P : Program) (w : World) : List V → Hp → VK → Prop := fun xs H Q => ∃ (a : Addr) (S : Key → Bool) (n : Nat), xs = [.ref a] ∧ H a = some (SetK P w a S n) ∧ n ≤ 1000000 ∧ Q (.int (n : Nat)) H
theorem cr_lenK : CallR X (.builtin "len") (rLenK X.prog X.w) := by
  intro pins s σ H xs us Q I r h
  obtain ⟨a, S, n, rfl, ha, hn, q⟩ := h
  obtain ⟨u, rfl, ru⟩ := vals1 r
  obtain rfl : u = Value.ref a := ru
  obtain ⟨o, es, ep, t, e1, e2, e3, _, _, _, e4, e5⟩ := setK_get I ha
  subst e5
  exact call_len_set e1 e2 e3 e4 (by omega) ⟨.int (es.size : Nat), H, I.tok _, ⟨_, rfl⟩, q⟩
end
end Sts

namespace K07
open PySem PySem.Spec PyProof.Rows L2 Tr Sq Dk Exs Oeq
/-! ### is_renaming, renamed -/
abbrev sIsRen : Stmt := top 33
abbrev sRen : Stmt := top 34
abbrev nmIsRen : List Str := ["village", "thing", "names", "name"]
theorem scIsRen : FnScope nmIsRen ["village", "thing"] (defScope sIsRen) := ⟨rfl, rfl, rfl, by decide +kernel, rfl, by decide +kernel, by decide +kernel⟩
/-- a renaming: one new name for each house -/
def isRen (hs : List Str) (o : Option (List (Key × V))) : Bool := hasJ hs o && (match o with
  | none => false
  | some kvs => (kvs.map (·.2)).all isNm && decide (kvs.map (·.2)).Nodup)
def ShortV (o : Option (List (Key × V))) : Prop := ∀ kvs, o = some kvs → ∀ z, V.str z ∈ kvs.map (·.2) → z.length ≤ 1000
def spIsRen (C : Addr) : Sp := fun vs H Q _ => ∃ (v : Addr) (x : V) (o : Option (List (Key × V))) (hs : List Str) (ps : Prs) (m : VilD), vs = [.ref v, x] ∧ Vil H C v hs ps m ∧ DX H x o ∧ ShortV o ∧ hs.length ≤ 1000 ∧ ∀ H', Evl.Ex H H' → Q (.bl (isRen hs o)) H'
theorem all_names : ∀ {vs : List V}, vs.all isNm = true → ∃ zs : List Str, vs = zs.map V.str ∧ ∀ z ∈ zs, nameOk z = true
  | [], _ => ⟨[], rfl, fun _ h => by cases h⟩
  | v :: vs, h => by
    rw [List.all_cons, Bool.and_eq_true] at h
    obtain ⟨z, rfl, hz⟩ := isNm_str h.1
    obtain ⟨zs, rfl, h2⟩ := all_names h.2
    exact ⟨z :: zs, rfl, fun y hy => by
      rcases List.mem_cons.mp hy with rfl | hy
      · exact hz
      · exact h2 y hy⟩
theorem nodup_strs {zs : List Str} : (zs.map V.str).Nodup ↔ zs.Nodup := by
  unfold List.Nodup
  rw [List.pairwise_map]
  constructor
  · exact fun h => h.imp fun n e => n (by rw [e])
  · exact fun h => h.imp fun n e => n (V.str.inj e)
theorem val_at {kvs : List (Key × V)} {k : Key} {v : V} (h : valV kvs k = some v) : ∃ i : Nat, kvs[i]? = some (k, v) := by
  unfold valV at h
  obtain ⟨q, hq, rfl⟩ := Option.map_eq_some_iff.mp h
  have h1 := List.mem_of_find?_eq_some hq
  have h2 := List.find?_some hq
  have h2 : q.1 = k := of_decide_eq_true h2
  obtain ⟨i, hi⟩ := List.getElem?_of_mem h1
  exact ⟨i, by rw [hi, ← h2]⟩
theorem nameOk_len {z : Str} (h : nameOk z = true) : z.length ≤ 12 := by
  unfold nameOk at h
  rw [Bool.and_eq_true, Bool.and_eq_true] at h
  exact (of_decide_eq_true h.1.1).2
/-- what a renaming is -/
theorem ren_good {hs : List Str} {kvs : List (Key × V)} (h : isRen hs (some kvs) = true) : ∃ f : Str → Str, (∀ x ∈ hs, valV kvs (Sum.inr x) = some (.str (f x)) ∧ nameOk (f x) = true) ∧ ∀ x ∈ hs, ∀ y ∈ hs, f x = f y → x = y := by
  unfold isRen at h
  rw [Bool.and_eq_true, Bool.and_eq_true] at h
  obtain ⟨h1, h2, h3⟩ := h
  have h3 := of_decide_eq_true h3
  obtain ⟨zs, ez, hz⟩ := all_names h2
  have h1 : (decide (kvs.length = hs.length) && hs.all fun h => (valV kvs (Sum.inr h)).isSome) = true := h1
  rw [Bool.and_eq_true, List.all_eq_true] at h1
  have get : ∀ x ∈ hs, ∃ z, valV kvs (Sum.inr x) = some (.str z) ∧ nameOk z = true := fun x hx => by
    obtain ⟨v, hv⟩ := Option.isSome_iff_exists.mp (h1.2 x hx)
    obtain ⟨i, hi⟩ := val_at hv
    have : v ∈ kvs.map (·.2) := List.mem_map.mpr ⟨_, List.mem_of_getElem? hi, rfl⟩
    rw [ez] at this
    obtain ⟨z, h4, rfl⟩ := List.mem_map.mp this
    exact ⟨z, hv, hz z h4⟩
  refine ⟨fun x => match valV kvs (Sum.inr x) with | some (.str z) => z | _ => x, fun x hx => ?_, fun x hx y hy e => ?_⟩
  · obtain ⟨z, h4, h5⟩ := get x hx
    simp only [h4]
    exact ⟨trivial, h5⟩
  · obtain ⟨z, h4, _⟩ := get x hx
    obtain ⟨w, h6, _⟩ := get y hy
    simp only [h4, h6] at e
    subst e
    obtain ⟨i, hi⟩ := val_at h4
    obtain ⟨j, hj⟩ := val_at h6
    have e1 : (kvs.map (·.2))[i]? = some (.str z) := by rw [List.getElem?_map, hi]; rfl
    have e2 : (kvs.map (·.2))[j]? = some (.str z) := by rw [List.getElem?_map, hj]; rfl
    obtain ⟨b1, g1⟩ := List.getElem?_eq_some_iff.mp e1
    obtain ⟨b2, g2⟩ := List.getElem?_eq_some_iff.mp e2
    have pw := List.pairwise_iff_getElem.mp h3
    have : i = j := by
      rcases Nat.lt_trichotomy i j with l | l | l
      · exact absurd (g1.trans g2.symm) (pw i j b1 b2 l)
      · exact l
      · exact absurd (g2.trans g1.symm) (pw j i b2 b1 l)
    subst this
    rw [hi] at hj
    injection hj with hj
    injection hj with hj _
    injection hj
abbrev nmRen : List Str := ["village", "names", "houses", "house", "one", "other"]
theorem scRen : FnScope nmRen ["village", "names"] (defScope sRen) := ⟨rfl, rfl, rfl, by decide +kernel, rfl, by decide +kernel, by decide +kernel⟩
def mapP (f : Str → Str) (ps : Prs) : Prs := ps.map fun q => (f q.1, f q.2)
def spRen (C CB : Addr) : Sp := fun vs H Q E => ∃ (v : Addr) (x : V) (o : Option (List (Key × V))) (hs : List Str) (ps : Prs) (m : VilD), vs = [.ref v, x] ∧ Vil H C v hs ps m ∧ GoodV hs ps ∧ DX H x o ∧ ShortV o ∧ (isRen hs o = false → Ref1 E CB "thing" x H) ∧
  ∀ kvs, o = some kvs → isRen hs o = true → ∀ f : Str → Str, (∀ h ∈ hs, valV kvs (Sum.inr h) = some (.str (f h))) → NewV C H Q (hs.map f) (mapP f ps)
section
variable {P : Program} {w : World} {K : PySem.W.Frag} {mg : Str → Option Value} {base : Heap}
theorem ok_isRen {C f fJ fN : Addr} {fd fdJ fdN : FuncData} (F : FnP K "is_renaming" sIsRen f fd) (vc : VC P w K mg base C)
    (GJ : FnOk P w K mg base CX0 1 fJ fdJ ["thing", "keys"] spHasJ) (bJ : L2.Binds K fdJ ["thing", "keys"] []) (kJ : PySem.W.keepIn K (.ref fJ) = true) (gJ : mg "has_just" = some (.ref fJ))
    (GN : FnOk P w K mg base CX0 1 fN fdN ["thing"] spIsNameX) (bN : L2.Binds K fdN ["thing"] []) (kN : PySem.W.keepIn K (.ref fN) = true) (gNm : mg "is_name" = some (.ref fN))
    (gLi : mg "list" = none) (gAll : mg "all" = none) (gLen : mg "len" = none) (gSet : mg "set" = none) : FnOk P w K mg base CX0 3 f fd ["village", "thing"] (spIsRen C) := by
  obtain ⟨fM, fdM, mM, GM, bM⟩ := vc.hs
  refine F.ok scIsRen (fun vs H Q E h => ?_) (fun cdv A outer s H vs Q E hr h => ?_)
  · obtain ⟨v, x, o, hs, ps, m, rfl, _⟩ := h
    rfl
  · obtain ⟨v, x, o, hs, ps, m, rfl, Vh, hx, hsh, h1k, k⟩ := h
    refine' ⟨_, PSs.nox (pss_cons (ps_if (pt_not (pt_val (pe_call GJ (hr.mono (by decide)) rfl gJ kJ bJ .nil pass0 (pa_cons (pv 1) (pa_cons (pe_meth0 (pv 0) vc.cl mM GM (hr.mono (by decide)) bM .nil pass0) pa_nil))))) (pss_one (ps_ret pe_bl)) pss_nil)
      (pss_cons (ps_set (i := 2) scIsRen.nd rfl (.inl rfl) (pe_listValsK (by rfl) (pv 1) (by rfl) gLi (by decide +kernel)))
      (pss_one (ps_ret (pe_and (pe_callB (cr_all rfl) (by rfl) gAll (by decide +kernel) (pa_cons ?lc pa_nil)) (pe_one (pe_cmpR op_eq (pe_callB Sts.cr_lenK (by rfl) gLen (by decide +kernel) (pa_cons (pe_callTy (Sts.cr_setOfS rfl) (by rfl) gSet (by decide +kernel) (pa_cons (pv 2) pa_nil)) pa_nil)) (pe_callB call_len_seq (by rfl) gLen (by decide +kernel) (pa_cons (pv 2) pa_nil)) (nomark _)))))))), ?rd⟩
    case lc =>
      refine pe_lc (own := [("name", 3)]) (g := gName 3) (tt := tYes) (te := tCall spIsNameX [] E0 (tCons (tVar 3) tNil)) rfl scIsRen.nd (pi_list (pv 2))
        (blkOk_by (own := [("name", 3)]) (N := nmIsRen) (sc := defScope sIsRen) (by decide +kernel)) (fun _ _ _ _ _ => pg_name (i := 3) scIsRen.nd rfl (.inl rfl)) (fun _ _ _ _ _ => pts_nil) ?_
      intro _ _ _ _ _
      exact pe_call GN (hr.mono (by decide)) rfl gNm kN bN .nil pass0 (pa_cons (pv 3) pa_nil)
    case rd =>
      refine ⟨_, rfl, _, rfl, v, m.dx, _, rfl, Vh.at_, rfl, v, C, hs, ps, m, rfl, vc.cl, vc.n1, Vh, fun p hp => ?_⟩
      have x1 := Evl.Ex.new (o := .lst (hs.map V.str)) hp
      have p1 : upd H p (.lst (hs.map V.str)) p = some (.lst (hs.map V.str)) := upd_same
      generalize upd H p (.lst (hs.map V.str)) = H1 at x1 p1 ⊢
      refine ⟨x, o, p, hs, rfl, hx.ex x1, p1, h1k, fun H2 x2 => ⟨_, rfl, ?_⟩⟩
      cases hj : hasJ hs o with
      | false =>
        have k := k H2 (x1.trans x2)
        rw [show isRen hs o = false by unfold isRen; rw [hj]; rfl] at k
        exact iteT k
      | true =>
      refine iteF ?_
      obtain ⟨kvs, rfl⟩ : ∃ kvs, o = some kvs := by
        cases o with
        | some kvs => exact ⟨kvs, rfl⟩
        | none => cases hj
      have k : ∀ H', Evl.Ex H H' → Q (.bl ((kvs.map (·.2)).all isNm && decide (kvs.map (·.2)).Nodup)) H' := fun H' e => by
        have := k H' e
        rw [show isRen hs (some kvs) = ((kvs.map (·.2)).all isNm && decide (kvs.map (·.2)).Nodup) by unfold isRen; rw [hj]; rfl] at this
        exact this
      have x02 := x1.trans x2
      obtain ⟨a, rfl, ha, hpl, hk1⟩ : ∃ a, x = .ref a ∧ H a = some (.dK kvs) ∧ (∀ p ∈ kvs, ∃ n, Pl H p.2 n) ∧ kvs.length ≤ 1000 := by
        cases hx with
        | dic h hi hn hl => exact ⟨_, rfl, h, hi, hl⟩
      refine ⟨_, rfl, a, kvs, rfl, x02 _ _ ha, fun q hq => ?_⟩
      have x3 := Evl.Ex.new (o := .lst (kvs.map (·.2))) hq
      have q3 : upd H2 q (.lst (kvs.map (·.2))) q = some (.lst (kvs.map (·.2))) := upd_same
      have x03 := x02.trans x3
      generalize upd H2 q (.lst (kvs.map (·.2))) = H3 at x03 q3 ⊢
      have hvl : (kvs.map (·.2)).length ≤ 1000 := by rw [List.length_map]; exact hk1
      have hpv : ∀ y ∈ kvs.map (·.2), ∃ n, Pl H3 y n := fun y hy => by
        obtain ⟨p, hp, rfl⟩ := List.mem_map.mp hy
        obtain ⟨n, h⟩ := hpl p hp
        exact ⟨n, h.ext x03⟩
      have hsv : ∀ z, V.str z ∈ kvs.map (·.2) → z.length ≤ 1000 := hsh kvs rfl
      generalize kvs.map (·.2) = ws at k q3 hvl hpv hsv ⊢
      refine ⟨_, rfl, q, rfl, ⟨_, SqL.of q3⟩, fun D hD => ?_⟩
      refine lc_it (walk_list (xs := ws)) (fun i H' => Evl.Ex H3 H' ∧ H' D = some (.lst (((ws.take i).map isNm).map V.bl))) ⟨Evl.Ex.new hD, upd_same⟩ (fun i H' _ hp => SqL.of (hp.1 _ _ q3)) (fun i y H4 H5 hi2 hp hy => ?_) (fun H4 hp => ?_)
      · obtain ⟨x4, e2⟩ := hp
        obtain ⟨rfl, hy⟩ := hy
        obtain ⟨n, hn⟩ := hpv y (List.mem_of_getElem? hy)
        refine ⟨rfl, _, rfl, y, n, rfl, hn.ext x4, fun z e => hsv z (e ▸ List.mem_of_getElem? hy), fun H6 x6 => ⟨_, x6 _ _ e2, ?_, ex_upd (x4.trans x6) hD, ?_⟩⟩
        · rw [List.length_map, List.length_map, List.length_take]
          exact Nat.lt_of_le_of_lt (show min i ws.length ≤ 1000 by omega) (by decide)
        · rw [upd_same, List.take_add_one, hy, List.map_append, List.map_append]
          rfl
      · obtain ⟨x4, e2⟩ := hp
        rw [List.take_length] at e2
        have x04 := x03.trans x4
        have q4 := x4 _ _ q3
        refine ⟨D, _, rfl, SqL.of e2, _, rfl, ?_⟩
        rw [List.all_map]
        show (if ws.all isNm = true then _ else _)
        by_cases hall : ws.all isNm = true
        · rw [if_pos hall]
          obtain ⟨zs, rfl, hz⟩ := all_names hall
          rw [List.length_map] at hvl
          refine ⟨_, rfl, q, zs, rfl, SqL.of q4, Nat.lt_of_le_of_lt (show zs.length + 1 ≤ 1001 by omega) (by decide), fun a2 c ha2 hc1 hc2 => ⟨a2, _, c, rfl, upd_same, by omega, _, rfl, q, _, rfl, .inl (SqL.of (by rw [upd_ne (ne_of_none q4 ha2)]; exact q4)), rfl, ?_⟩⟩
          have k2 : ∀ H', Evl.Ex H H' → Q (.bl (decide zs.Nodup)) H' := fun H' e => by
            have := k H' e
            rw [hall, Bool.true_and, show decide (zs.map V.str).Nodup = decide zs.Nodup by rw [Bool.eq_iff_iff]; simp [nodup_strs]] at this
            exact this
          have e9 : decide (V.int (c : Nat) = V.int (((zs.map V.str).length : Nat) : Int)) = decide zs.Nodup := by
            rw [List.length_map, Bool.eq_iff_iff, decide_eq_true_eq, decide_eq_true_eq, ← hc2]
            constructor
            · intro e
              injection e with e
              omega
            · intro e
              rw [e]
          rw [e9]
          exact k2 _ (x04.trans (Evl.Ex.new ha2))
        · rw [if_neg hall]
          have := k _ x04
          rw [show ws.all isNm = false by simpa using hall] at this
          exact this
theorem ok_ren {C CB f f1 fR fI fP : Addr} {fd fdR fdI fdP : FuncData} (F : FnP K "renamed" sRen f fd) (T1 : Err P w K mg base "BadNames" "thing" CB f1)
    (GR : FnOk P w K mg base CX0 3 fR fdR ["village", "thing"] (spIsRen C)) (bR : L2.Binds K fdR ["village", "thing"] []) (kR : PySem.W.keepIn K (.ref fR) = true) (gR : mg "is_renaming" = some (.ref fR))
    (vc : VC P w K mg base C) (gN : mg "Village" = some (.ref C)) (MN : Mk K C fI) (GI : FnOk P w K mg base CX0 4 fI fdI ["self", "houses", "paths"] (spInitG K)) (bI : L2.Binds K fdI ["self", "houses", "paths"] [])
    (mP : Meth K C "paths" fP) (GP : FnOk P w K mg base CX0 1 fP fdP ["self"] (spPathsM K)) (bP : L2.Binds K fdP ["self"] []) : FnOk P w K mg base (L2.CX P w) 6 f fd ["village", "names"] (spRen C CB) := by
  obtain ⟨fM, fdM, mM, GM, bM⟩ := vc.hs
  refine F.ok scRen (fun vs H Q E h => ?_) (fun cdv A outer s H vs Q E hr h => ?_)
  · obtain ⟨v, x, o, hs, ps, m, rfl, _⟩ := h
    rfl
  · obtain ⟨v, x, o, hs, ps, m, rfl, Vh, ⟨Tr, h50, p50, hgd⟩, hx, hsh, k1, k2⟩ := h
    refine' ⟨_, pss_cons (ps_if (pt_not (pt_val (pe_call GR (hr.mono (by decide)) rfl gR kR bR .nil pass0 (pa_cons (pv 0) (pa_cons (pv 1) pa_nil))))) (pss_one (ps_raise1 rfl T1 (hr.mono (by decide)) (takes_of rfl rfl rfl rfl) rfl (pv 1))) pss_nil)
      (pss_cons ?l1
      (pss_one (ps_ret (pe_make MN GI (hr.mono (by decide)) (by rfl) gN bI .nil pass0 (pa_cons (pv 2) (pa_cons ?l2 pa_nil)))))), ?rd⟩
    case l1 =>
      refine ps_setLc (i := 2) (own := [("house", 3)]) (g := gName 3) (tt := tYes) (te := tDGet (tVar 1) (tVar 3)) (by rfl) scRen.nd rfl rfl (sw_true rfl rfl rfl (by decide +kernel)) (pi_list (pe_meth0 (pv 0) vc.cl mM GM (hr.mono (by decide)) bM .nil pass0))
        (blkOk_by (own := [("house", 3)]) (N := nmRen) (sc := defScope sRen) (by decide +kernel)) (fun _ _ _ _ _ => pg_name (i := 3) scRen.nd rfl (.inl rfl)) (fun _ _ _ _ _ => pts_nil) ?_
      intro _ _ _ _ _
      exact pe_dget (hu_of hr) (pv 1) (pv 3) (fun _ _ => rfl)
    case l2 =>
      refine pe_lc (own := [("one", 4), ("other", 5)]) (g := gTup K 2 (gCons (gName 4) (gCons (gName 5) gNil))) (tt := tYes) (te := tTup (tCons (tDGet (tVar 1) (tVar 4)) (tCons (tDGet (tVar 1) (tVar 5)) tNil))) rfl scRen.nd (pi_list (pe_meth0 (pv 0) vc.cl mP GP (hr.mono (by decide)) bP .nil pass0))
        (blkOk_by (own := [("one", 4), ("other", 5)]) (N := nmRen) (sc := defScope sRen) (by decide +kernel)) (fun _ _ _ _ _ => pg_tup rfl (pgs_cons (pg_name (i := 4) scRen.nd rfl (.inl rfl)) (pgs_cons (pg_name (i := 5) scRen.nd rfl (.inl rfl)) pgs_nil))) (fun _ _ _ _ _ => pts_nil) ?_
      intro _ _ _ _ _
      exact pe_tup (pa_cons (pe_dget (hu_of hr) (pv 1) (pv 4) (fun _ _ => rfl)) (pa_cons (pe_dget (hu_of hr) (pv 1) (pv 5) (fun _ _ => rfl)) pa_nil))
    case rd =>
      refine ⟨_, rfl, _, rfl, v, x, o, hs, ps, m, rfl, Vh, hx, hsh, by omega, fun H1 x1 => ⟨_, rfl, ?_⟩⟩
      cases hb : isRen hs o with
      | false => exact iteT ⟨_, rfl, raiseP fun d hd => k1 hb H1 d x1 hd⟩
      | true =>
      refine iteF ?_
      obtain ⟨kvs, rfl⟩ : ∃ kvs, o = some kvs := by
        cases o with
        | some kvs => exact ⟨kvs, rfl⟩
        | none => cases hb
      obtain ⟨f, hf, inj⟩ := ren_good hb
      have k3 := k2 kvs rfl hb f fun h hh => (hf h hh).1
      obtain ⟨a, rfl, ha⟩ : ∃ a, x = .ref a ∧ H a = some (.dK kvs) := by
        cases hx with
        | dic h hi hn hl => exact ⟨_, rfl, h⟩
      have Vh1 := Vh.ex x1
      refine ⟨_, rfl, v, m.dx, _, rfl, Vh1.at_, rfl, v, C, hs, ps, m, rfl, vc.cl, vc.n1, Vh1, fun p hp => ?_⟩
      have xp := Evl.Ex.new (o := .lst (hs.map V.str)) hp
      have p1 : upd H1 p (.lst (hs.map V.str)) p = some (.lst (hs.map V.str)) := upd_same
      have x2 := x1.trans xp
      clear xp
      generalize upd H1 p (.lst (hs.map V.str)) = H2 at x2 p1 ⊢
      have a2 := x2 _ _ ha
      have len1 : ∀ i, (hs.take i).length ≤ 50 := fun i => by rw [List.length_take]; omega
      refine ⟨p, rfl, ⟨_, SqL.of p1⟩, fun D hD => ?_⟩
      refine lc_it (walk_list (xs := hs.map V.str)) (fun i H' => Evl.Ex H2 H' ∧ H' D = some (.lst (((hs.take i).map f).map V.str))) ⟨Evl.Ex.new hD, upd_same⟩ (fun i H' _ hp => SqL.of (hp.1 _ _ p1)) (fun i y H4 H5 hi2 hp hy => ?_) (fun H4 hp => ?_)
      · obtain ⟨x4, e2⟩ := hp
        obtain ⟨rfl, hy⟩ := hy
        rw [List.length_map] at hi2
        obtain ⟨h, hh⟩ := getD_of hi2
        rw [List.getElem?_map, hh] at hy
        cases hy
        have g1 : DGet H5 a (kV (Sum.inr h)) (some (.str (f h))) := by have := DGet.k (k := Sum.inr h) (x4 _ _ a2); rw [(hf h (List.mem_of_getElem? hh)).1] at this; exact this
        refine ⟨rfl, _, rfl, _, rfl, a, _, rfl, g1, _, e2, ?_, ex_upd x4 hD, ?_⟩
        · rw [List.length_map, List.length_map]
          exact Nat.lt_of_le_of_lt (Nat.le_trans (len1 i) (show 50 ≤ 1000 by omega)) (by decide)
        · rw [upd_same, List.take_add_one, hh, List.map_append, List.map_append]
          rfl
      · obtain ⟨x4, e2⟩ := hp
        rw [List.length_map, List.take_length] at e2
        have x04 := x2.trans x4
        have Vh4 := Vh.ex x04
        refine ⟨_, rfl, _, rfl, v, m.dx, _, rfl, Vh4.at_, rfl, v, C, hs, ps, m, rfl, vc.cl, vc.n2, Vh4, fun q hq => ?_⟩
        have xq := Evl.Ex.new (o := .lst (refsL m.zs)) hq
        have q5 : upd H4 q (.lst (refsL m.zs)) q = some (.lst (refsL m.zs)) := upd_same
        have D5 := xq _ _ e2
        have x5 := x04.trans xq
        clear xq
        generalize upd H4 q (.lst (refsL m.zs)) = H5 at x5 q5 D5 ⊢
        have Vh5 := Vh.ex x5
        have a5 := x5 _ _ ha
        have zl : m.zs.length ≤ 50 := by rw [← List.length_map (f := (·.2)), Vh.eq]; exact p50
        refine ⟨q, rfl, ⟨_, SqL.of q5⟩, fun B hB => ?_⟩
        refine lc_it (walk_list (xs := refsL m.zs)) (fun j H' => Evl.Ex H5 H' ∧ ∃ us : PrL, H' B = some (.lst (refsL us)) ∧ PrsAt H' us ∧ us.map (·.2) = mapP f ((m.zs.map (·.2)).take j) ∧ us.length = j) ⟨Evl.Ex.new hB, [], upd_same, fun _ h => (by cases h), rfl, rfl⟩ (fun j H' _ hp => SqL.of (hp.1 _ _ q5)) (fun j x H6 H7 hj hp hy => ?_) (fun H6 hp => ?_)
        · obtain ⟨x6, us, d1, d2, d3, d4⟩ := hp
          obtain ⟨rfl, hx⟩ := hy
          unfold refsL at hj hx
          rw [List.length_map] at hj
          obtain ⟨t3, ht⟩ := getD_of hj
          rw [List.getElem?_map, ht] at hx
          cases hx
          obtain ⟨T, b, c⟩ := t3
          have htm := List.mem_of_getElem? ht
          have hT := x6 _ _ (Vh5.pr _ htm)
          have tk : (m.zs.map (·.2)).take (j + 1) = (m.zs.map (·.2)).take j ++ [(b, c)] := by rw [List.take_add_one, List.getElem?_map, ht]; rfl
          have hm := Tr.mem (.inl (by rw [← Vh.eq]; exact List.mem_map.mpr ⟨_, htm, rfl⟩) : Adj ps b c)
          have g1 : DGet H7 a (kV (Sum.inr b)) (some (.str (f b))) := by have := DGet.k (k := Sum.inr b) (x6 _ _ a5); rw [(hf b hm.1).1] at this; exact this
          have g2 : DGet H7 a (kV (Sum.inr c)) (some (.str (f c))) := by have := DGet.k (k := Sum.inr c) (x6 _ _ a5); rw [(hf c hm.2).1] at this; exact this
          refine ⟨T, _, rfl, SqT.of hT, rfl, _, _, rfl, _, _, rfl, rfl, rfl, _, rfl, _, rfl, a, _, rfl, g1, _, rfl, _, rfl, a, _, rfl, g2, by show 2 ≤ sizeLine; decide, fun u hu => ?_⟩
          have hBu : B ≠ u := ne_of_none d1 hu
          refine ⟨_, by rw [upd_ne hBu]; exact d1, ?_, ex_upd (x6.trans (Evl.Ex.new hu)) hB, us ++ [(u, f b, f c)], by rw [upd_same]; unfold refsL; rw [List.map_append]; rfl, fun t ht => ?_, ?_, ?_⟩
          · unfold refsL
            rw [List.length_map]
            exact Nat.lt_of_le_of_lt (show us.length ≤ 1000 by omega) (by decide)
          · rcases List.mem_append.mp ht with ht | ht
            · have := d2 t ht
              rw [upd_ne (fun z => by rw [z, d1] at this; cases this), upd_ne (ne_of_none this hu)]
              exact this
            · rw [List.mem_singleton.mp ht, upd_ne hBu.symm]
              exact upd_same
          · rw [tk, List.map_append, d3]
            unfold mapP
            rw [List.map_append]
            rfl
          · rw [List.length_append, List.length_singleton]
            omega
        · obtain ⟨x6, us, d1, d2, d3, d4⟩ := hp
          rw [List.take_of_length_le (by unfold refsL; rw [List.length_map, List.length_map]; exact Nat.le_refl _), Vh.eq] at d3
          have ul : us.length ≤ 50 := by rw [d4]; unfold refsL; rw [List.length_map]; exact zl
          have hs0 : hs ≠ [] := fun z => by
            obtain ⟨_, _, top, h1, _⟩ := Tr.ex
            rw [z] at h1
            cases h1
          refine fun o dx ho hdx hne => mkV (tl := false) (tq := false) (l := D) (q := B) (hs := hs.map f) (qs := us) vc.cl vc.n1 vc.n2 vc.n3 (x6 _ _ D5) d1 (fun r hr => ⟨true, d2 r hr⟩) (by rw [d3]; exact Tr.map f inj) (fun z => hs0 (List.map_eq_nil_iff.mp z)) (by rw [List.length_map]; omega) (by omega) (fun z hz => ?_) ho hdx hne fun H' hs' ps' m' x' V' fr' e1 e2 e3 e4 T' => ⟨rfl, k3.ex (x5.trans x6) H' o hs' ps' m' x' ho V' fr' e1 e2 (by rw [d3] at e3; exact e3) e4 T'⟩
          obtain ⟨h, hh, rfl⟩ := List.mem_map.mp hz
          exact ⟨(hf h hh).2, Nat.le_trans (nameOk_len (hf h hh).2) (by decide)⟩
end
end K07

namespace K07
open PySem PySem.Spec PyProof.Rows L2 Exs
/-! ### _law_met: what a call told, or how it was refused -/
abbrev sMet : Stmt := top 46
/-- the way of an error into one clause: its word, its field -/
def Told1 (C : Addr) (w f : Str) (Q : VK) (cls : Value) (d : Option Addr) (H : Hp) : Prop := cls = .ref C ∧ ∃ (dd : Addr) (fs : List (Str × V)) (v : V), d = some dd ∧ H dd = some (.xd fs) ∧ fs.lookup f = some v ∧ ∀ p, H p = none → Q (.ref p) (upd H p (.tup [.str w, v]))
def MetE (K : PySem.W.Frag) (Q : VK) : List (Addr × Str × Str) → XK
  | [] => fun _ _ _ => False
  | (C, w, f) :: r => fun cls d H => ∃ b, PySem.W.exmOne K cls (.ref C) = some b ∧ (b = true → Told1 C w f Q cls d H) ∧ (b = false → MetE K Q r cls d H)
def TMet (K : PySem.W.Frag) (cs : List (Addr × Str × Str)) : (XK → Hp → VK → Prop) → Hp → VK → Prop := fun tl H Q =>
  tl (MetE K Q cs) H fun v H1 => 2 ≤ sizeLine ∧ ∀ p, H1 p = none → Q (.ref p) (upd H1 p (.tup [.str "told", v]))
theorem scMet : FnScope ["ask", "e"] ["ask"] (defScope sMet) := ⟨rfl, rfl, rfl, by decide +kernel, rfl, by decide +kernel, by decide +kernel⟩
/-- what the six clauses are -/
def metCs (C1 C2 C3 C4 C5 C6 : Addr) : List (Addr × Str × Str) := [(C1, "some", "index"), (C2, "joined", "house"), (C3, "house", "thing"), (C4, "name", "thing"), (C5, "common", "name"), (C6, "names", "thing")]
theorem met_gives {X : Cx} {g C1 f1 C2 f2 C3 f3 C4 f4 C5 f5 C6 f6 : Addr} {cdg : Value} {q : Str} (T1 : Err X.prog X.w X.K X.mg X.base "BadSome" "index" C1 f1) (T2 : Err X.prog X.w X.K X.mg X.base "NotJoined" "house" C2 f2) (T3 : Err X.prog X.w X.K X.mg X.base "NoHouse" "thing" C3 f3) (T4 : Err X.prog X.w X.K X.mg X.base "BadName" "thing" C4 f4) (T5 : Err X.prog X.w X.K X.mg X.base "CommonHouse" "name" C5 f5) (T6 : Err X.prog X.w X.K X.mg X.base "BadNames" "thing" C6 f6) :
    Lm.GivesT X ["ask", "e"] "_law_met" (defScope sMet) g cdg (defBody sMet) "ask" q (TMet X.K (metCs C1 C2 C3 C4 C5 C6)) := by
  intro f c2 P2 s H Q tl act hc h
  refine ⟨_, pss_one (ps_try_clauses (l := [(.ref C1, 1, fun a cls d => tRet (tTup (tCons (tC (.str "some")) (tCons (tXf a cls d C1 "index" (tVar 1)) tNil)))), (.ref C2, 1, fun a cls d => tRet (tTup (tCons (tC (.str "joined")) (tCons (tXf a cls d C2 "house" (tVar 1)) tNil)))), (.ref C3, 1, fun a cls d => tRet (tTup (tCons (tC (.str "house")) (tCons (tXf a cls d C3 "thing" (tVar 1)) tNil)))), (.ref C4, 1, fun a cls d => tRet (tTup (tCons (tC (.str "name")) (tCons (tXf a cls d C4 "thing" (tVar 1)) tNil)))), (.ref C5, 1, fun a cls d => tRet (tTup (tCons (tC (.str "common")) (tCons (tXf a cls d C5 "name" (tVar 1)) tNil)))), (.ref C6, 1, fun a cls d => tRet (tTup (tCons (tC (.str "names")) (tCons (tXf a cls d C6 "thing" (tVar 1)) tNil))))])
    (Wout := fun _ _ _ _ => False)
    (tb := fun W D σ H => ∃ Ech : XK, (∀ cls d σ' H', Ech cls d H' → W cls d σ' H') ∧ σ[0]? = some (some (.ref f)) ∧ H c2 = some (Lm.CodeT c2 q P2) ∧ tl Ech H fun v H1 => 2 ≤ sizeLine ∧ ∀ p, H1 p = none → D.rt (.ref p) (upd H1 p (.tup [.str "told", v])))
    rfl rfl scMet.nd takes_none5 ?_ ?_), ?_⟩
  · intro W pn xe tk _
    refine ⟨fun pins s' σ H' D I h' => ?_⟩
    obtain ⟨Ech, hW, h1, h2, h3⟩ := h'
    exact PSs.run (t := tRet (tTup (tCons (tC (.str "told")) (tCons (fun σZ HZ Q => σZ[0]? = some (some (.ref f)) ∧ HZ c2 = some (Lm.CodeT c2 q P2) ∧ tl Ech HZ Q) tNil)))) (pss_one (ps_ret (pe_tup (pa_cons pe_str (pa_cons (act W pn xe Ech _ _ tk hW) pa_nil))))) pins s' σ H' D I ⟨h1, h2, h3⟩
  · refine .cons ⟨rfl, rfl, .inl T1.g⟩ rfl rfl (fun a oe cls d pn hz hf => ?_) (.cons ⟨rfl, rfl, .inl T2.g⟩ rfl rfl (fun a oe cls d pn hz hf => ?_) (.cons ⟨rfl, rfl, .inl T3.g⟩ rfl rfl (fun a oe cls d pn hz hf => ?_) (.cons ⟨rfl, rfl, .inl T4.g⟩ rfl rfl (fun a oe cls d pn hz hf => ?_) (.cons ⟨rfl, rfl, .inl T5.g⟩ rfl rfl (fun a oe cls d pn hz hf => ?_) (.cons ⟨rfl, rfl, .inl T6.g⟩ rfl rfl (fun a oe cls d pn hz hf => ?_) .nil)))))
    · exact pss_one (ps_ret (pe_tup (pa_cons pe_str (pa_cons (pe_xf T1.c.xf T1.c.no hz hf (pv 1)) pa_nil))))
    · exact pss_one (ps_ret (pe_tup (pa_cons pe_str (pa_cons (pe_xf T2.c.xf T2.c.no hz hf (pv 1)) pa_nil))))
    · exact pss_one (ps_ret (pe_tup (pa_cons pe_str (pa_cons (pe_xf T3.c.xf T3.c.no hz hf (pv 1)) pa_nil))))
    · exact pss_one (ps_ret (pe_tup (pa_cons pe_str (pa_cons (pe_xf T4.c.xf T4.c.no hz hf (pv 1)) pa_nil))))
    · exact pss_one (ps_ret (pe_tup (pa_cons pe_str (pa_cons (pe_xf T5.c.xf T5.c.no hz hf (pv 1)) pa_nil))))
    · exact pss_one (ps_ret (pe_tup (pa_cons pe_str (pa_cons (pe_xf T6.c.xf T6.c.no hz hf (pv 1)) pa_nil))))
  · refine ⟨MetE X.K Q (metCs C1 C2 C3 C4 C5 C6), fun cls d σ' H' hE => ?_, rfl, hc, ?_⟩
    · have slot : ∀ {v : Option V}, σ'.length = 2 → (σ'.set 1 v)[1]? = some v := fun {v} hl => by
        rw [List.getElem?_set_self (by omega)]
      obtain ⟨b1, e1, p1, q1⟩ := hE
      refine ⟨b1, e1, fun z a ha hl => ?_, fun z => ?_⟩
      · obtain ⟨rfl, dd, fs, v, rfl, k1, k2, k3⟩ := p1 z
        refine ⟨_, slot hl, rfl, rfl, dd, fs, v, rfl, k1, k2, by show 2 ≤ sizeLine; decide, fun p hp => k3 p hp⟩
      obtain ⟨b2, e2, p2, q2⟩ := q1 z
      refine ⟨b2, e2, fun z a ha hl => ?_, fun z => ?_⟩
      · obtain ⟨rfl, dd, fs, v, rfl, k1, k2, k3⟩ := p2 z
        refine ⟨_, slot hl, rfl, rfl, dd, fs, v, rfl, k1, k2, by show 2 ≤ sizeLine; decide, fun p hp => k3 p hp⟩
      obtain ⟨b3, e3, p3, q3⟩ := q2 z
      refine ⟨b3, e3, fun z a ha hl => ?_, fun z => ?_⟩
      · obtain ⟨rfl, dd, fs, v, rfl, k1, k2, k3⟩ := p3 z
        refine ⟨_, slot hl, rfl, rfl, dd, fs, v, rfl, k1, k2, by show 2 ≤ sizeLine; decide, fun p hp => k3 p hp⟩
      obtain ⟨b4, e4, p4, q4⟩ := q3 z
      refine ⟨b4, e4, fun z a ha hl => ?_, fun z => ?_⟩
      · obtain ⟨rfl, dd, fs, v, rfl, k1, k2, k3⟩ := p4 z
        refine ⟨_, slot hl, rfl, rfl, dd, fs, v, rfl, k1, k2, by show 2 ≤ sizeLine; decide, fun p hp => k3 p hp⟩
      obtain ⟨b5, e5, p5, q5⟩ := q4 z
      refine ⟨b5, e5, fun z a ha hl => ?_, fun z => ?_⟩
      · obtain ⟨rfl, dd, fs, v, rfl, k1, k2, k3⟩ := p5 z
        refine ⟨_, slot hl, rfl, rfl, dd, fs, v, rfl, k1, k2, by show 2 ≤ sizeLine; decide, fun p hp => k3 p hp⟩
      obtain ⟨b6, e6, p6, q6⟩ := q5 z
      refine ⟨b6, e6, fun z a ha hl => ?_, fun z => ?_⟩
      · obtain ⟨rfl, dd, fs, v, rfl, k1, k2, k3⟩ := p6 z
        refine ⟨_, slot hl, rfl, rfl, dd, fs, v, rfl, k1, k2, by show 2 ≤ sizeLine; decide, fun p hp => k3 p hp⟩
      · exact q6 z
    · exact h
end K07

namespace K07
open PySem PySem.Spec PyProof.Rows L2 Tr Sq Dk Dt Exs
/-! ### what a refused call tells -/
/-- told with a pair -/
def RefQ (w : Str) (v : V) (H1 : Hp) (Q : VK) : Prop := ∀ (H2 : Hp) (p : Addr), Evl.Ex H1 H2 → H1 p = none → H2 p = some (.tup [.str w, v]) → Q (.ref p) H2
theorem told1 {C : Addr} {w f : Str} {v : V} {H1 H' : Hp} {Q : VK} {d : Addr} (h : RefQ w v H1 Q) (e : Evl.Ex H1 H') (hd : H' d = none) : Told1 C w f Q (.ref C) (some d) (upd H' d (.xd [(f, v)])) := by
  refine ⟨rfl, d, _, v, rfl, upd_same, by simp [List.lookup], fun p hp => ?_⟩
  have e2 := e.trans ((Evl.Ex.new (o := .xd [(f, v)]) hd).trans (Evl.Ex.new (o := .tup [.str w, v]) hp))
  refine h _ p e2 (none_of (fun o z => (e.trans (Evl.Ex.new (o := .xd [(f, v)]) hd)) p o z) hp) upd_same
end K07

namespace K07
open PySem PySem.Spec PyProof.Rows L2 Tr Sq Dk Dt Exs Oeq
/-! ### what the parts of the law share -/
/-- the six errors -/
structure Ers (P : Program) (w : World) (K : PySem.W.Frag) (mg : Str → Option Value) (base : Heap) (C1 C2 C3 C4 C5 C6 : Addr) : Prop where
  e1 : ∃ f, Err P w K mg base "BadSome" "index" C1 f
  e2 : ∃ f, Err P w K mg base "NotJoined" "house" C2 f
  e3 : ∃ f, Err P w K mg base "NoHouse" "thing" C3 f
  e4 : ∃ f, Err P w K mg base "BadName" "thing" C4 f
  e5 : ∃ f, Err P w K mg base "CommonHouse" "name" C5 f
  e6 : ∃ f, Err P w K mg base "BadNames" "thing" C6 f
  n21 : PySem.W.exmOne K (.ref C2) (.ref C1) = some false
  n31 : PySem.W.exmOne K (.ref C3) (.ref C1) = some false
  n32 : PySem.W.exmOne K (.ref C3) (.ref C2) = some false
  n41 : PySem.W.exmOne K (.ref C4) (.ref C1) = some false
  n42 : PySem.W.exmOne K (.ref C4) (.ref C2) = some false
  n43 : PySem.W.exmOne K (.ref C4) (.ref C3) = some false
  n51 : PySem.W.exmOne K (.ref C5) (.ref C1) = some false
  n52 : PySem.W.exmOne K (.ref C5) (.ref C2) = some false
  n53 : PySem.W.exmOne K (.ref C5) (.ref C3) = some false
  n54 : PySem.W.exmOne K (.ref C5) (.ref C4) = some false
  n61 : PySem.W.exmOne K (.ref C6) (.ref C1) = some false
  n62 : PySem.W.exmOne K (.ref C6) (.ref C2) = some false
  n63 : PySem.W.exmOne K (.ref C6) (.ref C3) = some false
  n64 : PySem.W.exmOne K (.ref C6) (.ref C4) = some false
  n65 : PySem.W.exmOne K (.ref C6) (.ref C5) = some false
section
variable {P : Program} {w : World} {K : PySem.W.Frag} {mg : Str → Option Value} {base : Heap} {C1 C2 C3 C4 C5 C6 d : Addr} {v : V} {H1 H' : Hp} {Q : VK}
theorem Ers.m1 (D : Ers P w K mg base C1 C2 C3 C4 C5 C6) (h : RefQ "some" v H1 Q) (e : Evl.Ex H1 H') (hd : H' d = none) : MetE K Q (metCs C1 C2 C3 C4 C5 C6) (.ref C1) (some d) (upd H' d (.xd [("index", v)])) := by
  obtain ⟨_, T⟩ := D.e1
  exact ⟨true, T.c.me, fun _ => told1 h e hd, (fun z => by cases z)⟩
theorem Ers.m2 (D : Ers P w K mg base C1 C2 C3 C4 C5 C6) (h : RefQ "joined" v H1 Q) (e : Evl.Ex H1 H') (hd : H' d = none) : MetE K Q (metCs C1 C2 C3 C4 C5 C6) (.ref C2) (some d) (upd H' d (.xd [("house", v)])) := by
  obtain ⟨_, T⟩ := D.e2
  exact ⟨false, D.n21, (fun z => by cases z), fun _ => ⟨true, T.c.me, fun _ => told1 h e hd, (fun z => by cases z)⟩⟩
theorem Ers.m3 (D : Ers P w K mg base C1 C2 C3 C4 C5 C6) (h : RefQ "house" v H1 Q) (e : Evl.Ex H1 H') (hd : H' d = none) : MetE K Q (metCs C1 C2 C3 C4 C5 C6) (.ref C3) (some d) (upd H' d (.xd [("thing", v)])) := by
  obtain ⟨_, T⟩ := D.e3
  exact ⟨false, D.n31, (fun z => by cases z), fun _ => ⟨false, D.n32, (fun z => by cases z), fun _ => ⟨true, T.c.me, fun _ => told1 h e hd, (fun z => by cases z)⟩⟩⟩
theorem Ers.m4 (D : Ers P w K mg base C1 C2 C3 C4 C5 C6) (h : RefQ "name" v H1 Q) (e : Evl.Ex H1 H') (hd : H' d = none) : MetE K Q (metCs C1 C2 C3 C4 C5 C6) (.ref C4) (some d) (upd H' d (.xd [("thing", v)])) := by
  obtain ⟨_, T⟩ := D.e4
  exact ⟨false, D.n41, (fun z => by cases z), fun _ => ⟨false, D.n42, (fun z => by cases z), fun _ => ⟨false, D.n43, (fun z => by cases z), fun _ => ⟨true, T.c.me, fun _ => told1 h e hd, (fun z => by cases z)⟩⟩⟩⟩
theorem Ers.m5 (D : Ers P w K mg base C1 C2 C3 C4 C5 C6) (h : RefQ "common" v H1 Q) (e : Evl.Ex H1 H') (hd : H' d = none) : MetE K Q (metCs C1 C2 C3 C4 C5 C6) (.ref C5) (some d) (upd H' d (.xd [("name", v)])) := by
  obtain ⟨_, T⟩ := D.e5
  exact ⟨false, D.n51, (fun z => by cases z), fun _ => ⟨false, D.n52, (fun z => by cases z), fun _ => ⟨false, D.n53, (fun z => by cases z), fun _ => ⟨false, D.n54, (fun z => by cases z), fun _ => ⟨true, T.c.me, fun _ => told1 h e hd, (fun z => by cases z)⟩⟩⟩⟩⟩
theorem Ers.m6 (D : Ers P w K mg base C1 C2 C3 C4 C5 C6) (h : RefQ "names" v H1 Q) (e : Evl.Ex H1 H') (hd : H' d = none) : MetE K Q (metCs C1 C2 C3 C4 C5 C6) (.ref C6) (some d) (upd H' d (.xd [("thing", v)])) := by
  obtain ⟨_, T⟩ := D.e6
  exact ⟨false, D.n61, (fun z => by cases z), fun _ => ⟨false, D.n62, (fun z => by cases z), fun _ => ⟨false, D.n63, (fun z => by cases z), fun _ => ⟨false, D.n64, (fun z => by cases z), fun _ => ⟨false, D.n65, (fun z => by cases z), fun _ => ⟨true, T.c.me, fun _ => told1 h e hd, (fun z => by cases z)⟩⟩⟩⟩⟩⟩
end
/-- a village beside the lists that it was made of -/
structure LV (C : Addr) (H : Hp) (v l q : Addr) (h0 : Str) (ht hs : List Str) (ps : Prs) (m : VilD) (qs : PrL) : Prop where
  vil : Vil H C v hs ps m
  lat : H l = some (.lst ((h0 :: ht).map V.str))
  qat : H q = some (.lst (refsL qs))
  pr : PrsAt H qs
  tr : Tree (h0 :: ht) (qs.map (·.2))
  hl : (h0 :: ht).length ≤ 8
  ql : qs.length ≤ 8
  gd : ∀ h ∈ h0 :: ht, h ∈ names12
  per : hs.Perm (h0 :: ht)
  sor : sortedS hs = true
  pper : ps.Perm ((qs.map (·.2)).map ordP)
  ppw : ps.Pairwise (fun x y => Srs.lexT y x = false)
section
variable {C : Addr} {H H' : Hp} {v l q : Addr} {h0 : Str} {ht hs : List Str} {ps : Prs} {m : VilD} {qs : PrL}
theorem LV.ex (L : LV C H v l q h0 ht hs ps m qs) (e : Evl.Ex H H') : LV C H' v l q h0 ht hs ps m qs := ⟨L.vil.ex e, e _ _ L.lat, e _ _ L.qat, L.pr.ex e, L.tr, L.hl, L.ql, L.gd, L.per, L.sor, L.pper, L.ppw⟩
theorem LV.vt (L : LV C H v l q h0 ht hs ps m qs) : Tree hs ps := (L.tr.turn ordP ordP_or).perm L.per L.pper
theorem LV.vh (L : LV C H v l q h0 ht hs ps m qs) : hs.length ≤ 8 := by rw [L.per.length_eq]; exact L.hl
theorem LV.vp (L : LV C H v l q h0 ht hs ps m qs) : ps.length ≤ 8 := by have := L.pper.length_eq; rw [List.length_map, List.length_map] at this; rw [this]; exact L.ql
theorem LV.vg (L : LV C H v l q h0 ht hs ps m qs) : ∀ h ∈ hs, h ∈ names12 := fun h hh => L.gd h (L.per.mem_iff.mp hh)
theorem good_nm {h : Str} (hh : h ∈ names12) : nameOk h = true ∧ h.length ≤ 1000 := ⟨nm_good h hh, Nat.le_trans (good_len h hh).2 (by decide)⟩
theorem LV.good (L : LV C H v l q h0 ht hs ps m qs) : GoodV hs ps := ⟨L.vt, Nat.le_trans L.vh (by decide), Nat.le_trans L.vp (by decide), fun h hh => good_nm (L.vg h hh)⟩
theorem LV.ok (L : LV C H v l q h0 ht hs ps m qs) : okN hs ps := okN_of L.vt fun x hx => good_ok x (L.vg x hx)
end
theorem sign_ok : ∀ c ∈ small.cps.toList ++ figs.cps.toList, c < 1114112 := by decide +kernel
theorem name_str {z : Str} (h : nameOk z = true) : PyData.strOk z = true := by
  unfold nameOk at h
  rw [Bool.and_eq_true, List.all_eq_true] at h
  unfold PyData.strOk
  rw [← Array.all_toList, List.all_eq_true]
  intro c hc
  have := h.2 c hc
  simp only [Bool.or_eq_true, decide_eq_true_eq] at this
  exact decide_eq_true (sign_ok c (List.mem_append.mpr this))
theorem ordP_idem (q : Str × Str) : ordP (ordP q) = ordP q := by
  obtain ⟨a, b⟩ := q
  unfold ordP
  cases h1 : Srs.ltT a b with
  | true => simp [h1]
  | false =>
    cases h2 : Srs.ltT b a with
    | true => simp [h2]
    | false =>
      have := Srs.ltT_tot h1 h2
      subst this
      simp [h1]
theorem ordP_map (l : Prs) : (l.map ordP).map ordP = l.map ordP := by
  rw [List.map_map]
  exact List.map_congr_left fun q _ => ordP_idem q
theorem among_ord (ss : List Str) : ∀ l : Prs, among ss (l.map ordP) = (among ss l).map ordP
  | [] => rfl
  | q :: l => by
    have e : (decide ((ordP q).1 ∈ ss) && decide ((ordP q).2 ∈ ss)) = (decide (q.1 ∈ ss) && decide (q.2 ∈ ss)) := by
      unfold ordP
      split
      · rfl
      · exact Bool.and_comm _ _
    have ih := among_ord ss l
    unfold among at ih ⊢
    rw [List.map_cons, List.filter_cons, List.filter_cons, e, ih]
    split <;> rfl
theorem among_perm {ss : List Str} {l k : Prs} (h : l.Perm k) : (among ss l).Perm (among ss k) := h.filter _
theorem conn_perm {l k : Prs} {a b : Str} (h : l.Perm k) : Conn l a b ↔ Conn k a b := ⟨fun c => c.mono fun q hq => h.mem_iff.mp hq, fun c => c.mono fun q hq => h.mem_iff.mpr hq⟩
theorem conn_ord {l : Prs} {a b : Str} : Conn (l.map ordP) a b ↔ Conn l a b := by
  have adj : ∀ x y, Adj (l.map ordP) x y ↔ Adj l x y := fun x y => by
    constructor
    · rintro (h | h) <;>
      · obtain ⟨q, hq, e⟩ := List.mem_map.mp h
        unfold ordP at e
        split at e
        · subst e
          first | exact .inl hq | exact .inr hq
        · obtain ⟨c, d⟩ := q
          injection e with e1 e2
          subst e1 e2
          first | exact .inr hq | exact .inl hq
    · have f : ∀ c d, (c, d) ∈ l → Adj (l.map ordP) c d := fun c d h => by
        have := List.mem_map_of_mem (f := ordP) h
        unfold ordP at this
        split at this
        · exact .inl this
        · exact .inr this
      rintro (h | h)
      · exact f _ _ h
      · exact (f _ _ h).symm
  constructor
  · intro h
    induction h with
    | refl => exact .refl
    | step _ e ih => exact .step ih ((adj _ _).mp e)
  · intro h
    induction h with
    | refl => exact .refl
    | step _ e ih => exact .step ih ((adj _ _).mpr e)
/-- two villages told of the same -/
theorem same_vil {hs1 hs2 ks1 ks2 : List Str} {ps1 ps2 as bs : Prs} (h1 : hs1.Perm ks1) (s1 : sortedS hs1 = true) (h2 : hs2.Perm ks2) (s2 : sortedS hs2 = true) (hk : ks1.Perm ks2) (p1 : ps1.Perm (as.map ordP)) (w1 : ps1.Pairwise (fun x y => Srs.lexT y x = false)) (p2 : ps2.Perm (bs.map ordP)) (w2 : ps2.Pairwise (fun x y => Srs.lexT y x = false)) (hp : (as.map ordP).Perm (bs.map ordP)) : (decide (hs1 = hs2) && decide (ps1 = ps2)) = true := by
  rw [decide_eq_true (sorted_one (sorted_pw s1) (sorted_pw s2) (h1.trans (hk.trans h2.symm))), decide_eq_true (asc_one (p1.trans (hp.trans p2.symm)) w1 w2)]
  rfl
end K07

/-! min(xs), max(xs) of a list of texts. Law-independent. -/
namespace Mns
open PySem PySem.Spec PyProof.Rows L2
def sAt (xs : List Str) (i : Nat) : Str := xs.getD i (Str.ofString "")
theorem vals_at : ∀ {xs : List Str} {its : List Value} {i : Nat} {v : Value}, Vals (xs.map V.str) its → its[i]? = some v → ∃ k, v = .str (sAt xs i) k
  | [], _, i, v, .nil, h => by simp at h
  | x :: r, _, 0, v, .cons ⟨k, e⟩ t, h => by
    simp only [List.getElem?_cons_zero, Option.some.injEq] at h
    exact ⟨k, by rw [← h, e]; rfl⟩
  | x :: r, _, i + 1, v, .cons _ t, h => by
    rw [List.getElem?_cons_succ] at h
    obtain ⟨k, e⟩ := vals_at t h
    exact ⟨k, e⟩
theorem best_le (bt : Nat → Nat → Bool) : ∀ k, argBest bt k ≤ k
  | 0 => Nat.le_refl _
  | k + 1 => by
    unfold argBest
    split
    · exact Nat.le_refl _
    · exact Nat.le_succ_of_le (best_le bt k)
theorem best_min (f : Nat → Str) : ∀ k j, j ≤ k → Srs.ltT (f j) (f (argBest (fun i j => Srs.ltT (f i) (f j)) k)) = false
  | 0, j, h => by
    rw [Nat.le_zero.mp h]
    exact Srs.ltT_irr _
  | k + 1, j, h => by
    have ih := best_min f k
    unfold argBest
    split
    · rename_i hb
      by_cases hj : j = k + 1
      · rw [hj]; exact Srs.ltT_irr _
      · have := ih j (by omega)
        cases c : Srs.ltT (f j) (f (k + 1)) with
        | false => rfl
        | true => rw [Srs.ltT_tr c hb] at this; cases this
    · rename_i hb
      by_cases hj : j = k + 1
      · rw [hj]; simpa using hb
      · exact ih j (by omega)
theorem sAt_mem {xs : List Str} {i : Nat} (h : i < xs.length) : sAt xs i ∈ xs := by
  unfold sAt
  rw [List.getD_eq_getElem?_getD, List.getElem?_eq_getElem h]
  exact List.getElem_mem h
theorem mem_sAt {xs : List Str} {y : Str} (h : y ∈ xs) : ∃ j, j < xs.length ∧ y = sAt xs j := by
  obtain ⟨j, hj, e⟩ := List.mem_iff_getElem.mp h
  refine ⟨j, hj, ?_⟩
  unfold sAt
  rw [List.getD_eq_getElem?_getD, List.getElem?_eq_getElem hj]
  exact e.symm
section
variable {X : Cx}
def rMinS (K : PySem.W.Frag) : List V → Hp → VK → Prop := fun vs H Q => ∃ (a : Addr) (xs : List Str), vs = [.ref a] ∧ SqL K H a (xs.map V.str) ∧ xs ≠ [] ∧ ∀ m, m ∈ xs → (∀ y ∈ xs, Srs.ltT y m = false) → Q (.str m) H
theorem cr_minS (hc : X.calm = true) : CallR X (.builtin "min") (rMinS X.K) := by
  intro pins s σ H vs us Q I r h
  obtain ⟨a, xs, rfl, hs, hne, q⟩ := h
  obtain ⟨its, rv, hl, _⟩ := I.list hs
  rw [Vals.ref1 r]
  have hlen : xs.length = its.length := by have := rv.length; rwa [List.length_map] at this
  have hl := hl.isList
  have hlt : a < s.heap.objs.size := by obtain ⟨_, e, _⟩ := hl; exact Heap.lt_size e
  have hpos : 0 < xs.length := List.length_pos_iff.mpr hne
  refine call_min_walk (wpAny_pyIter_list hl ⟨_, [_, a], [_], its.toArray.size, _, _, _, rfl, Walks.list (A := X.A.in1) (I.ok.hd hc) _ a (Nat.ne_of_lt hlt) its.toArray, ⟨⟨_, Heap.get?_push_size _ rfl, rfl, rfl⟩, hl.push _⟩, fun c mc => ?_, by rw [List.size_toArray, ← hlen]; exact hpos, (fun i j x y z Q R ha hb h => ?_ : CmpOf _ _ _ .Lt _ fun i j => Srs.ltT (sAt xs i) (sAt xs j)), fun v h' tk best hk => ?_⟩)
  · show c < (s.heap.push _).objs.size
    rw [Heap.size_push]
    simp only [List.mem_cons, List.not_mem_nil, or_false] at mc
    rcases mc with m | m <;> rw [m]
    · exact Nat.lt_succ_self _
    · exact Nat.lt_succ_of_lt hlt
  · obtain ⟨k1, rfl⟩ := vals_at rv (by simpa using ha)
    obtain ⟨k2, rfl⟩ := vals_at rv (by simpa using hb)
    exact PyProof.Rows.lt_str h
  · obtain ⟨k, rfl⟩ := vals_at rv (by simpa using best)
    have J : Inv X pins σ H { s with heap := h', toks := tk } := I.kept (t' := tk) fun c o e => by
      refine hk c o (fun m => ?_) (Heap.get?_push_of_some _ e)
      have lt := Heap.lt_size e
      rw [List.mem_singleton.mp m] at lt
      exact absurd lt (Nat.lt_irrefl _)
    have hb := best_le (fun i j => Srs.ltT (sAt xs i) (sAt xs j)) (its.toArray.size - 1)
    rw [List.size_toArray] at hb
    refine ⟨.str _, H, J, ⟨k, rfl⟩, q _ (sAt_mem (by omega)) fun y hy => ?_⟩
    obtain ⟨j, hj, rfl⟩ := mem_sAt hy
    exact best_min (sAt xs) (its.toArray.size - 1) j (by rw [List.size_toArray]; omega)
end
end Mns

namespace K07
open PySem PySem.Spec PyProof.Rows L2 Tr Sq Dk Dt Exs Oeq
/-! ### _law_parts_right -/
abbrev sPar : Stmt := top 47
abbrev qlP : Str := "_law_parts_right" ++ ".<locals>." ++ "<lambda>"
abbrev nmPar : List Str := ["stream", "village", "houses", "paths", "some", "kept", "apart", "handed", "found", "at", "odd", "dues", "pair", "house", "thing", "due"]
theorem scPar : FnScope nmPar ["stream", "village", "houses", "paths"] (defScope sPar) := ⟨rfl, rfl, rfl, by decide +kernel, rfl, by decide +kernel, by decide +kernel⟩
def spPar (mg : Str → Option Value) (C T : Addr) : Sp := fun vs H Q _ => ∃ (p c v l q : Addr) (n : Nat) (h0 : Str) (ht hs : List Str) (ps : Prs) (m : VilD) (qs : PrL), vs = [.ref p, .ref v, .ref l, .ref q] ∧ StrAt H p c n ∧ n + 40 ≤ 1000000000 ∧ Lm.TabD mg [qlP] H T ∧ LV C (wo p c T H) v l q h0 ht hs ps m qs ∧ ∀ H', Ws mg qlP T p c H (n + 40) H' → Q (.bl true) H'
structure EnvP (P : Program) (w : World) (K : PySem.W.Frag) (mg : Str → Option Value) (base : Heap) (C CB CJ : Addr) : Prop where
  draw : ∃ f fd, mg "_law_draw" = some (.ref f) ∧ FnOk P w K mg base CX0 1 f fd ["stream", "many"] spDraw ∧ PySem.W.keepIn K (.ref f) = true ∧ L2.Binds K fd ["stream", "many"] []
  pick : ∃ f fd, mg "_law_pick" = some (.ref f) ∧ FnOk P w K mg base CX0 2 f fd ["stream", "some"] (spPick K) ∧ PySem.W.keepIn K (.ref f) = true ∧ L2.Binds K fd ["stream", "some"] []
  mixed : ∃ f fd, mg "_law_mixed" = some (.ref f) ∧ FnOk P w K mg base CX0 2 f fd ["stream", "some"] (spMixed K) ∧ PySem.W.keepIn K (.ref f) = true ∧ L2.Binds K fd ["stream", "some"] []
  way : ∃ f fd, mg "_law_v_way" = some (.ref f) ∧ FnOk P w K mg base CX0 2 f fd ["paths", "one", "other"] spWayG ∧ PySem.W.keepIn K (.ref f) = true ∧ L2.Binds K fd ["paths", "one", "other"] []
  same : ∃ f fd, mg "_law_same" = some (.ref f) ∧ (∀ n, FnOk P w K mg base CX0 n f fd ["found", "due"] (spSame n)) ∧ PySem.W.keepIn K (.ref f) = true ∧ L2.Binds K fd ["found", "due"] []
  met : ∃ f fd, mg "_law_met" = some (.ref f) ∧ FnP K "_law_met" sMet f fd
  part : ∃ f fd, mg "part_of" = some (.ref f) ∧ FnOk P w K mg base (L2.CX P w) 7 f fd ["village", "some"] (spPart C CB CJ) ∧ PySem.W.keepIn K (.ref f) = true ∧ L2.Binds K fd ["village", "some"] []
  vil : ∃ f fd, mg "Village" = some (.ref C) ∧ Mk K C f ∧ FnOk P w K mg base CX0 4 f fd ["self", "houses", "paths"] (spInitG K) ∧ L2.Binds K fd ["self", "houses", "paths"] []
  eqv : ∃ f fd, FnOk P w K mg base CX0 2 f fd ["self", "other"] (spEqV C) ∧ PySem.W.findIn K (.ref C) "__eq__" = some (some (.ref f)) ∧ PySem.W.isFn K (.ref f) = true ∧ L2.Binds K fd ["self", "other"] []
  ve : VE K C
  n3 : NoAttr K C "_near"
  gLen : mg "len" = none
  gAll : mg "all" = none
  gLi : mg "list" = none
  gTpl : mg "tuple" = none
  gSo : mg "sorted" = none
  gMi : mg "min" = none
theorem someFrom_none {hs : List Str} : ∀ {rs : List Str} {seen : List V} {i : Nat}, (∀ h ∈ rs, h ∈ hs) → rs.Nodup → (∀ h ∈ rs, V.str h ∉ seen) → someFrom hs seen (rs.map V.str) i = none
  | [], _, _, _, _, _ => rfl
  | h :: r, seen, i, hn, hd, hx => by
    show (if isHouse hs (.str h) = true ∧ V.str h ∉ seen then someFrom hs (seen ++ [V.str h]) (r.map V.str) (i + 1) else some i) = none
    rw [if_pos ⟨decide_eq_true (hn h List.mem_cons_self), hx h List.mem_cons_self⟩]
    obtain ⟨h1, h2⟩ := List.nodup_cons.mp hd
    refine someFrom_none (fun x hx => hn x (List.mem_cons_of_mem _ hx)) h2 (fun x hx2 hm => ?_)
    rcases List.mem_append.mp hm with hm | hm
    · exact hx x (List.mem_cons_of_mem _ hx2) hm
    · have : V.str x = V.str h := by simpa using hm
      rw [V.str.inj this] at hx2
      exact h1 hx2
theorem someFlaw_good {hs rs : List Str} (hn : ∀ h ∈ rs, h ∈ hs) (hd : rs.Nodup) (hne : rs ≠ []) : someFlaw hs (some (rs.map V.str)) = none := by
  show (if (rs.map V.str).length = 0 then some 0 else someFrom hs [] (rs.map V.str) 0) = none
  rw [if_neg (by rw [List.length_map]; exact fun z => hne (List.length_eq_zero_iff.mp z))]
  exact someFrom_none hn hd (fun _ _ h => by cases h)
theorem strs_inj : ∀ {a b : List Str}, a.map V.str = b.map V.str → a = b
  | [], [], _ => rfl
  | [], _ :: _, h => by cases h
  | _ :: _, [], h => by cases h
  | x :: a, y :: b, h => by
    rw [List.map_cons, List.map_cons] at h
    injection h with h1 h2
    rw [V.str.inj h1, strs_inj h2]
theorem rx_strs {H : Hp} {t : Bool} {a : Addr} {hs : List Str} (h : Lt H t a (hs.map V.str)) (hl : hs.length ≤ 1000) : RX H (.ref a) (some (hs.map V.str)) := by
  have hp : ∀ y ∈ hs.map V.str, ∃ n, Pl H y n := fun y hy => by
    obtain ⟨z, _, rfl⟩ := List.mem_map.mp hy
    exact ⟨_, .str z⟩
  cases t with
  | false => exact .lst h hp (by rw [List.length_map]; exact hl)
  | true => exact .tup h hp (by rw [List.length_map]; exact hl)
theorem Vil.wo {p c T C : Addr} {H0 H : Hp} {v : Addr} {hs : List Str} {ps : Prs} {m : VilD} (h : Vil H C v hs ps m) (f : FreshV H0 hs m) (n : ∀ b, H0 b = none → b ≠ p ∧ b ≠ c ∧ b ≠ T) (hv : H0 v = none) : Vil (wo p c T H) C v hs ps m := by
  have g : ∀ {b : Addr} {o : HO}, H0 b = none → H b = some o → K07.wo p c T H b = some o := fun {b o} e z => wo_at z (n b e).1 (n b e).2.1 (n b e).2.2
  exact ⟨g hv h.at_, g f.a h.la, g f.b h.lb, fun t ht => g (f.z t ht) (h.pr t ht), h.eq, ⟨g f.d h.nr.1, fun x hx => g (f.ad x hx) (h.nr.2 x hx)⟩⟩
theorem some_at {hs : List Str} {odd : V} {rest : List V} : ∀ {rs : List Str} {seen : List V} {i : Nat}, (∀ h ∈ rs, h ∈ hs) → rs.Nodup → (∀ h ∈ rs, V.str h ∉ seen) → ¬ (isHouse hs odd = true ∧ odd ∉ seen ++ rs.map V.str) → someFrom hs seen (rs.map V.str ++ odd :: rest) i = some (i + rs.length)
  | [], seen, i, _, _, _, ho => by
    show (if isHouse hs odd = true ∧ odd ∉ seen then someFrom hs (seen ++ [odd]) rest (i + 1) else some i) = _
    rw [if_neg (by rw [List.map_nil, List.append_nil] at ho; exact ho)]
    rfl
  | h :: r, seen, i, hn, hd, hx, ho => by
    show (if isHouse hs (.str h) = true ∧ V.str h ∉ seen then someFrom hs (seen ++ [V.str h]) (r.map V.str ++ odd :: rest) (i + 1) else some i) = _
    rw [if_pos ⟨decide_eq_true (hn h List.mem_cons_self), hx h List.mem_cons_self⟩]
    obtain ⟨h1, h2⟩ := List.nodup_cons.mp hd
    rw [some_at (fun x hx => hn x (List.mem_cons_of_mem _ hx)) h2 (fun x hx2 hm => ?_) (by rw [List.append_assoc]; exact ho)]
    · rw [List.length_cons]
      congr 1
      omega
    · rcases List.mem_append.mp hm with hm | hm
      · exact hx x (List.mem_cons_of_mem _ hx2) hm
      · have : V.str x = V.str h := by simpa using hm
        rw [V.str.inj this] at hx2
        exact h1 hx2
/-- what is told of some that are none -/
def DueS (hs : List Str) (H : Hp) (y : V) : Prop := ∃ (t : Addr) (x : V) (i : Nat) (o : Option (List V)), y = .ref t ∧ H t = some (.tup [x, .int (i : Nat)]) ∧ RX H x o ∧ someFlaw hs o = some i
theorem DueS.ex {hs : List Str} {H H' : Hp} {y : V} (h : DueS hs H y) (e : Evl.Ex H H') : DueS hs H' y := by
  obtain ⟨t, x, i, o, h1, h2, h3, h4⟩ := h
  exact ⟨t, x, i, o, h1, e _ _ h2, h3.ex e, h4⟩
theorem never_no : ("never" : Str) ∉ names12 := by decide +kernel
section
variable {P : Program} {w : World} {K : PySem.W.Frag} {mg : Str → Option Value} {base : Heap}
theorem ok_par {C CB CJ CN CM CC CS f cL T : Addr} {fd : FuncData} (F : FnP K "_law_parts_right" sPar f fd) (hcode : fd.code = .ref cL) (TB : LamX.TabB base mg cL T) (D : EnvP P w K mg base C CB CJ) (R : Ers P w K mg base CB CJ CN CM CC CS) : FnOk P w K mg base CX0 10 f fd ["stream", "village", "houses", "paths"] (spPar mg C T) := by
  obtain ⟨fD, fdD, gD, GD, kD, bD⟩ := D.draw
  obtain ⟨fP, fdP, gP, GP, kP, bP⟩ := D.pick
  obtain ⟨fX, fdX, gX, GX, kX, bX⟩ := D.mixed
  obtain ⟨fW, fdW, gW, GW, kW, bW⟩ := D.way
  obtain ⟨fE, fdE, gE, GE, kE, bE⟩ := D.same
  obtain ⟨fM, fdM, gM, FM⟩ := D.met
  obtain ⟨fO, fdO, gO, GO, kO, bO⟩ := D.part
  obtain ⟨fI, fdI, gN, MN, GI, bI⟩ := D.vil
  obtain ⟨fQ, fdQ, GQ, eQ, iQ, bQ⟩ := D.eqv
  obtain ⟨_, T1⟩ := R.e1
  obtain ⟨_, T2⟩ := R.e2
  obtain ⟨_, T3⟩ := R.e3
  obtain ⟨_, T4⟩ := R.e4
  obtain ⟨_, T5⟩ := R.e5
  obtain ⟨_, T6⟩ := R.e6
  have ve := D.ve
  have gLen := D.gLen
  have gAll := D.gAll
  have gLi := D.gLi
  have gTpl := D.gTpl
  have gSo := D.gSo
  have gMi := D.gMi
  have bM : L2.Binds K fdM ["ask"] [] := FM.bindsN fun _ _ _ _ _ _ us hl => match us, hl with | [_], _ => rfl
  have kM := FM.kp
  obtain ⟨ocM, odM, dVM, kVM, docM, pmM, anM, cdM, ctM', oslM, rfl, lkM, hcM, _, _⟩ := FM.ex
  refine okCd F hcode scPar (fun vs H Q E h => ?_) (fun A outer s H vs Q E hr h => ?_)
  · obtain ⟨p, c, v, l, q, n, h0, ht, hs, ps, m, qs, rfl, _⟩ := h
    rfl
  · obtain ⟨p, c, v, l, q, n, h0, ht, hs, ps, m, qs, rfl, hS, hn, hT, L, k⟩ := h
    refine' ⟨_, PSs.nox (pss_cons (ps_set (i := 4) scPar.nd rfl (.inr rfl) (pe_slice sl_list (pe_call GX (hr.mono (by decide)) (by rfl) gX kX bX .nil pass0 (pa_cons (pv 0) (pa_cons (pv 2) pa_nil))) po_none (po_some (pe_op op_add pe_int (pe_call GD (hr.mono (by decide)) (by rfl) gD kD bD .nil pass0 (pa_cons (pv 0) (pa_cons (pe_callB call_len_seq (by rfl) gLen (by decide +kernel) (pa_cons (pv 2) pa_nil)) pa_nil)))))))
      (pss_cons (ps_set (i := 5) scPar.nd rfl (.inr rfl) ?l1)
      (pss_cons ?l2
      (pss_cons (ps_set (i := 7) scPar.nd rfl (.inr rfl) (pe_call GP (hr.mono (by decide)) (by rfl) gP kP bP .nil pass0 (pa_cons (pv 0) (pa_cons (pe_lst (pa_cons (pe_callTy call_list_of (by rfl) gLi (by decide +kernel) (pa_cons (pv 4) pa_nil)) (pa_cons (pe_callTy call_tuple_of (by rfl) gTpl (by decide +kernel) (pa_cons (pv 4) pa_nil)) pa_nil))) pa_nil))))
      (Evl.pss_cut (ps_set (i := 8) scPar.nd rfl (.inl rfl) ?m1)
      (Evl.pss_cut (ps_if (PW.pt (pw_or (pt_cmpR (op_neD hr.units) (pe_callTy call_list_of (by rfl) gLi (by decide +kernel) (pa_cons (pv 7) pa_nil)) (pv 4) (nomark _)) (pw_or1 (PW.pt (pw_and (pt_cmpR (op_neD hr.units) (pv 6) (pe_lst pa_nil) (nomark _)) (pw_and1 (pt_not (pt_val (pe_call (GE 5) (hr.mono (by decide)) (by rfl) gE kE bE .nil pass0 (pa_cons (pv 8) (pa_cons (pe_tup (pa_cons pe_str (pa_cons (pe_ix ix_list (pv 6) pe_int (fun _ _ => rfl)) pa_nil))) pa_nil))))))))))) (pss_one (ps_ret pe_bl)) pss_nil)
      (Evl.pss_cut (ps_if (PW.pt (pw_and (pt_cmpR (op_eqD hr.units) (pv 6) (pe_lst pa_nil) (nomark _)) (pw_and1 (PW.pt (pw_or (pt_cmpR op_ne (pe_ix ix_seq (pv 8) pe_int (fun _ _ => rfl)) pe_str (nomark _)) (pw_or1 (pt_not (pt_cmpR (op_own GQ eQ iQ bQ pass0 (hr.mono (by decide))) (pe_ix ix_seq (pv 8) pe_int (fun _ _ => rfl)) (pe_make MN GI (hr.mono (by decide)) (by rfl) gN bI .nil pass0 (pa_cons (pv 4) (pa_cons (pv 5) pa_nil))) (nomark _))))))))) (pss_one (ps_ret pe_bl)) pss_nil)
      (pss_cons (ps_set (i := 9) scPar.nd rfl (.inl rfl) (pe_call GD (hr.mono (by decide)) (by rfl) gD kD bD .nil pass0 (pa_cons (pv 0) (pa_cons (pe_op op_add (pe_callB call_len_seq (by rfl) gLen (by decide +kernel) (pa_cons (pv 4) pa_nil)) pe_int) pa_nil))))
      (pss_cons (ps_set (i := 10) scPar.nd rfl (.inl rfl) (pe_call GP (hr.mono (by decide)) (by rfl) gP kP bP .nil pass0 (pa_cons (pv 0) (pa_cons (pe_op op_cat (pe_lst (pa_cons pe_non (pa_cons pe_int (pa_cons pe_bl (pa_cons pe_str (pa_cons (pe_lst (pa_cons pe_str pa_nil)) (pa_cons pe_dnewK pa_nil))))))) (pe_slice sl_list (pv 4) po_none (po_some (pv 9)))) pa_nil))))
      (pss_cons (ps_set (i := 11) scPar.nd rfl (.inl rfl) (pe_lst (pa_cons (pe_tup (pa_cons (pe_op op_cat (pe_op op_cat (pe_slice sl_list (pv 4) po_none (po_some (pv 9))) (pe_lst (pa_cons (pv 10) pa_nil))) (pe_slice sl_list (pv 4) (po_some (pv 9)) po_none)) (pa_cons (pv 9) pa_nil)))
        (pa_cons (pe_tup (pa_cons (pe_lst pa_nil) (pa_cons pe_int pa_nil))) (pa_cons (pe_tup (pa_cons (pe_tup pa_nil) (pa_cons pe_int pa_nil))) (pa_cons (pe_tup (pa_cons pe_non (pa_cons pe_int pa_nil))) (pa_cons (pe_tup (pa_cons pe_str (pa_cons pe_int pa_nil))) (pa_cons (pe_tup (pa_cons pe_dnewK (pa_cons pe_int pa_nil))) pa_nil))))))))
      (pss_one (ps_ret (pe_callB (cr_all rfl) (by rfl) gAll (by decide +kernel) (pa_cons ?l3 pa_nil)))))))))))))), ?rd⟩
    case l1 =>
      refine pe_lc (own := [("pair", 12)]) (g := gName 12) (tt := tAnd (tTest (tOp (rIn K false) (tOp (rIx K) (tVar 12) (tC (.int 0))) (tVar 4))) (tTest (tOp (rIn K false) (tOp (rIx K) (tVar 12) (tC (.int 1))) (tVar 4)))) (te := tVar 12) rfl scPar.nd (pi_list (pv 3))
        (blkOk_by (own := [("pair", 12)]) (N := nmPar) (sc := defScope sPar) (by decide +kernel)) (fun _ _ _ _ _ => pg_name (i := 12) scPar.nd rfl (.inl rfl)) (fun _ _ _ _ _ => pts_one (PW.pt (pw_and (pt_cmpR op_in_seq (pe_ix ix_seq (pv 12) pe_int (fun _ _ => rfl)) (pv 4) rfl) (pw_and1 (pt_cmpR op_in_seq (pe_ix ix_seq (pv 12) pe_int (fun _ _ => rfl)) (pv 4) rfl))))) ?_
      intro _ _ _ _ _
      exact pv 12
    case l2 =>
      refine ps_setLc (i := 6) (own := [("house", 13)]) (g := gName 13) (tt := tTest (tOp (rEqD K) (tCall spWayG [] E0 (tCons (tVar 5) (tCons (tCB (Mns.rMinS K) (tCons (tVar 4) tNil)) (tCons (tVar 13) tNil)))) (tLst tNil))) (te := tVar 13) (by rfl) scPar.nd rfl rfl (sw_true rfl rfl rfl (by decide +kernel)) (pi_list (pe_callB cr_sortedS (by rfl) gSo (by decide +kernel) (pa_cons (pv 4) pa_nil)))
        (blkOk_by (own := [("house", 13)]) (N := nmPar) (sc := defScope sPar) (by decide +kernel)) (fun _ _ _ _ _ => pg_name (i := 13) scPar.nd rfl (.inl rfl)) (fun _ _ _ _ _ => pts_one (pt_cmpR (op_eqD hr.units) (pe_call GW (hr.mono (by decide)) (by rfl) gW kW bW .nil pass0 (pa_cons (pv 5) (pa_cons (pe_callB (Mns.cr_minS rfl) (by rfl) gMi (by decide +kernel) (pa_cons (pv 4) pa_nil)) (pa_cons (pv 13) pa_nil)))) (pe_lst pa_nil) (nomark _))) ?_
      intro _ _ _ _ _
      exact pv 13
    case m1 =>
      exact Lm.pe_lamT (Pre := fun _ => True) (qs := []) (P := T) (lv := 7) (Ng := ["ask", "e"]) (t := fun E => tCallS (spPart C CB CJ) (WE fun cls d _ H => E cls d H) (tCons (tVar 1) (tCons (tVar 7) tNil))) (by rfl) gM kM lkM hcM bM scMet rfl (.inl rfl) (met_gives T1 T2 T3 T4 T5 T6) (fun pins σ H s I _ => ⟨TB.code.keeps I.bk, TB.bm.keeps I.bk, TB.gP⟩) rfl (fun H H1 Y _ g hY t => True.intro) (hr.mono (by decide)) (LamX.lamS_by (sc := defScope sPar) (by decide +kernel)) rfl (fun _ _ _ _ _ => rfl)
        (fun A outer s H E f c' hr5 => pe_callS GO hr5 (by rfl) gO kO bO (fun σ => passAt (takes_of rfl rfl rfl rfl) σ) (pa_cons (pv 1) (pa_cons (pv 7) pa_nil)))
    case l3 =>
      refine pe_lc (own := [("thing", 14), ("due", 15)]) (g := gTup K 2 (gCons (gName 14) (gCons (gName 15) gNil))) (tt := tYes) (te := tCall (spSame 5) [] E0 (tCons (Lm.tLamT mg (fun _ => True) T qlP [] (TMet K (metCs CB CJ CN CM CC CS)) (fun E => tCallS (spPart C CB CJ) (WE fun cls d _ H => E cls d H) (tCons (tVar 1) (tCons (tVar 14) tNil)))) (tCons (tTup (tCons (tC (.str "some")) (tCons (tVar 15) tNil))) tNil))) rfl scPar.nd (pi_list (pv 11))
        (blkOk_by (own := [("thing", 14), ("due", 15)]) (N := nmPar) (sc := defScope sPar) (by decide +kernel)) (fun _ _ _ _ _ => pg_tup rfl (pgs_cons (pg_name (i := 14) scPar.nd rfl (.inr rfl)) (pgs_cons (pg_name (i := 15) scPar.nd rfl (.inl rfl)) pgs_nil))) (fun _ _ _ _ _ => pts_nil) ?_
      intro s2 H2 C2 cl2 fp2
      refine pe_call (GE 5) (hr.mono (by decide)) (by rfl) gE kE bE .nil pass0 (pa_cons ?_ (pa_cons (pe_tup (pa_cons pe_str (pa_cons (pv 15) pa_nil))) pa_nil))
      exact Lm.pe_lamT (Pre := fun _ => True) (qs := []) (P := T) (lv := 7) (Ng := ["ask", "e"]) (t := fun E => tCallS (spPart C CB CJ) (WE fun cls d _ H => E cls d H) (tCons (tVar 1) (tCons (tVar 14) tNil))) (by rfl) gM kM lkM hcM bM scMet rfl (.inl rfl) (met_gives T1 T2 T3 T4 T5 T6) (fun pins σ H s I _ => ⟨TB.code.keeps I.bk, TB.bm.keeps I.bk, TB.gP⟩) rfl (fun H H1 Y _ g hY t => True.intro) (hr.mono (by decide)) (by show LamX.LamS (relS _ (defScope sPar)) _; exact LamX.lamS_by (by decide +kernel)) rfl (fun _ _ _ _ _ => rfl)
        (fun A outer s H E f c' hr5 => pe_callS GO hr5 (by rfl) gO kO bO (fun σ => passAt (takes_of rfl rfl rfl rfl) σ) (pa_cons (pv 1) (pa_cons (pv 14) pa_nil)))
    case rd =>
      have M0 : Ws mg qlP T p c H n H := .start hS hT
      have L0 := L.ex wo_to
      have hl0 : ((h0 :: ht).map V.str).length ≤ 8 := by rw [List.length_map]; exact L.hl
      refine ⟨_, rfl, _, rfl, p, c, l, n, _, rfl, hS, by omega, .inl (SqL.of L0.lat), by omega, fun r ys H1 hr1 h1 hy kp1 s1 => ?_⟩
      obtain ⟨ys, hyp, rfl⟩ := perm_of_map hy (h0 :: ht) rfl
      have M1 := (M0.kp kp1 s1).mono (n' := n + 8) (by omega)
      have r1 := wo_at (T := T) h1 (M0.ne hr1).1 (M0.ne hr1).2.1 (M0.ne hr1).2.2
      refine ⟨_, rfl, _, rfl, l, _, rfl, .inl (SqL.of (M1.get L.lat)), p, c, _, _, rfl, M1.str, by omega, by rw [List.length_map]; exact Int.ofNat_le.mpr (Nat.succ_pos _), by omega, fun d H2 d0 d1 kp2 s2 => ⟨_, _, rfl, rfl, _, rfl, r, _, rfl, SqL.of (wo_to _ _ (wo_kp kp2 _ _ r1)), fun e he => ?_⟩⟩
      rw [List.length_map] at d1
      obtain ⟨k0, rfl⟩ : ∃ j : Nat, d = (j : Int) := ⟨d.toNat, by omega⟩
      rw [show (1 : Int) + (k0 : Int) = ((k0 + 1 : Nat) : Int) by omega]
      rw [show cutV (ys.map V.str) none (some ((k0 + 1 : Nat) : Int)) = (ys.take (k0 + 1)).map V.str by
        rw [List.map_take]
        exact cutV_take (k0 + 1)]
      have M2 := M1.kp kp2 s2
      have yl : ys.length = (h0 :: ht).length := hyp.length_eq
      have ynd : ys.Nodup := hyp.nodup_iff.mpr L.tr.nd
      have sn : (ys.take (k0 + 1)).Nodup := ynd.sublist (List.take_sublist _ _)
      have s0 : ys.take (k0 + 1) ≠ [] := fun z => by
        have := congrArg List.length z
        rw [List.length_take, yl] at this
        simp at this
      have ssub : ∀ x ∈ ys.take (k0 + 1), x ∈ h0 :: ht := fun x hx => hyp.mem_iff.mp (List.mem_of_mem_take hx)
      generalize ys.take (k0 + 1) = ss at sn s0 ssub ⊢
      have e2 := M2.at_ (o := .lst (ss.map V.str)) he
      have M3 := M2.ex (Evl.Ex.new (o := .lst (ss.map V.str)) he)
      have ss8 : ss.length ≤ 8 := Nat.le_trans (sn.length_le_of_subset ssub) L.hl
      have sgd : ∀ x ∈ ss, x ∈ names12 := fun x hx => L.gd x (ssub x hx)
      generalize upd H2 e (.lst (ss.map V.str)) = H3 at M3 e2 ⊢
      clear h1 r1 hy hyp ynd yl M0 M1 M2 kp1 kp2 s1 s2 he hr1 L0 hl0
      -- kept
      have N3 := M3.now
      have L3 := (L.ex M3.k)
      have L3' := L3.ex wo_to
      have fl : (ss.map V.str).all flatV = true := List.all_eq_true.mpr fun y hy => by
        obtain ⟨z, _, rfl⟩ := List.mem_map.mp hy
        rfl
      let PP : Addr × Str × Str → Bool := fun t => decide (t.2.1 ∈ ss) && decide (t.2.2 ∈ ss)
      refine ⟨_, rfl, q, rfl, ⟨_, SqL.of L3'.qat⟩, fun D5 hD5 => ?_⟩
      have nD5 := M3.ne hD5
      refine lc_it (walk_list (xs := refsL qs)) (fun j H' => Evl.Ex H3 H' ∧ H' D5 = some (.lst (refsL ((qs.take j).filter PP)))) ⟨Evl.Ex.new hD5, upd_same⟩ (fun j H' _ hp => SqL.of (hp.1 _ _ L3'.qat)) (fun j x H4 H5 hj hp hy => ?_) (fun H4 hp => ?_)
      · obtain ⟨x4, d4⟩ := hp
        obtain ⟨rfl, hx⟩ := hy
        unfold refsL at hj hx
        rw [List.length_map] at hj
        obtain ⟨t3, ht3⟩ := getD_of hj
        rw [List.getElem?_map, ht3] at hx
        cases hx
        obtain ⟨t, a, b⟩ := t3
        have tT : Lt H5 true t [V.str a, V.str b] := x4 _ _ (L3'.pr _ (List.mem_of_getElem? ht3))
        have tk : qs.take (j + 1) = qs.take j ++ [(t, a, b)] := by rw [List.take_add_one, ht3]; rfl
        have sk := N3.ex x4
        have sq : SqL K H5 e (ss.map V.str) ∨ SqT K H5 e (ss.map V.str) := .inl (SqL.of (sk.get e2))
        have step : refsL ((qs.take (j + 1)).filter PP) = refsL ((qs.take j).filter PP) ++ (if PP (t, a, b) = true then [V.ref t] else []) := by
          rw [tk, List.filter_append]
          unfold refsL
          rw [List.map_append]
          congr 1
          rw [List.filter_cons]
          split <;> rfl
        refine ⟨rfl, _, rfl, tT.ix (j := 0) rfl ⟨_, rfl, e, _, rfl, sq, rfl, fl, _, rfl, ?_⟩⟩
        rw [if_neg (by simp), in_strs]
        by_cases ha : a ∈ ss
        · rw [decide_eq_true ha]
          refine iteT ⟨_, rfl, tT.ix (j := 1) rfl ⟨_, rfl, e, _, rfl, sq, rfl, fl, _, rfl, ?_⟩⟩
          rw [if_neg (by simp), in_strs]
          by_cases hb : b ∈ ss
          · rw [decide_eq_true hb]
            refine iteT ⟨_, rfl, _, d4, ?_, ex_upd x4 hD5, ?_⟩
            · unfold refsL
              rw [List.length_map]
              exact Nat.lt_of_le_of_lt (Nat.le_trans (List.length_filter_le _ _) (show _ ≤ 8 by rw [List.length_take]; have := L.ql; omega)) (by decide)
            · rw [upd_same, step, if_pos (by show (decide (a ∈ ss) && decide (b ∈ ss)) = true; simp [ha, hb])]
          · rw [decide_eq_false hb]
            refine iteF ⟨x4, ?_⟩
            rw [d4, step, if_neg (by show ¬ (decide (a ∈ ss) && decide (b ∈ ss)) = true; simp [hb]), List.append_nil]
        · rw [decide_eq_false ha]
          refine iteF ⟨x4, ?_⟩
          rw [d4, step, if_neg (by show ¬ (decide (a ∈ ss) && decide (b ∈ ss)) = true; simp [ha]), List.append_nil]
      · obtain ⟨x4, d4⟩ := hp
        rw [List.take_of_length_le (by unfold refsL; rw [List.length_map]; exact Nat.le_refl _)] at d4
        have ek : (qs.filter PP).map (·.2) = among ss (qs.map (·.2)) := by
          unfold among
          rw [List.filter_map]
          rfl
        have kl : (qs.filter PP).length ≤ 8 := Nat.le_trans (List.length_filter_le _ _) L.ql
        have ksub : ∀ t ∈ qs.filter PP, t ∈ qs := fun t ht => (List.mem_filter.mp ht).1
        generalize qs.filter PP = ks at ek kl ksub d4
        have M4 := M3.ex x4
        have D4 := wo_at (p := p) (c := c) (T := T) d4 nD5.1 nD5.2.1 nD5.2.2
        have e4 := wo_ex (p := p) (c := c) (T := T) x4 _ _ e2
        clear_value PP
        clear N3 L3 L3' M3 x4 d4 e2 hD5 nD5 fl PP
        -- apart
        obtain ⟨g, hgc, _, _⟩ := forest L.tr (l := among ss (qs.map (·.2))) (by unfold among; exact L.tr.np.filter _) (fun z hz => (List.mem_filter.mp hz).1)
        have hPk : PrsAt (wo p c T H4) ks := fun t ht => M4.k _ _ (L.pr t (ksub t ht))
        have kin : Inn (h0 :: ht) (ks.map (·.2)) := inn_tree L.tr fun z hz => by rw [ek] at hz; exact (List.mem_filter.mp hz).1
        have N4 := M4.now
        have hl8 := L.hl
        refine ⟨_, rfl, e, _, rfl, SqL.of (wo_to _ _ e4), by omega, fun ys sp hys hysr hsp => ⟨sp, rfl, ⟨_, SqL.of upd_same⟩, fun DD hDD => ?_⟩⟩
        have yl : ys.length = ss.length := hys.length_eq
        obtain ⟨y0, yr, rfl⟩ : ∃ y0 yr, ys = y0 :: yr := by
          cases ys with
          | nil => exact absurd hys.symm.eq_nil s0
          | cons a r => exact ⟨a, r, rfl⟩
        have hle : ∀ y ∈ ss, Srs.ltT y y0 = false := fun y hy => by
          rcases List.mem_cons.mp (hys.mem_iff.mpr hy) with e | e
          · rw [e]; exact Srs.ltT_irr _
          · exact (List.pairwise_cons.mp (sorted_pw hysr)).1 y e
        have y0m : y0 ∈ ss := hys.mem_iff.mp List.mem_cons_self
        have zs0 := Evl.Ex.new (o := .lst ((y0 :: yr).map V.str)) hsp
        have zD := Evl.Ex.new (o := .lst []) hDD
        refine lc_it (walk_list (xs := (y0 :: yr).map V.str)) (fun i H' => Evl.Ex H4 H' ∧ H' sp = some (.lst ((y0 :: yr).map V.str)) ∧ H' DD = some (.lst ((((y0 :: yr).take i).filter fun h => decide (g h ≠ g y0)).map V.str))) ⟨zs0.trans zD, zD _ _ upd_same, upd_same⟩ (fun i H' _ hp => SqL.of hp.2.1) (fun i x H5 H6 hi hp hy => ?_) (fun H5 hp => ?_)
        · obtain ⟨x5, s5, d5⟩ := hp
          obtain ⟨rfl, hy⟩ := hy
          rw [List.length_map] at hi
          obtain ⟨y, hyy⟩ := getD_of hi
          rw [List.getElem?_map, hyy] at hy
          cases hy
          have ym := hys.mem_iff.mp (List.mem_of_getElem? hyy)
          have W5 := N4.ex x5
          refine ⟨rfl, _, rfl, _, rfl, e, _, rfl, SqL.of (W5.get e4), s0, fun m hm hmin => ?_⟩
          obtain rfl : y0 = m := Srs.ltT_tot (hmin y0 y0m) (hle m hm)
          refine ⟨_, rfl, D5, y0, y, ks, h0 :: ht, rfl, W5.get D4, (hPk.ex W5.k).ex wo_to, kin, ssub _ y0m, by omega, by omega, L.gd, fun r zs H8 x8 hr8 hr8' zl zm ziff => ⟨Nat.zero_le _, fun e9 he => ?_⟩⟩
          have x9 := Evl.Ex.new (o := .lst []) he
          have xt := (x5.trans x8).trans x9
          have s9 := (x8.trans x9) _ _ s5
          have d9 := (x8.trans x9) _ _ d5
          refine ⟨_, _, .lst (SqL.of (x9 _ _ hr8')) (dpa_strs _), .lst (SqL.of upd_same) .nil, ?_, shaped_strs [] (fun t ht => by simp at ht), _, rfl, ?_⟩
          · unfold SeqAt.shaped
            simp only [PyData.canLay0, PyData.depth, lay_strs zs (fun z hz => good_ok z (L.gd z (zm z hz))), depth_strs zs, Bool.true_and]
            exact decide_eq_true (by omega)
          have tk : (y0 :: yr).take (i + 1) = (y0 :: yr).take i ++ [y] := by rw [List.take_add_one, hyy]; rfl
          have hDD4 : H4 DD = none := none_of (fun o z => zs0 _ _ z) hDD
          generalize upd H8 e9 (.lst []) = H9 at xt s9 d9 ⊢
          by_cases hz0 : zs = []
          · subst hz0
            have hne : g y ≠ g y0 := fun z => (ziff.mp rfl) (by rw [ek]; exact (hgc _ _).mp z.symm)
            have spD : sp ≠ DD := fun z => by rw [z, upd_same] at hDD; cases hDD
            refine iteT ⟨_, rfl, _, d9, ?_, ex_upd xt hDD4, by rw [upd_ne spD]; exact s9, ?_⟩
            · rw [List.length_map]
              exact Nat.lt_of_le_of_lt (Nat.le_trans (List.length_filter_le _ _) (show _ ≤ 12 by rw [List.length_take]; omega)) (by decide)
            · rw [upd_same, tk, List.filter_append, List.map_append, show [y].filter (fun h => decide (g h ≠ g y0)) = [y] by simp [hne]]
              rfl
          · have hcn : Conn (among ss (qs.map (·.2))) y0 y := by rw [← ek]; exact Classical.byContradiction fun z => hz0 (ziff.mpr z)
            have he0 : PyData.eqv (.list (zs.map PyData.str)) (.list []) = false := by
              cases zs with
              | nil => exact absurd rfl hz0
              | cons z r => simp [PyData.eqv, PyData.eqvAll]
            rw [he0]
            refine iteF ⟨xt, s9, ?_⟩
            rw [d9, tk, List.filter_append, show [y].filter (fun h => decide (g h ≠ g y0)) = [] by simp [(hgc y0 y).mpr hcn], List.append_nil]
        · obtain ⟨x5, s5, d5⟩ := hp
          rw [List.length_map, List.take_length] at d5
          have M5 := M4.ex x5
          have nD := (M4.ex zs0).ne hDD
          have A5 := wo_at (p := p) (c := c) (T := T) d5 nD.1 nD.2.1 nD.2.2
          have D5' := wo_ex (p := p) (c := c) (T := T) x5 _ _ D4
          have e5 := wo_ex (p := p) (c := c) (T := T) x5 _ _ e4
          have hPk5 := hPk.ex (wo_ex (p := p) (c := c) (T := T) x5)
          have one : ∀ hs : List Str, hs.Perm ss → sortedS hs = true → hs = y0 :: yr := fun hs hp hsr => sorted_one (sorted_pw hsr) (sorted_pw hysr) (hp.trans hys.symm)
          clear s5 zs0 zD M4 N4 hPk D4 e4 hsp hDD nD d5 x5
          -- handed
          have b5 : wo p c T H5 = wo p c T H5 := rfl
          refine ⟨_, rfl, _, rfl, e, _, rfl, .inl (SqL.of (wo_to _ _ e5)), fun a1 ha1 => ?_⟩
          have M6 := M5.ex (Evl.Ex.new (o := .lst (ss.map V.str)) ha1)
          have f1 := M5.at_ (o := .lst (ss.map V.str)) ha1
          have x56 := wo_ex (p := p) (c := c) (T := T) (Evl.Ex.new (o := .lst (ss.map V.str)) ha1)
          generalize upd H5 a1 (.lst (ss.map V.str)) = H6 at M6 f1 x56 ⊢
          refine ⟨_, rfl, e, _, rfl, .inl ⟨SqL.of (wo_to _ _ (x56 _ _ e5)), fun a2 ha2 => ?_⟩⟩
          have M7 := M6.ex (Evl.Ex.new (o := .tup (ss.map V.str)) ha2)
          have f2 := M6.at_ (o := .tup (ss.map V.str)) ha2
          have x67 := wo_ex (p := p) (c := c) (T := T) (Evl.Ex.new (o := .tup (ss.map V.str)) ha2)
          generalize upd H6 a2 (.tup (ss.map V.str)) = H7 at M7 f2 x67 ⊢
          refine ⟨by show 2 ≤ sizeLine; decide, fun a3 ha3 => ?_⟩
          have n3 := M7.ne ha3
          have M8 := M7.ex (Evl.Ex.new (o := .lst [V.ref a1, V.ref a2]) ha3)
          have x78 := wo_ex (p := p) (c := c) (T := T) (Evl.Ex.new (o := .lst [V.ref a1, V.ref a2]) ha3)
          refine ⟨p, c, a3, _, _, rfl, M8.str, by omega, n3.1, n3.2.1, .inl upd_same, by show 1 ≤ 2; decide, by show 2 < 1000000; decide, fun hd j H9 hj kp9 s9 => ?_⟩
          have M9 := M8.kp kp9 s9
          have x59 := ((x56.trans x67).trans x78).trans (wo_kp (T := T) kp9)
          obtain ⟨b, hda, rfl, hdl⟩ : ∃ (b : Bool) (hda : Addr), hd = .ref hda ∧ Lt (wo p c T H9) b hda (ss.map V.str) := by
            rcases List.mem_cons.mp (List.mem_of_getElem? hj) with z | z
            · exact ⟨false, a1, z, ((x67.trans x78).trans (wo_kp (T := T) kp9)) _ _ f1⟩
            · exact ⟨true, a2, List.mem_singleton.mp z, (x78.trans (wo_kp (T := T) kp9)) _ _ f2⟩
          have A9 := x59 _ _ A5
          have K9 := x59 _ _ D5'
          have e9 := x59 _ _ e5
          have P9 := hPk5.ex x59
          have L9 := L.ex M9.k
          have N9 := M9.now
          clear M5 M6 M7 M8 f1 f2 x56 x67 x78 x59 kp9 s9 hj n3 ha1 ha2 ha3 A5 D5' e5 hPk5 b5
          have cEq : ∀ x y, Conn (among ss ps) x y ↔ g x = g y := fun x y => by
            rw [hgc, conn_perm (among_perm L.pper), among_ord, conn_ord]
          let FF : Hp → Addr → Prop := fun H' fo => (∃ h ar, (y0 :: yr).filter (fun h => decide (g h ≠ g y0)) = h :: ar ∧ wo p c T H' fo = some (.tup [.str "joined", .str h])) ∨ ((y0 :: yr).filter (fun h => decide (g h ≠ g y0)) = [] ∧ ∃ u hs' ps' m', wo p c T H' fo = some (.tup [.str "told", .ref u]) ∧ Vil (wo p c T H') C u hs' ps' m' ∧ hs'.Perm ss ∧ sortedS hs' = true ∧ ps'.Perm ((among ss ps).map ordP) ∧ ps'.Pairwise (fun x y => Srs.lexT y x = false) ∧ Tree hs' ps')
          have FFe : ∀ H' H'' fo, FF H' fo → Evl.Ex (wo p c T H') (wo p c T H'') → FF H'' fo := fun H' H'' fo h x => by
            rcases h with ⟨h, ar, e1, e2⟩ | ⟨e1, u, hs', ps', m', e2, e3, r⟩
            · exact .inl ⟨h, ar, e1, x _ _ e2⟩
            · exact .inr ⟨e1, u, hs', ps', m', x _ _ e2, e3.ex x, r⟩
          let σ1 : Addr → L2.St := fun fo => [some (.ref p), some (.ref v), some (.ref l), some (.ref q), some (.ref e), some (.ref D5), some (.ref DD), some (.ref hda), some (.ref fo), none, none, none, none, none, none, none]
          refine ⟨fun σ H' => ∃ fo, σ = σ1 fo ∧ Ws mg qlP T p c H9 (n + 8 + 1 + 1) H' ∧ FF H' fo, ?_, ?_⟩
          · refine ⟨trivial, N9.tab, fun G2 g2 Tg => ?_⟩
            have M2 := N9.grow g2 Tg
            have V2 := (L9.ex M2.k).ex wo_to
            refine ⟨_, rfl, _, rfl, v, .ref hda, some (ss.map V.str), hs, ps, m, rfl, V2.vil, L.good, rx_strs ((hdl.ex M2.k).ex wo_to) (by omega), fun i hi => ?_, fun ss' es' _ _ _ => ?_⟩
            · rw [someFlaw_good (fun x hx => L.per.mem_iff.mpr (ssub x hx)) sn s0] at hi
              cases hi
            obtain rfl : ss' = ss := by
              injection es' with es'
              exact (strs_inj es').symm
            refine ⟨fun hcn H' u hs' ps' m' x2 hu V' fr c1 c2 c3 c4 T' => ⟨by show 2 ≤ sizeLine; decide, fun fo hfo => ?_⟩, fun g' ys' h0' h hg' hy1 hy2 hh hf H' d x2 hd => R.m2 (H1 := G2) (fun X2 r2 e2 hr2' hr2 => ?_) x2 hd⟩
            · have M3 := M2.ex x2
              have xf := Evl.Ex.new (o := .tup [V.str "told", .ref u]) hfo
              refine ⟨fo, rfl, M3.ex xf, .inr ⟨?_, u, hs', ps', m', M3.at_ hfo, (V'.wo fr (fun b hb => M2.ne hb) hu).ex (wo_ex xf), c1, c2, c3, c4, T'⟩⟩
              rw [List.filter_eq_nil_iff]
              intro y hy
              have := (cEq y y0).mp (hcn y (hys.mem_iff.mp hy) y0 y0m)
              simp [this]
            · obtain rfl := one ys' hy1 hy2
              obtain rfl : y0 = h0' := Option.some.inj hh
              have pf : (fun h => decide (g h ≠ g y0)) = fun h => decide (g' h ≠ g' y0) := by
                funext x
                have : g x = g y0 ↔ g' x = g' y0 := by rw [← cEq, hg']
                exact decide_eq_decide.mpr (not_congr this)
              have hh2 : ((y0 :: yr).filter fun h => decide (g h ≠ g y0)).head? = some h := by rw [List.head?_filter, pf]; exact hf
              obtain ⟨ar, har⟩ : ∃ ar, ((y0 :: yr).filter fun h => decide (g h ≠ g y0)) = h :: ar := by
                cases hf : ((y0 :: yr).filter fun h => decide (g h ≠ g y0)) with
                | nil => rw [hf] at hh2; cases hh2
                | cons a r => rw [hf] at hh2; exact ⟨r, by rw [show a = h from Option.some.inj hh2]⟩
              have n2 := M2.ne hr2'
              exact ⟨r2, rfl, M2.ex e2, .inl ⟨h, ar, har, wo_at hr2 n2.1 n2.2.1 n2.2.2⟩⟩
          · rintro σ H6 ⟨fo, rfl, M6, hFF⟩
            have okS : SeqAt.shaped (.list (ss.map PyData.str)) = true := shaped_strs _ fun z hz => good_ok z (sgd z hz)
            have okF : SeqAt.shaped (.list (((y0 :: yr).filter fun h => decide (g h ≠ g y0)).map PyData.str)) = true := shaped_strs _ fun z hz => good_ok z (sgd z (hys.mem_iff.mp (List.mem_filter.mp hz).1))
            refine ⟨fun σ H' => ∃ fo, σ = σ1 fo ∧ Ws mg qlP T p c H9 (n + 8 + 1 + 1) H' ∧ FF H' fo, ?_, ?_⟩
            · refine ⟨_, rfl, hda, _, rfl, sqk_or (K := K) ((hdl.ex M6.k).ex wo_to).sq, fun a1 ha1 => ?_⟩
              have z1 := Evl.Ex.new (o := .lst (ss.map V.str)) ha1
              have M7 := M6.ex z1
              have F7 := FFe _ _ _ hFF (wo_ex z1)
              refine ⟨_, rfl, _, _, .lst (SqL.of upd_same) (dpa_strs _), .lst (SqL.of (M7.get e9)) (dpa_strs _), okS, okS, _, rfl, ?_⟩
              rw [show PyData.eqv (.list (ss.map PyData.str)) (.list (ss.map PyData.str)) = true from by
                have := eqvAll_strs ss ss
                simp only [PyData.eqv, this]
                simp]
              refine iteF ?_
              generalize upd H6 a1 (.lst (ss.map V.str)) = H7 at M7 F7 ⊢
              refine ⟨_, rfl, Nat.zero_le _, fun e8 he8 => ?_⟩
              have z2 := Evl.Ex.new (o := .lst []) he8
              have M8 := M7.ex z2
              have F8 := FFe _ _ _ F7 (wo_ex z2)
              refine ⟨_, _, .lst (SqL.of (M8.get A9)) (dpa_strs _), .lst (SqL.of upd_same) .nil, okF, shaped_strs [] (fun t ht => by cases ht), _, rfl, ?_⟩
              generalize upd H7 e8 (.lst []) = H8 at M8 F8 ⊢
              rcases F8 with ⟨h, ar, hfl, hfo⟩ | ⟨hfl, r8⟩
              · rw [show PyData.eqv (.list (((y0 :: yr).filter fun h => decide (g h ≠ g y0)).map PyData.str)) (.list []) = false from by rw [hfl]; simp [PyData.eqv, PyData.eqvAll]]
                have A8 := M8.get A9
                rw [hfl] at A8
                refine iteT ⟨_, rfl, _, rfl, DD, _, 0, _, rfl, rfl, SqL.of A8, atI_nat (j := 0) rfl, by show 2 ≤ sizeLine; decide, fun ta hta => ?_⟩
                have z3 := Evl.Ex.new (o := .tup [V.str "joined", .str h]) hta
                refine ⟨_, _, rfl, .inr (.inr (.inl ⟨fo, ta, _, _, rfl, rfl, .inl (z3 _ _ (wo_to _ _ hfo)), upd_same, by show 2 ≤ 1000; decide, .cons (.inl ⟨rfl, rfl⟩) (.cons (.inl ⟨rfl, rfl⟩) .nil)⟩)), fun G x9 => ⟨_, rfl, iteF ?_⟩⟩
                exact ⟨fo, rfl, (M8.ex z3).ex x9, .inl ⟨h, ar, hfl, wo_ex x9 _ _ (wo_ex z3 _ _ hfo)⟩⟩
              · rw [show PyData.eqv (.list (((y0 :: yr).filter fun h => decide (g h ≠ g y0)).map PyData.str)) (.list []) = true from by rw [hfl]; simp [PyData.eqv, PyData.eqvAll]]
                exact iteF (iteF ⟨fo, rfl, M8, .inr ⟨hfl, r8⟩⟩)
            clear M6 hFF fo H6
            rintro σ H6 ⟨fo, rfl, M6, hFF⟩
            refine ⟨fun σ H' => ∃ fo, σ = σ1 fo ∧ Ws mg qlP T p c H9 (n + 8 + 1 + 1) H', ?_, ?_⟩
            · refine ⟨_, rfl, Nat.zero_le _, fun e8 he8 => ?_⟩
              have z2 := Evl.Ex.new (o := .lst []) he8
              have M8 := M6.ex z2
              have F8 := FFe _ _ _ hFF (wo_ex z2)
              refine ⟨_, _, .lst (SqL.of (M8.get A9)) (dpa_strs _), .lst (SqL.of upd_same) .nil, okF, shaped_strs [] (fun t ht => by cases ht), _, rfl, ?_⟩
              generalize upd H6 e8 (.lst []) = H8 at M8 F8 ⊢
              rcases F8 with ⟨h, ar, hfl, hfo⟩ | ⟨hfl, u, hs', ps', m', hfo, Vu, c1, c2, c3, c4, T'⟩
              · rw [show PyData.eqv (.list (((y0 :: yr).filter fun h => decide (g h ≠ g y0)).map PyData.str)) (.list []) = false from by rw [hfl]; simp [PyData.eqv, PyData.eqvAll]]
                exact iteF ⟨fo, rfl, M8⟩
              · rw [show PyData.eqv (.list (((y0 :: yr).filter fun h => decide (g h ≠ g y0)).map PyData.str)) (.list []) = true from by rw [hfl]; simp [PyData.eqv, PyData.eqvAll]]
                have tF : Lt H8 true fo [.str "told", .ref u] := wo_to _ _ hfo
                have gall : ∀ y ∈ ss, g y = g y0 := fun y hy => by
                  rw [List.filter_eq_nil_iff] at hfl
                  have := hfl y (hys.mem_iff.mpr hy)
                  simpa using this
                have ktr : Tree ss (ks.map (·.2)) := by rw [ek]; exact Tree.part L.tr sn s0 ssub fun a ha b hb => (hgc a b).mp ((gall a ha).trans (gall b hb).symm)
                refine iteT ⟨_, rfl, tF.ix (j := 0) rfl ⟨rfl, _, rfl, iteF ⟨_, rfl, tF.ix (j := 1) rfl ⟨_, rfl, _, rfl, fun w dx hw hdx hne => mkV (tl := false) (tq := false) ve.cl ve.n1 ve.n2 D.n3 (M8.get e9) (M8.get K9) (fun t ht => ⟨true, wo_to _ _ (M8.k _ _ (P9 t ht))⟩) ktr s0 (by omega) (by omega) (fun h hh => good_nm (sgd h hh)) hw hdx hne fun H11 hs1 ps1 m1 x11 V1 fr1 hp1 hso1 hps1 hpw1 T1 => ⟨rfl, ?_⟩⟩⟩⟩⟩
                have ok1 : okN hs' ps' := okN_of T' fun x hx => good_ok x (sgd x (c1.mem_iff.mp hx))
                have ok2 : okN hs1 ps1 := okN_of T1 fun x hx => good_ok x (sgd x (hp1.mem_iff.mp hx))
                have pp : ((among ss ps).map ordP).Perm ((ks.map (·.2)).map ordP) := by
                  have := (among_perm (ss := ss) L.pper).map ordP
                  rw [among_ord, ordP_map, ← ek] at this
                  exact this
                refine own_vil ve ((Vu.ex wo_to).ex x11) ok1 V1 ok2 ?_
                rw [same_vil c1 c2 hp1 hso1 (List.Perm.refl _) c3 c4 hps1 hpw1 pp]
                exact ⟨_, rfl, iteF ⟨fo, rfl, M8.ex x11⟩⟩
            clear M6 hFF fo H6
            rintro σ H6 ⟨fo, rfl, M6⟩
            have hlt : ss.length + 1 ≤ 9 := by omega
            refine ⟨_, rfl, _, rfl, e, _, rfl, .inl (SqL.of (M6.get e9)), _, _, rfl, rfl, p, c, _, _, rfl, M6.str, by omega, by rw [List.length_map]; omega, by rw [List.length_map]; omega, fun d H7 d0 d1 kp7 s7 => ?_⟩
            rw [List.length_map] at d1
            obtain ⟨at_, rfl⟩ : ∃ j : Nat, d = (j : Int) := ⟨d.toNat, by omega⟩
            have hat : at_ ≤ ss.length := by omega
            have M7 := M6.kp kp7 s7
            clear M6 kp7 s7 H6
            -- odd
            have e7 := M7.get e9
            refine ⟨_, rfl, by show 1 ≤ sizeLine; decide, fun b1 hb1 => ?_⟩
            have M8 := M7.ex (Evl.Ex.new (o := .lst [V.str "b"]) hb1)
            have f1 := M7.at_ (o := .lst [V.str "b"]) hb1
            generalize upd H7 b1 (.lst [V.str "b"]) = H8 at M8 f1 ⊢
            refine fun b2 hb2 => ?_
            have z2 := wo_ex (p := p) (c := c) (T := T) (Evl.Ex.new (o := .dK []) hb2)
            have M10 := M8.ex (Evl.Ex.new (o := .dK []) hb2)
            have f2 := M8.at_ (o := .dK []) hb2
            have f1 := z2 _ _ f1
            clear z2
            generalize upd H8 b2 (.dK []) = H10 at M10 f1 f2 ⊢
            refine ⟨by show 6 ≤ sizeLine; decide, fun b3 hb3 => ?_⟩
            have z2 := wo_ex (p := p) (c := c) (T := T) (Evl.Ex.new (o := .lst [V.non, .int 5, .bl true, .str "never", .ref b1, .ref b2]) hb3)
            have M11 := M10.ex (Evl.Ex.new (o := .lst [V.non, .int 5, .bl true, .str "never", .ref b1, .ref b2]) hb3)
            have f3 := M10.at_ (o := .lst [V.non, .int 5, .bl true, .str "never", .ref b1, .ref b2]) hb3
            have f1 := z2 _ _ f1
            have f2 := z2 _ _ f2
            clear z2
            generalize upd H10 b3 (.lst [V.non, .int 5, .bl true, .str "never", .ref b1, .ref b2]) = H11 at M11 f1 f2 f3 ⊢
            refine ⟨_, rfl, _, rfl, _, rfl, e, _, rfl, SqL.of (M11.get e9), fun b4 hb4 => ?_⟩
            rw [show cutV (ss.map V.str) none (some (at_ : Int)) = (ss.take at_).map V.str by
              rw [List.map_take]
              exact cutV_take at_]
            have z2 := wo_ex (p := p) (c := c) (T := T) (Evl.Ex.new (o := .lst ((ss.take at_).map V.str)) hb4)
            have M12 := M11.ex (Evl.Ex.new (o := .lst ((ss.take at_).map V.str)) hb4)
            have f4 := M11.at_ (o := .lst ((ss.take at_).map V.str)) hb4
            have f1 := z2 _ _ f1
            have f2 := z2 _ _ f2
            have f3 := z2 _ _ f3
            clear z2
            generalize upd H11 b4 (.lst ((ss.take at_).map V.str)) = H12 at M12 f1 f2 f3 f4 ⊢
            have tl : ((ss.take at_).map V.str).length ≤ 8 := by rw [List.length_map, List.length_take]; omega
            refine ⟨b3, b4, _, _, rfl, rfl, wo_to _ _ f3, wo_to _ _ f4, Nat.le_trans (show 6 + _ ≤ 14 by omega) (by decide), fun b5 hb5 => ?_⟩
            have n5 := M12.ne hb5
            have z2 := wo_ex (p := p) (c := c) (T := T) (Evl.Ex.new (o := .lst ([V.non, .int 5, .bl true, .str "never", .ref b1, .ref b2] ++ (ss.take at_).map V.str)) hb5)
            have M13 := M12.ex (Evl.Ex.new (o := .lst ([V.non, .int 5, .bl true, .str "never", .ref b1, .ref b2] ++ (ss.take at_).map V.str)) hb5)
            have f1 := z2 _ _ f1
            have f2 := z2 _ _ f2
            refine ⟨p, c, b5, _, _, rfl, M13.str, by omega, n5.1, n5.2.1, .inl upd_same, by rw [List.length_append]; exact Nat.le_add_right_of_le (show 1 ≤ 6 by decide), by rw [List.length_append]; exact Nat.lt_of_le_of_lt (show 6 + _ ≤ 14 by omega) (by decide), fun odd j H14 hj kp4 s4 => ?_⟩
            have M14 := M13.kp kp4 s4
            have f1 := wo_kp (T := T) kp4 _ _ f1
            have f2 := wo_kp (T := T) kp4 _ _ f2
            have hodd : (∃ nm, Pl (wo p c T H14) odd nm) ∧ ¬ (isHouse hs odd = true ∧ odd ∉ (ss.take at_).map V.str) := by
              rcases List.mem_append.mp (List.mem_of_getElem? hj) with hm | hm
              · simp only [List.mem_cons, List.not_mem_nil, or_false] at hm
                rcases hm with rfl | rfl | rfl | rfl | rfl | rfl
                · exact ⟨⟨_, .non⟩, fun z => (by cases z.1)⟩
                · exact ⟨⟨_, .int _⟩, fun z => (by cases z.1)⟩
                · exact ⟨⟨_, .bl _⟩, fun z => (by cases z.1)⟩
                · exact ⟨⟨_, .str _⟩, fun z => never_no (L.vg _ (of_decide_eq_true z.1))⟩
                · exact ⟨⟨_, .lst f1⟩, fun z => (by cases z.1)⟩
                · exact ⟨⟨_, .dic f2⟩, fun z => (by cases z.1)⟩
              · refine ⟨?_, fun z => z.2 hm⟩
                obtain ⟨z, _, rfl⟩ := List.mem_map.mp hm
                exact ⟨_, .str z⟩
            clear z2 f1 f2 f3 f4 M7 M8 M10 M11 M12 M13 kp4 s4 hj n5 hb1 hb2 hb3 hb4 hb5 e7
            -- dues
            have hB : ∀ (H H' : Hp) (x : V), DueS hs H x → Evl.Ex H H' → DueS hs H' x := fun _ _ _ h e => h.ex e
            refine ⟨_, rfl, _, rfl, _, rfl, e, _, rfl, SqL.of (M14.get e9), fun a1 ha1 => ?_⟩
            rw [show cutV (ss.map V.str) none (some (at_ : Int)) = (ss.take at_).map V.str by
              rw [List.map_take]
              exact cutV_take at_]
            have z1 := Evl.Ex.new (o := .lst ((ss.take at_).map V.str)) ha1
            refine ⟨_, rfl, by show 1 ≤ sizeLine; decide, fun a2 ha2 => ?_⟩
            have z2 := Evl.Ex.new (o := .lst [odd]) ha2
            refine ⟨a1, a2, _, _, rfl, rfl, z2 _ _ upd_same, upd_same, Nat.le_trans (show _ + 1 ≤ 13 by omega) (by decide), fun a3 ha3 => ?_⟩
            have z3 := Evl.Ex.new (o := .lst ((ss.take at_).map V.str ++ [odd])) ha3
            have M15 := ((M14.ex z1).ex z2).ex z3
            refine ⟨_, rfl, _, rfl, _, rfl, e, _, rfl, SqL.of (M15.get e9), fun a4 ha4 => ?_⟩
            rw [show cutV (ss.map V.str) (some (at_ : Int)) none = (ss.drop at_).map V.str by
              rw [List.map_drop]
              exact cutV_drop at_ (by rw [List.length_map]; exact hat)]
            have z4 := Evl.Ex.new (o := .lst ((ss.drop at_).map V.str)) ha4
            have dl : ((ss.drop at_).map V.str).length ≤ 8 := by rw [List.length_map, List.length_drop]; omega
            refine ⟨a3, a4, _, _, rfl, rfl, z4 _ _ upd_same, upd_same, Nat.le_trans (show _ ≤ 30 by rw [List.length_append]; show _ + 1 + _ ≤ 30; omega) (by decide), fun a5 ha5 => ?_⟩
            have z5 := Evl.Ex.new (o := .lst ((ss.take at_).map V.str ++ [odd] ++ (ss.drop at_).map V.str)) ha5
            have M16 := M15.ex z4
            have f5 := M16.at_ (o := .lst ((ss.take at_).map V.str ++ [odd] ++ (ss.drop at_).map V.str)) ha5
            have x145 := (wo_ex (p := p) (c := c) (T := T) ((((z1.trans z2).trans z3).trans z4).trans z5))
            have D0 : Du (DueS hs) mg qlP T p c H9 _ [] _ := ⟨M16.ex z5, fun y hy => by cases hy⟩
            have rx0 : RX (wo p c T (upd (upd (upd (upd (upd H14 a1 (.lst ((ss.take at_).map V.str))) a2 (.lst [odd])) a3 (.lst ((ss.take at_).map V.str ++ [odd]))) a4 (.lst ((ss.drop at_).map V.str))) a5 (.lst ((ss.take at_).map V.str ++ [odd] ++ (ss.drop at_).map V.str)))) (.ref a5) (some ((ss.take at_).map V.str ++ [odd] ++ (ss.drop at_).map V.str)) := .lst f5 (fun y hy => by
              rcases List.mem_append.mp hy with hy | hy
              · rcases List.mem_append.mp hy with hy | hy
                · obtain ⟨z, _, rfl⟩ := List.mem_map.mp hy
                  exact ⟨_, .str z⟩
                · rw [List.mem_singleton.mp hy]
                  exact hodd.1.imp fun _ z => z.ext x145
              · obtain ⟨z, _, rfl⟩ := List.mem_map.mp hy
                exact ⟨_, .str z⟩) (by rw [List.length_append, List.length_append]; show _ + 1 + _ ≤ 1000; omega)
            have fl0 : someFlaw hs (some ((ss.take at_).map V.str ++ [odd] ++ (ss.drop at_).map V.str)) = some at_ := by
              show (if _ = 0 then some 0 else someFrom hs [] _ 0) = _
              rw [if_neg (by simp), List.append_assoc]
              have := some_at (hs := hs) (odd := odd) (rest := (ss.drop at_).map V.str) (rs := ss.take at_) (seen := []) (i := 0) (fun x hx => L.per.mem_iff.mpr (ssub x (List.mem_of_mem_take hx))) (sn.sublist (List.take_sublist _ _)) (fun _ _ h => by cases h) hodd.2
              rw [List.length_take, Nat.min_eq_left hat, Nat.zero_add] at this
              exact this
            generalize upd _ a5 _ = G0 at D0 rx0 ⊢
            clear z1 z2 z3 z4 z5 M14 M15 M16 f5 x145 ha1 ha2 ha3 ha4 ha5 tl dl hodd
            refine ⟨_, rfl, by show 2 ≤ sizeLine; decide, fun t1 ht1 => ?_⟩
            have D1 := D0.tup (ys := [.ref a5, .int (at_ : Nat)]) hB ht1 fun H' e ht' => ⟨t1, _, at_, _, rfl, ht', rx0.ex e, fl0⟩
            generalize upd _ t1 _ = G1 at D1 ⊢
            clear D0 rx0 fl0 ht1
            refine ⟨Nat.zero_le _, fun c1 hc1 => ⟨by show 2 ≤ sizeLine; decide, fun t2 ht2 => ?_⟩⟩
            have D2 := (D1.ex hB (Evl.Ex.new (o := .lst []) hc1)).tup (ys := [.ref c1, .int 0]) hB ht2 fun H' e ht' => ⟨t2, _, 0, some [], rfl, ht', .lst (e _ _ (D1.w.at_ hc1)) (fun _ h => by cases h) (Nat.zero_le _), rfl⟩
            generalize upd _ t2 _ = G2 at D2 ⊢
            clear D1 hc1 ht2
            refine ⟨Nat.zero_le _, fun c2 hc2 => ⟨by show 2 ≤ sizeLine; decide, fun t3 ht3 => ?_⟩⟩
            have D3 := (D2.ex hB (Evl.Ex.new (o := .tup []) hc2)).tup (ys := [.ref c2, .int 0]) hB ht3 fun H' e ht' => ⟨t3, _, 0, some [], rfl, ht', .tup (e _ _ (D2.w.at_ hc2)) (fun _ h => by cases h) (Nat.zero_le _), rfl⟩
            generalize upd _ t3 _ = G3 at D3 ⊢
            clear D2 hc2 ht3
            refine ⟨by show 2 ≤ sizeLine; decide, fun t4 ht4 => ?_⟩
            have D4 := D3.tup (ys := [.non, .int 0]) hB ht4 fun H' e ht' => ⟨t4, _, 0, none, rfl, ht', .not .non rfl, rfl⟩
            generalize upd _ t4 _ = G4 at D4 ⊢
            clear D3 ht4
            refine ⟨by show 2 ≤ sizeLine; decide, fun t5 ht5 => ?_⟩
            have D5 := D4.tup (ys := [.str "ab", .int 0]) hB ht5 fun H' e ht' => ⟨t5, _, 0, none, rfl, ht', .not (.str _) rfl, rfl⟩
            generalize upd _ t5 _ = G5 at D5 ⊢
            clear D4 ht5
            refine fun c3 hc3 => ⟨by show 2 ≤ sizeLine; decide, fun t6 ht6 => ⟨by show 6 ≤ sizeLine; decide, fun ld hld => ?_⟩⟩
            have D6 := (D5.ex hB (Evl.Ex.new (o := .dK []) hc3)).tup (ys := [.ref c3, .int 0]) hB ht6 fun H' e ht' => ⟨t6, _, 0, none, rfl, ht', .not (.dic (e _ _ (D5.w.at_ hc3))) rfl, rfl⟩
            generalize upd _ t6 _ = G6 at D6 hld ⊢
            clear D5 hc3 ht6
            have D8 := D6.ex hB (Evl.Ex.new (o := .lst [V.ref t1, .ref t2, .ref t3, .ref t4, .ref t5, .ref t6]) hld)
            have ld8 : wo p c T _ ld = some (.lst [V.ref t1, .ref t2, .ref t3, .ref t4, .ref t5, .ref t6]) := D6.w.at_ hld
            have D8 : Du (DueS hs) mg qlP T p c H9 _ [V.ref t1, .ref t2, .ref t3, .ref t4, .ref t5, .ref t6] _ := D8
            generalize upd _ ld _ = Hb at D8 ld8 ⊢
            clear D6 hld
            have xl : [V.ref t1, .ref t2, .ref t3, .ref t4, .ref t5, .ref t6].length ≤ 6 := Nat.le_refl 6
            generalize [V.ref t1, .ref t2, .ref t3, .ref t4, .ref t5, .ref t6] = xs at D8 ld8 xl
            have Nb := D8.w.now
            have Lb := L9.ex D8.w.k
            refine ⟨_, rfl, ld, rfl, ⟨_, SqL.of (wo_to _ _ ld8)⟩, fun LL hLL => ?_⟩
            have nLL := D8.w.ne hLL
            refine lc_it (walk_list (xs := xs)) (fun j H' => Ws mg qlP T p c Hb (n + 8 + 1 + 1 + 1 + 1) H' ∧ H' LL = some (.lst ((List.replicate j true).map V.bl))) ⟨Nb.ex (Evl.Ex.new hLL), upd_same⟩ (fun j H' _ hp => SqL.of (hp.1.get ld8)) (fun j y G1 G1' hj hp hy => ?_) (fun G1 hp => ?_)
            · obtain ⟨M, hl8⟩ := hp
              obtain ⟨rfl, hy⟩ := hy
              obtain ⟨t, x, i2, o, rfl, ht', hx, hfl⟩ := D8.all y (List.mem_of_getElem? hy)
              refine ⟨t, _, rfl, SqT.of (M.get ht'), rfl, _, _, rfl, _, _, rfl, rfl, rfl, ?_⟩
              refine ⟨trivial, M.tab, fun G2 g2 Tg => ?_⟩
              have M2 := M.grow g2 Tg
              have hl8 := g2 _ _ nLL.2.2 hl8
              have V2 := (Lb.ex M2.k).ex wo_to
              refine ⟨_, rfl, _, rfl, v, x, o, hs, ps, m, rfl, V2.vil, L.good, hx.ex (M2.k.trans wo_to), fun i hi H' d hb hd => ?_, fun ss' es' n0 nn nsub => ?_⟩
              · obtain rfl : i2 = i := by rw [hfl] at hi; exact Option.some.inj hi
                refine R.m1 (H1 := G2) (fun X2 r2 e2 _ hr2 => ?_) hb hd
                have M3 := M2.ex e2
                refine ⟨_, rfl, by show 2 ≤ sizeLine; decide, fun ta hta => ?_⟩
                have z1 := Evl.Ex.new (o := .tup [V.str "some", .int (i2 : Nat)]) hta
                have M4 := M3.ex z1
                refine ⟨_, _, rfl, .inr (.inr (.inl ⟨r2, ta, _, _, rfl, rfl, .inl (z1 _ _ hr2), upd_same, by show 2 ≤ 1000; decide, .cons (.inl ⟨rfl, rfl⟩) (.cons (.inl ⟨rfl, rfl⟩) .nil)⟩)), fun H9 x9 => ?_⟩
                have hl9 := x9 _ _ (z1 _ _ (e2 _ _ hl8))
                refine ⟨_, hl9, by rw [List.length_map, List.length_replicate]; exact Nat.lt_of_lt_of_le (show j < 6 by omega) (by decide), (M4.ex x9).mut hl9 nLL.1 nLL.2.1 hLL, ?_⟩
                rw [upd_same, List.replicate_succ', List.map_append]
                rfl
              · subst es'
                rw [someFlaw_good nsub nn n0] at hfl
                cases hfl
            · obtain ⟨M, hl8⟩ := hp
              refine ⟨LL, _, rfl, SqL.of hl8, ?_⟩
              have : (List.replicate xs.length true).all id = true := by simp
              rw [this]
              exact k _ ((M9.trans (D8.w.trans M)).mono (by omega))
end
end K07

namespace K07
open PySem PySem.Spec PyProof.Rows L2 Tr Sq Dk Dt Exs Oeq
/-! ### _law_built_right -/
abbrev sBui : Stmt := top 48
abbrev qlB : Str := "_law_built_right" ++ ".<locals>." ++ "<lambda>"
abbrev nmBui : List Str := ["stream", "village", "houses", "paths", "house", "odd"]
theorem scBui : FnScope nmBui ["stream", "village", "houses", "paths"] (defScope sBui) := ⟨rfl, rfl, rfl, by decide +kernel, rfl, by decide +kernel, by decide +kernel⟩
def spBui (mg : Str → Option Value) (C T : Addr) : Sp := fun vs H Q _ => ∃ (p c v l q : Addr) (n : Nat) (h0 : Str) (ht hs : List Str) (ps : Prs) (m : VilD) (qs : PrL), vs = [.ref p, .ref v, .ref l, .ref q] ∧ StrAt H p c n ∧ n + 40 ≤ 1000000000 ∧ Lm.TabD mg [qlB] H T ∧ LV C (wo p c T H) v l q h0 ht hs ps m qs ∧ ∀ H', Ws mg qlB T p c H (n + 40) H' → Q (.bl true) H'
theorem wo_ne {p c T : Addr} {H : Hp} {b : Addr} {o : HO} (h : wo p c T H b = some o) : b ≠ p ∧ b ≠ c ∧ b ≠ T := by
  unfold wo at h
  split at h
  · cases h
  · rename_i z
    exact ⟨fun q => z (.inl q), fun q => z (.inr (.inl q)), fun q => z (.inr (.inr q))⟩
theorem LV.pp2 {C : Addr} {H : Hp} {v l q : Addr} {h0 : Str} {ht hs : List Str} {ps : Prs} {m : VilD} {qs : PrL} (L : LV C H v l q h0 ht hs ps m qs) : (ps.map ordP).Perm ((qs.map (·.2)).map ordP) := by
  have := L.pper.map ordP
  rw [ordP_map] at this
  exact this
theorem new1_no : ("new1" : Str) ∉ names12 := by decide +kernel
theorem new1_ok : nameOk "new1" = true := by decide +kernel
structure EnvB (P : Program) (w : World) (K : PySem.W.Frag) (mg : Str → Option Value) (base : Heap) (C CN CM : Addr) : Prop where
  pick : ∃ f fd, mg "_law_pick" = some (.ref f) ∧ FnOk P w K mg base CX0 2 f fd ["stream", "some"] (spPick K) ∧ PySem.W.keepIn K (.ref f) = true ∧ L2.Binds K fd ["stream", "some"] []
  same : ∃ f fd, mg "_law_same" = some (.ref f) ∧ (∀ n, FnOk P w K mg base CX0 n f fd ["found", "due"] (spSame n)) ∧ PySem.W.keepIn K (.ref f) = true ∧ L2.Binds K fd ["found", "due"] []
  met : ∃ f fd, mg "_law_met" = some (.ref f) ∧ FnP K "_law_met" sMet f fd
  built : ∃ f fd, mg "built_on" = some (.ref f) ∧ FnOk P w K mg base (L2.CX P w) 6 f fd ["village", "house", "name"] (spBuilt C CN CM) ∧ PySem.W.keepIn K (.ref f) = true ∧ L2.Binds K fd ["village", "house", "name"] []
  vil : ∃ f fd, mg "Village" = some (.ref C) ∧ Mk K C f ∧ FnOk P w K mg base CX0 4 f fd ["self", "houses", "paths"] (spInitG K) ∧ L2.Binds K fd ["self", "houses", "paths"] []
  eqv : ∃ f fd, FnOk P w K mg base CX0 2 f fd ["self", "other"] (spEqV C) ∧ PySem.W.findIn K (.ref C) "__eq__" = some (some (.ref f)) ∧ PySem.W.isFn K (.ref f) = true ∧ L2.Binds K fd ["self", "other"] []
  len_ : ∃ f fd, FnOk P w K mg base CX0 1 f fd ["self"] (spLenV K) ∧ PySem.W.findIn K (.ref C) "__len__" = some (some (.ref f)) ∧ PySem.W.isFn K (.ref f) = true ∧ L2.Binds K fd ["self"] []
  ve : VE K C
  n3 : NoAttr K C "_near"
  gLen : mg "len" = none
section
variable {P : Program} {w : World} {K : PySem.W.Frag} {mg : Str → Option Value} {base : Heap}
theorem ok_bui {C CB CJ CN CM CC CS f cL T : Addr} {fd : FuncData} (F : FnP K "_law_built_right" sBui f fd) (hcode : fd.code = .ref cL) (TB : LamX.TabB base mg cL T) (D : EnvB P w K mg base C CN CM) (R : Ers P w K mg base CB CJ CN CM CC CS) : FnOk P w K mg base CX0 10 f fd ["stream", "village", "houses", "paths"] (spBui mg C T) := by
  obtain ⟨fP, fdP, gP, GP, kP, bP⟩ := D.pick
  obtain ⟨fE, fdE, gE, GE, kE, bE⟩ := D.same
  obtain ⟨fM, fdM, gM, FM⟩ := D.met
  obtain ⟨fO, fdO, gO, GO, kO, bO⟩ := D.built
  obtain ⟨fI, fdI, gN, MN, GI, bI⟩ := D.vil
  obtain ⟨fQ, fdQ, GQ, eQ, iQ, bQ⟩ := D.eqv
  obtain ⟨fZ, fdZ, GZ, eZ, iZ, bZ⟩ := D.len_
  obtain ⟨_, T1⟩ := R.e1
  obtain ⟨_, T2⟩ := R.e2
  obtain ⟨_, T3⟩ := R.e3
  obtain ⟨_, T4⟩ := R.e4
  obtain ⟨_, T5⟩ := R.e5
  obtain ⟨_, T6⟩ := R.e6
  have ve := D.ve
  have gLen := D.gLen
  have bM : L2.Binds K fdM ["ask"] [] := FM.bindsN fun _ _ _ _ _ _ us hl => match us, hl with | [_], _ => rfl
  have kM := FM.kp
  obtain ⟨ocM, odM, dVM, kVM, docM, pmM, anM, cdM, ctM', oslM, rfl, lkM, hcM, _, _⟩ := FM.ex
  refine okCd F hcode scBui (fun vs H Q E h => ?_) (fun A outer s H vs Q E hr h => ?_)
  · obtain ⟨p, c, v, l, q, n, h0, ht, hs, ps, m, qs, rfl, _⟩ := h
    rfl
  · obtain ⟨p, c, v, l, q, n, h0, ht, hs, ps, m, qs, rfl, hS, hn, hT, L, k⟩ := h
    refine' ⟨_, PSs.nox (pss_cons (ps_set (i := 4) scBui.nd rfl (.inr rfl) (pe_call GP (hr.mono (by decide)) (by rfl) gP kP bP .nil pass0 (pa_cons (pv 0) (pa_cons (pv 2) pa_nil))))
      (pss_cons (ps_if (pt_not (pt_cmpR (op_own GQ eQ iQ bQ pass0 (hr.mono (by decide))) (pe_callS GO (hr.mono (by decide)) (by rfl) gO kO bO (fun σ => passAt takes0 σ) (pa_cons (pv 1) (pa_cons (pv 4) (pa_cons pe_str pa_nil)))) (pe_make MN GI (hr.mono (by decide)) (by rfl) gN bI .nil pass0 (pa_cons (pe_op op_cat (pv 2) (pe_lst (pa_cons pe_str pa_nil))) (pa_cons (pe_op op_cat (pv 3) (pe_lst (pa_cons (pe_tup (pa_cons (pv 4) (pa_cons pe_str pa_nil))) pa_nil))) pa_nil))) (nomark _))) (pss_one (ps_ret pe_bl)) pss_nil)
      (pss_cons (ps_for PassesOwn.never rfl (pi_tup (pe_tup (pa_cons pe_str (pa_cons pe_str (pa_cons pe_non (pa_cons pe_int (pa_cons pe_bl (pa_cons (pe_lst pa_nil) (pa_cons pe_dnewK pa_nil))))))))) (pg_name (i := 5) scBui.nd rfl (.inr rfl))
        (pss_one (ps_if (pt_not (pt_val (pe_call (GE 5) (hr.mono (by decide)) (by rfl) gE kE bE .nil pass0 (pa_cons ?m1 (pa_cons (pe_tup (pa_cons pe_str (pa_cons (pv 5) pa_nil))) pa_nil))))) (pss_one (ps_ret pe_bl)) pss_nil)))
      (pss_cons (ps_for PassesOwn.never rfl (pi_tup (pe_tup (pa_cons pe_non (pa_cons pe_int (pa_cons pe_str (pa_cons pe_str (pa_cons pe_str (pa_cons pe_str (pa_cons pe_str (pa_cons pe_str (pa_cons pe_bl (pa_cons (pe_lst pa_nil) (pa_cons pe_dnewK (pa_cons (pv 4) (pa_cons (pe_ix ix_list (pv 2) pe_int (fun _ _ => rfl)) pa_nil))))))))))))))) (pg_name (i := 5) scBui.nd rfl (.inr rfl))
        (pss_one (ps_if (pt_not (pt_val (pe_call (GE 5) (hr.mono (by decide)) (by rfl) gE kE bE .nil pass0 (pa_cons ?m2 (pa_cons (pe_tup (pa_cons pe_str (pa_cons (pv 5) pa_nil))) pa_nil))))) (pss_one (ps_ret pe_bl)) pss_nil)))
      (pss_one (ps_ret (pe_cmpR op_eq (pe_callB (call_lenO GZ eZ iZ bZ pass0 (hr.mono (by decide))) (by rfl) gLen (by decide +kernel) (pa_cons (pv 1) pa_nil)) (pe_callB call_len_seq (by rfl) gLen (by decide +kernel) (pa_cons (pv 2) pa_nil)) (nomark _)))))))), ?rd⟩
    case m1 =>
      exact Lm.pe_lamT (Pre := fun _ => True) (qs := []) (P := T) (lv := 6) (Ng := ["ask", "e"]) (t := fun E => tCallS (spBuilt C CN CM) (WE fun cls d _ H => E cls d H) (tCons (tVar 1) (tCons (tVar 5) (tCons (tC .non) tNil)))) (by rfl) gM kM lkM hcM bM scMet rfl (.inl rfl) (met_gives T1 T2 T3 T4 T5 T6) (fun pins σ H s I _ => ⟨TB.code.keeps I.bk, TB.bm.keeps I.bk, TB.gP⟩) rfl (fun H H1 Y _ g hY t => True.intro) (hr.mono (by decide)) (LamX.lamS_by (sc := defScope sBui) (by decide +kernel)) rfl (fun _ _ _ _ _ => rfl)
        (fun A outer s H E f c' hr5 => pe_callS GO hr5 (by rfl) gO kO bO (fun σ => passAt (takes_of rfl rfl rfl rfl) σ) (pa_cons (pv 1) (pa_cons (pv 5) (pa_cons pe_non pa_nil))))
    case m2 =>
      exact Lm.pe_lamT (Pre := fun _ => True) (qs := []) (P := T) (lv := 6) (Ng := ["ask", "e"]) (t := fun E => tCallS (spBuilt C CN CM) (WE fun cls d _ H => E cls d H) (tCons (tVar 1) (tCons (tVar 4) (tCons (tVar 5) tNil)))) (by rfl) gM kM lkM hcM bM scMet rfl (.inl rfl) (met_gives T1 T2 T3 T4 T5 T6) (fun pins σ H s I _ => ⟨TB.code.keeps I.bk, TB.bm.keeps I.bk, TB.gP⟩) rfl (fun H H1 Y _ g hY t => True.intro) (hr.mono (by decide)) (LamX.lamS_by (sc := defScope sBui) (by decide +kernel)) rfl (fun _ _ _ _ _ => rfl)
        (fun A outer s H E f c' hr5 => pe_callS GO hr5 (by rfl) gO kO bO (fun σ => passAt (takes_of rfl rfl rfl rfl) σ) (pa_cons (pv 1) (pa_cons (pv 4) (pa_cons (pv 5) pa_nil))))
    case rd =>
      have M0 : Ws mg qlB T p c H n H := .start hS hT
      have L0 := L.ex wo_to
      have hl8 := L.hl
      have nl := wo_ne L.lat
      refine ⟨_, rfl, _, rfl, p, c, l, n, _, rfl, hS, by omega, nl.1, nl.2.1, .inl L0.lat, by rw [List.length_map]; exact Nat.succ_pos _, by rw [List.length_map]; exact Nat.lt_of_le_of_lt hl8 (by decide), fun x j H1 hj kp1 s1 => ?_⟩
      obtain ⟨a, ham, rfl⟩ := List.mem_map.mp (List.mem_of_getElem? hj)
      have M1 := M0.kp kp1 s1
      have L1 := L.ex M1.k
      have L1' := L1.ex wo_to
      have hav : a ∈ hs := L.per.mem_iff.mpr ham
      have nn : ("new1" : Str) ∉ hs := fun z => new1_no (L.vg _ z)
      have nn2 : ("new1" : Str) ∉ h0 :: ht := fun z => new1_no (L.gd _ z)
      have hia : isHouse hs (.str a) = true := decide_eq_true hav
      have okv : ∀ (hs' ks : List Str) (b : Str), hs'.Perm (ks ++ [b]) → (∀ x ∈ ks, x ∈ names12) → nameOk b = true → ∀ x ∈ hs', PyData.strOk x = true := fun hs' ks b hp hk hb x hx => by
        rcases List.mem_append.mp (hp.mem_iff.mp hx) with hx | hx
        · exact good_ok x (hk x hx)
        · rw [List.mem_singleton.mp hx]
          exact name_str hb
      refine ⟨_, rfl, _, rfl, v, .str a, .str "new1", "str", "str", hs, ps, m, rfl, L1'.vil, L.good, .str a, .str _, fun z e => by rw [← V.str.inj e]; decide, fun z => absurd (hia.symm.trans z) (by simp), fun _ z => ?_, fun a2 b2 ea eb ha2 hb2 hn2 H2 u hs' ps' m' x2 hu Vu fr c1 c2 c3 c4 T' => ?_⟩
      · rcases z with z | z
        · exact absurd (new1_ok.symm.trans z) (by simp)
        · exact absurd (of_decide_eq_true z) nn
      cases ea
      cases eb
      have M2 := M1.ex x2
      have L2' := (L.ex M2.k).ex wo_to
      refine ⟨_, rfl, by show 1 ≤ sizeLine; decide, fun b1 hb1 => ?_⟩
      have z1 := Evl.Ex.new (o := .lst [V.str "new1"]) hb1
      refine ⟨l, b1, _, _, rfl, rfl, z1 _ _ L2'.lat, upd_same, Nat.le_trans (show _ + 1 ≤ 9 by rw [List.length_map]; omega) (by decide), fun b2 hb2 => ?_⟩
      have z2 := Evl.Ex.new (o := .lst ((h0 :: ht).map V.str ++ [V.str "new1"])) hb2
      refine ⟨_, rfl, _, rfl, by show 2 ≤ sizeLine; decide, fun t ht' => ⟨by show 1 ≤ sizeLine; decide, fun b3 hb3 => ?_⟩⟩
      have z3 := Evl.Ex.new (o := .tup [V.str a, V.str "new1"]) ht'
      have z4 := Evl.Ex.new (o := .lst [V.ref t]) hb3
      have ql8 : (refsL qs).length ≤ 8 := by unfold refsL; rw [List.length_map]; exact L.ql
      refine ⟨q, b3, _, _, rfl, rfl, z4 _ _ (z3 _ _ (z2 _ _ (z1 _ _ L2'.qat))), upd_same, Nat.le_trans (show _ + 1 ≤ 9 by omega) (by decide), fun b4 hb4 => ?_⟩
      have z5 := Evl.Ex.new (o := .lst (refsL qs ++ [V.ref t])) hb4
      have x25 := (((z1.trans z2).trans z3).trans z4).trans z5
      refine fun u2 dx hu2 hdx hne => mkV (tl := false) (tq := false) (l := b2) (q := b4) (hs := (h0 :: ht) ++ [("new1" : Str)]) (qs := qs ++ [(t, a, ("new1" : Str))]) ve.cl ve.n1 ve.n2 D.n3 (show Lt _ false b2 _ from by rw [List.map_append]; exact ((z3.trans z4).trans z5) _ _ upd_same) (show Lt _ false b4 _ from by rw [List.map_append]; exact upd_same) (fun r hr => ⟨true, ?_⟩) (by rw [List.map_append]; exact L.tr.leaf ham nn2 (.inl rfl)) (by simp) (by rw [List.length_append]; show _ + 1 ≤ 60; omega) (by rw [List.length_append]; have := L.ql; show _ + 1 ≤ 60; omega) (fun h hh => ?_) hu2 hdx hne fun H11 hs1 ps1 m1 x11 V1 fr1 hp1 hso1 hps1 hpw1 Tr1 => ⟨rfl, ?_⟩
      · rcases List.mem_append.mp hr with hr | hr
        · exact x25 _ _ (L2'.pr r hr)
        · rw [List.mem_singleton.mp hr]
          exact z5 _ _ (z4 _ _ upd_same)
      · rcases List.mem_append.mp hh with hh | hh
        · exact good_nm (L.gd h hh)
        · rw [List.mem_singleton.mp hh]
          exact ⟨new1_ok, by decide⟩
      have pp : ((ps ++ [(a, ("new1" : Str))]).map ordP).Perm (((qs ++ [(t, a, ("new1" : Str))]).map (·.2)).map ordP) := by
        rw [List.map_append, List.map_append, List.map_append]
        exact L.pp2.append_right _
      refine own_vil ve (Vu.ex (x25.trans x11)) (okN_of T' (okv _ _ _ c1 L.vg new1_ok)) V1 (okN_of Tr1 (okv _ _ _ hp1 L.gd new1_ok)) ?_
      rw [same_vil c1 c2 hp1 hso1 (L.per.append_right _) c3 c4 hps1 hpw1 pp]
      refine ⟨_, rfl, iteF ?_⟩
      have M5 := M2.ex (x25.trans x11)
      clear z1 z2 z3 z4 z5 x25 x11 hb1 hb2 ht' hb3 hb4 hu2 hdx hne V1 fr1 hp1 hso1 hps1 hpw1 Tr1 pp ps1 hs1 m1 Vu fr c1 c2 c3 c4 T' hu x2 L2' M2 L1 L1' M1 kp1 s1 hj okv L0 M0
      -- odd houses
      refine ⟨by show 0 ≤ sizeLine; decide, fun l1 hl1 => fun d1 hd1 => ⟨by show 7 ≤ sizeLine; decide, fun tq htq => ?_⟩⟩
      have x1 := Evl.Ex.new (o := .lst []) hl1
      have x3 := Evl.Ex.new (o := .dK []) hd1
      have x4 := Evl.Ex.new (o := .tup [V.str "never", V.str "", V.non, V.int 5, V.bl true, V.ref l1, V.ref d1]) htq
      have l1T := M5.ne hl1
      have d1T := (M5.ex x1).ne hd1
      have tqT := (M5.ex (x1.trans x3)).ne htq
      have Mb := M5.ex ((x1.trans x3).trans x4)
      have g1 := wo_at (p := p) (c := c) (T := T) ((x3.trans x4) _ _ upd_same) l1T.1 l1T.2.1 l1T.2.2
      have g3 := wo_at (p := p) (c := c) (T := T) (x4 _ _ upd_same) d1T.1 d1T.2.1 d1T.2.2
      have g4 := wo_at (p := p) (c := c) (T := T) (upd_same (H := upd (upd H11 l1 (.lst [])) d1 (.dK [])) (a := tq) (o := .tup [V.str "never", V.str "", V.non, V.int 5, V.bl true, V.ref l1, V.ref d1])) tqT.1 tqT.2.1 tqT.2.2
      clear x1 x3 x4 hl1 hd1 htq l1T d1T tqT
      generalize upd _ tq _ = Hb at Mb g1 g3 g4 ⊢
      have Nb := Mb.now
      have Lb := L.ex Mb.k
      have oddOk : ∀ u ∈ [V.str "never", V.str "", V.non, V.int 5, V.bl true, V.ref l1, V.ref d1], (∃ n, Pl (wo p c T Hb) u n) ∧ isHouse hs u = false ∧ ∀ H', Evl.Ex (wo p c T Hb) H' → Sm H' 4 u u := by
        have nn : ∀ z : Str, z ∉ names12 → isHouse hs (.str z) = false := fun z hz => decide_eq_false fun q => hz (L.vg z q)
        intro u hu
        simp only [List.mem_cons, List.not_mem_nil, or_false] at hu
        rcases hu with rfl | rfl | rfl | rfl | rfl | rfl | rfl
        · exact ⟨⟨_, .str _⟩, nn _ (by decide +kernel), fun _ _ => .inl ⟨rfl, rfl⟩⟩
        · exact ⟨⟨_, .str _⟩, nn _ (by decide +kernel), fun _ _ => .inl ⟨rfl, rfl⟩⟩
        · exact ⟨⟨_, .non⟩, rfl, fun _ _ => .inl ⟨rfl, rfl⟩⟩
        · exact ⟨⟨_, .int _⟩, rfl, fun _ _ => .inl ⟨rfl, rfl⟩⟩
        · exact ⟨⟨_, .bl _⟩, rfl, fun _ _ => .inl ⟨rfl, rfl⟩⟩
        · exact ⟨⟨_, .lst g1⟩, rfl, fun _ e => .inr (.inl ⟨l1, l1, [], [], rfl, rfl, e _ _ g1, e _ _ g1, Nat.zero_le _, .nil⟩)⟩
        · exact ⟨⟨_, .dic g3⟩, rfl, fun _ e => .inr (.inr (.inr (.inl ⟨d1, d1, [], rfl, rfl, e _ _ g3, e _ _ g3, (fun q hq => by cases hq), Nat.zero_le _, by decide⟩)))⟩
      generalize [V.str "never", V.str "", V.non, V.int 5, V.bl true, V.ref l1, V.ref d1] = xs at g4 oddOk ⊢
      refine ⟨tq, rfl, ⟨_, SqT.of (wo_to _ _ g4)⟩, ?_⟩
      refine for_it (walk_tup (xs := xs)) (fun _ σ H' => ∃ v5, σ = [some (.ref p), some (.ref v), some (.ref l), some (.ref q), some (.str a), v5] ∧ Ws mg qlB T p c Hb (n + 1) H') ⟨_, rfl, Nb⟩ ?_ ?_ ?_
      · rintro i3 σ H' _ ⟨v4, rfl, M⟩
        exact SqT.of (M.get g4)
      · rintro i3 u σ H2 H3 hi3 ⟨v4, rfl, M⟩ ⟨rfl, hu⟩
        obtain ⟨⟨nu, hPu⟩, hnh, hsm⟩ := oddOk u (List.mem_of_getElem? hu)
        have uS : ∀ {X : Prop} (a : Str), u = .str a → a ∈ hs → X := fun a e hm => by
          rw [e] at hnh
          exact absurd (show isHouse hs (.str a) = true from decide_eq_true hm) (by rw [hnh]; simp)
        refine ⟨trivial, M.tab, fun G2 g2 T2 => ?_⟩
        have N2 := M.grow g2 T2
        have V2 := (Lb.ex N2.k).ex wo_to
        refine ⟨_, rfl, _, rfl, v, u, .non, _, _, hs, ps, m, rfl, V2.vil, L.good, (hPu.ext N2.k).ext wo_to, .non, fun z e => (by cases e), fun _ H' d hb hd => ?_, fun z => absurd (hnh.symm.trans z) (by simp), fun a2 b2 ea eb ha2 => uS a2 ea ha2⟩
        refine R.m3 (H1 := G2) (fun X2 r2 e2 _ hr2 => ?_) hb hd
        have M3 := N2.ex e2
        refine ⟨_, rfl, by show 2 ≤ sizeLine; decide, fun ta hta => ?_⟩
        have z1 := Evl.Ex.new (o := .tup [V.str "house", u]) hta
        have M4 := M3.ex z1
        refine ⟨_, _, rfl, .inr (.inr (.inl ⟨r2, ta, _, _, rfl, rfl, .inl (z1 _ _ hr2), upd_same, by show 2 ≤ 1000; decide, .cons (.inl ⟨rfl, rfl⟩) (.cons (hsm _ (M4.k.trans wo_to)) .nil)⟩)), fun H9 x9 => ⟨_, rfl, iteF ?_⟩⟩
        exact ⟨_, rfl, M4.ex x9⟩
      · rintro σ H2 ⟨v5, rfl, M6⟩
        have M7 := Mb.trans M6
        clear M5 Mb g1 g3 g4 Nb Lb oddOk M6
        -- odd names
        refine ⟨by show 0 ≤ sizeLine; decide, fun l1 hl1 => fun d1 hd1 => ?_⟩
        have x1 := Evl.Ex.new (o := .lst []) hl1
        have x3 := Evl.Ex.new (o := .dK []) hd1
        have M8 := M7.ex (x1.trans x3)
        refine ⟨_, rfl, _, rfl, l, _, 0, _, rfl, rfl, SqL.of (M8.get L.lat), atI_nat (j := 0) rfl, by show 13 ≤ sizeLine; decide, fun tq htq => ?_⟩
        have x4 := Evl.Ex.new (o := .tup [V.non, V.int 5, V.str "A", V.str "", V.str "a b", V.str "0a", V.str "abcdefghijklm", V.str "a\n", V.bl true, V.ref l1, V.ref d1, V.str a, V.str h0]) htq
        have l1T := M7.ne hl1
        have d1T := (M7.ex x1).ne hd1
        have tqT := M8.ne htq
        have Mb := M8.ex x4
        have g1 := wo_at (p := p) (c := c) (T := T) ((x3.trans x4) _ _ upd_same) l1T.1 l1T.2.1 l1T.2.2
        have g3 := wo_at (p := p) (c := c) (T := T) (x4 _ _ upd_same) d1T.1 d1T.2.1 d1T.2.2
        have g4 := wo_at (p := p) (c := c) (T := T) (upd_same (H := upd (upd H2 l1 (.lst [])) d1 (.dK [])) (a := tq) (o := .tup [V.non, V.int 5, V.str "A", V.str "", V.str "a b", V.str "0a", V.str "abcdefghijklm", V.str "a\n", V.bl true, V.ref l1, V.ref d1, V.str a, V.str h0])) tqT.1 tqT.2.1 tqT.2.2
        clear x1 x3 x4 hl1 hd1 htq l1T d1T tqT
        generalize upd _ tq _ = Hb at Mb g1 g3 g4 ⊢
        have Nb := Mb.now
        have Lb := L.ex Mb.k
        have oddOk : ∀ u ∈ [V.non, V.int 5, V.str "A", V.str "", V.str "a b", V.str "0a", V.str "abcdefghijklm", V.str "a\n", V.bl true, V.ref l1, V.ref d1, V.str a, V.str h0], (∃ n, Pl (wo p c T Hb) u n) ∧ (isNm u = false ∨ isHouse hs u = true) ∧ (∀ z, u = .str z → z.length ≤ 1000) ∧ ∀ H', Evl.Ex (wo p c T Hb) H' → Sm H' 4 u u := by
          intro u hu
          simp only [List.mem_cons, List.not_mem_nil, or_false] at hu
          have nz : ∀ z : Str, z ∈ names12 → z.length ≤ 1000 := fun z hz => (good_nm hz).2
          rcases hu with rfl | rfl | rfl | rfl | rfl | rfl | rfl | rfl | rfl | rfl | rfl | rfl | rfl
          · exact ⟨⟨_, .non⟩, .inl rfl, fun z e => (by cases e), fun _ _ => .inl ⟨rfl, rfl⟩⟩
          · exact ⟨⟨_, .int _⟩, .inl rfl, fun z e => (by cases e), fun _ _ => .inl ⟨rfl, rfl⟩⟩
          · exact ⟨⟨_, .str _⟩, .inl (by decide +kernel), fun z e => (by rw [← V.str.inj e]; decide), fun _ _ => .inl ⟨rfl, rfl⟩⟩
          · exact ⟨⟨_, .str _⟩, .inl (by decide +kernel), fun z e => (by rw [← V.str.inj e]; decide), fun _ _ => .inl ⟨rfl, rfl⟩⟩
          · exact ⟨⟨_, .str _⟩, .inl (by decide +kernel), fun z e => (by rw [← V.str.inj e]; decide), fun _ _ => .inl ⟨rfl, rfl⟩⟩
          · exact ⟨⟨_, .str _⟩, .inl (by decide +kernel), fun z e => (by rw [← V.str.inj e]; decide), fun _ _ => .inl ⟨rfl, rfl⟩⟩
          · exact ⟨⟨_, .str _⟩, .inl (by decide +kernel), fun z e => (by rw [← V.str.inj e]; decide), fun _ _ => .inl ⟨rfl, rfl⟩⟩
          · exact ⟨⟨_, .str _⟩, .inl (by decide +kernel), fun z e => (by rw [← V.str.inj e]; decide), fun _ _ => .inl ⟨rfl, rfl⟩⟩
          · exact ⟨⟨_, .bl _⟩, .inl rfl, fun z e => (by cases e), fun _ _ => .inl ⟨rfl, rfl⟩⟩
          · exact ⟨⟨_, .lst g1⟩, .inl rfl, fun z e => (by cases e), fun _ e => .inr (.inl ⟨l1, l1, [], [], rfl, rfl, e _ _ g1, e _ _ g1, Nat.zero_le _, .nil⟩)⟩
          · exact ⟨⟨_, .dic g3⟩, .inl rfl, fun z e => (by cases e), fun _ e => .inr (.inr (.inr (.inl ⟨d1, d1, [], rfl, rfl, e _ _ g3, e _ _ g3, (fun q hq => by cases hq), Nat.zero_le _, by decide⟩)))⟩
          · exact ⟨⟨_, .str _⟩, .inr hia, fun z e => (by rw [← V.str.inj e]; exact nz _ (L.gd _ ham)), fun _ _ => .inl ⟨rfl, rfl⟩⟩
          · exact ⟨⟨_, .str _⟩, .inr (decide_eq_true (L.per.mem_iff.mpr List.mem_cons_self)), fun z e => (by rw [← V.str.inj e]; exact nz _ (L.gd _ List.mem_cons_self)), fun _ _ => .inl ⟨rfl, rfl⟩⟩
        generalize [V.non, V.int 5, V.str "A", V.str "", V.str "a b", V.str "0a", V.str "abcdefghijklm", V.str "a\n", V.bl true, V.ref l1, V.ref d1, V.str a, V.str h0] = xs at g4 oddOk ⊢
        refine ⟨tq, rfl, ⟨_, SqT.of (wo_to _ _ g4)⟩, ?_⟩
        refine for_it (walk_tup (xs := xs)) (fun _ σ H' => ∃ v5, σ = [some (.ref p), some (.ref v), some (.ref l), some (.ref q), some (.str a), v5] ∧ Ws mg qlB T p c Hb (n + 1) H') ⟨_, rfl, Nb⟩ ?_ ?_ ?_
        · rintro i3 σ H' _ ⟨v4, rfl, M⟩
          exact SqT.of (M.get g4)
        · rintro i3 u σ H2 H3 hi3 ⟨v4, rfl, M⟩ ⟨rfl, hu⟩
          obtain ⟨⟨nu, hPu⟩, hnh, hlu, hsm⟩ := oddOk u (List.mem_of_getElem? hu)
          refine ⟨trivial, M.tab, fun G2 g2 T2 => ?_⟩
          have N2 := M.grow g2 T2
          have V2 := (Lb.ex N2.k).ex wo_to
          refine ⟨_, rfl, _, rfl, _, rfl, v, .str a, u, _, _, hs, ps, m, rfl, V2.vil, L.good, .str a, (hPu.ext N2.k).ext wo_to, hlu, fun z => absurd (hia.symm.trans z) (by simp), fun _ _ H' d hb hd => ?_, fun a2 b2 ea eb ha2 hb2 hn2 => ?_⟩
          · refine R.m4 (H1 := G2) (fun X2 r2 e2 _ hr2 => ?_) hb hd
            have M3 := N2.ex e2
            refine ⟨_, rfl, by show 2 ≤ sizeLine; decide, fun ta hta => ?_⟩
            have z1 := Evl.Ex.new (o := .tup [V.str "name", u]) hta
            have M4 := M3.ex z1
            refine ⟨_, _, rfl, .inr (.inr (.inl ⟨r2, ta, _, _, rfl, rfl, .inl (z1 _ _ hr2), upd_same, by show 2 ≤ 1000; decide, .cons (.inl ⟨rfl, rfl⟩) (.cons (hsm _ (M4.k.trans wo_to)) .nil)⟩)), fun H9 x9 => ⟨_, rfl, iteF ?_⟩⟩
            exact ⟨_, rfl, M4.ex x9⟩
          · subst eb
            rcases hnh with z | z
            · exact absurd (hb2.symm.trans z) (by simp)
            · exact absurd (of_decide_eq_true z) hn2
        · rintro σ H2 ⟨v5, rfl, M6⟩
          have M9 := Mb.trans M6
          have V9 := (L.ex M9.k).ex wo_to
          refine ⟨_, rfl, v, _, _, rfl, V9.vil.at_, v, C, hs, ps, m, rfl, ve.cl, ve.n1, V9.vil, hs.length, rfl, Nat.lt_of_le_of_lt L.vh (by decide), _, rfl, l, _, rfl, .inl (SqL.of V9.lat), rfl, ?_⟩
          rw [show decide (V.int (hs.length : Nat) = V.int (((h0 :: ht).map V.str).length : Nat)) = true from decide_eq_true (by rw [List.length_map, L.per.length_eq])]
          exact k _ (M9.mono (by omega))
end
end K07

namespace K07
open PySem PySem.Spec PyProof.Rows L2 Tr Sq Dk Dt Exs Oeq
/-! ### _law_joined_right -/
abbrev sJoi : Stmt := top 49
abbrev qlJ : Str := "_law_joined_right" ++ ".<locals>." ++ "<lambda>"
abbrev nmJoi : List Str := ["stream", "village", "houses", "paths", "others", "more", "second", "house", "far", "common", "found", "lead", "third", "doors_due", "odd", "name", "at", "one", "other"]
theorem scJoi : FnScope nmJoi ["stream", "village", "houses", "paths"] (defScope sJoi) := ⟨rfl, rfl, rfl, by decide +kernel, rfl, by decide +kernel, by decide +kernel⟩
def spJoi (mg : Str → Option Value) (C T : Addr) : Sp := fun vs H Q _ => ∃ (p c v l q : Addr) (n : Nat) (h0 : Str) (ht hs : List Str) (ps : Prs) (m : VilD) (qs : PrL), vs = [.ref p, .ref v, .ref l, .ref q] ∧ StrAt H p c n ∧ n + 300 ≤ 1000000000 ∧ Lm.TabD mg [qlJ] H T ∧ LV C (wo p c T H) v l q h0 ht hs ps m qs ∧ ∀ H', Ws mg qlJ T p c H (n + 300) H' → Q (.bl true) H'
theorem ordP_comm (a b : Str) : ordP (a, b) = ordP (b, a) := by
  unfold ordP
  cases h1 : Srs.ltT a b with
  | true =>
    rw [Srs.ltT_asym h1]
    simp
  | false =>
    cases h2 : Srs.ltT b a with
    | true => simp
    | false => simp [Srs.ltT_tot h1 h2]
theorem mapP_ord (f : Str → Str) (l : Prs) : (mapP f (l.map ordP)).map ordP = (mapP f l).map ordP := by
  unfold mapP
  rw [List.map_map, List.map_map, List.map_map]
  refine List.map_congr_left fun q _ => ?_
  show ordP (f (ordP q).1, f (ordP q).2) = ordP (f q.1, f q.2)
  have : ordP q = q ∨ ordP q = (q.2, q.1) := by
    unfold ordP
    split
    · exact .inl rfl
    · exact .inr rfl
  rcases this with e | e
  · rw [e]
  · rw [e]
    exact ordP_comm _ _
def xN (i : Nat) : Str := ("x" : Str) ++ (toString (i : Int))
theorem xN_ok : ∀ i < 5, nameOk (xN i) = true ∧ xN i ∉ names12 := by decide +kernel
theorem xN_len : ∀ i < 5, ("x" : Str).length + (Str.ofString (toString ((i : Nat) : Int))).length ≤ 100 := by decide +kernel
theorem xN_inj : ∀ i < 5, ∀ j < 5, xN i = xN j → i = j := by decide +kernel
def nthX : List Str → Nat → Str → Str
  | [], _, z => z
  | h :: r, i, z => if z = h then xN i else nthX r (i + 1) z
theorem nthX_at : ∀ {l : List Str} {i j : Nat} {z : Str}, l.Nodup → l[j]? = some z → nthX l i z = xN (i + j)
  | [], _, _, _, _, h => by simp at h
  | x :: l, i, 0, z, _, h => by
    simp only [List.getElem?_cons_zero, Option.some.injEq] at h
    subst h
    show (if x = x then xN i else _) = _
    rw [if_pos rfl]
    rfl
  | x :: l, i, j + 1, z, hn, h => by
    rw [List.getElem?_cons_succ] at h
    obtain ⟨h1, h2⟩ := List.nodup_cons.mp hn
    show (if z = x then xN i else nthX l (i + 1) z) = _
    rw [if_neg (fun e : z = x => h1 (by rw [← e]; exact List.mem_of_getElem? h)), nthX_at h2 h]
    congr 1
    omega
theorem nthX_ok {l : List Str} (hn : l.Nodup) (h5 : l.length ≤ 5) : (∀ z ∈ l, nameOk (nthX l 0 z) = true ∧ nthX l 0 z ∉ names12) ∧ ∀ z ∈ l, ∀ y ∈ l, nthX l 0 z = nthX l 0 y → z = y := by
  refine ⟨fun z hz => ?_, fun z hz y hy e => ?_⟩
  · obtain ⟨j, hj⟩ := List.getElem?_of_mem hz
    have hl := (List.getElem?_eq_some_iff.mp hj).1
    rw [nthX_at hn hj]
    exact xN_ok _ (by omega)
  · obtain ⟨j, hj⟩ := List.getElem?_of_mem hz
    obtain ⟨i, hi⟩ := List.getElem?_of_mem hy
    have hl := (List.getElem?_eq_some_iff.mp hj).1
    have hl2 := (List.getElem?_eq_some_iff.mp hi).1
    rw [nthX_at hn hj, nthX_at hn hi] at e
    have := xN_inj _ (by omega) _ (by omega) e
    rw [Nat.zero_add, Nat.zero_add] at this
    subst this
    rw [hj] at hi
    exact Option.some.inj hi
theorem pairs_tab {K : PySem.W.Frag} {H : Hp} {f : Str → Str} : ∀ {us : PrL} {l : List Str}, PrsAt H us → us.map (·.2) = l.map (fun z => (z, f z)) → Paired (fun (p : Addr) (kv : Key × V) => SqT K H p [kV kv.1, kv.2]) (us.map (·.1)) (tab l fun z => .str (f z))
  | [], [], _, _ => .nil
  | [], _ :: _, _, h => by cases h
  | _ :: _, [], _, h => by cases h
  | u :: us, z :: l, hP, h => by
    rw [List.map_cons, List.map_cons] at h
    injection h with h1 h2
    have := hP u List.mem_cons_self
    rw [h1] at this
    exact .cons (SqT.of this) (pairs_tab (fun t ht => hP t (List.mem_cons_of_mem _ ht)) h2)
theorem tab_ren {hs os : List Str} {f : Str → Str} (p : hs.Perm os) (nd : os.Nodup) (ok : ∀ z ∈ os, nameOk (f z) = true) (inj : ∀ z ∈ os, ∀ y ∈ os, f z = f y → z = y) : isRen hs (some (tab os fun z => .str (f z))) = true := by
  have e : (tab os fun z => V.str (f z)).map (·.2) = (os.map f).map V.str := by
    unfold tab
    rw [List.map_map, List.map_map]
    rfl
  have n2 : (os.map f).Nodup := by
    unfold List.Nodup
    rw [List.pairwise_map]
    exact nd.imp_of_mem fun {x y} hx hy n e => n (inj x hx y hy e)
  unfold isRen
  rw [Bool.and_eq_true, Bool.and_eq_true, e]
  refine ⟨?_, ?_, decide_eq_true (nodup_strs.mpr n2)⟩
  · show (decide ((tab os fun z => V.str (f z)).length = hs.length) && hs.all fun h => (valV (tab os fun z => V.str (f z)) (Sum.inr h)).isSome) = true
    rw [Bool.and_eq_true, tab_length, List.all_eq_true]
    exact ⟨decide_eq_true p.length_eq.symm, fun h hh => by rw [val_in (p.mem_iff.mp hh)]; rfl⟩
  · rw [List.all_eq_true]
    intro y hy
    obtain ⟨z, hz, rfl⟩ := List.mem_map.mp hy
    obtain ⟨x, hx, rfl⟩ := List.mem_map.mp hz
    exact ok x hx
theorem dx_tab {H : Hp} {a : Addr} {os : List Str} {f : Str → Str} (h : H a = some (.dK (tab os fun z => .str (f z)))) (hl : os.length ≤ 1000) : DX H (.ref a) (some (tab os fun z => .str (f z))) := by
  refine .dic h (fun p hp => ?_) (fun p hp => ?_) (by rw [tab_length]; exact hl)
  · obtain ⟨z, _, rfl⟩ := List.mem_map.mp hp
    exact ⟨_, .str _⟩
  · obtain ⟨z, _, rfl⟩ := List.mem_map.mp hp
    exact fun z => by cases z
theorem short_tab {os : List Str} {f : Str → Str} (ok : ∀ z ∈ os, nameOk (f z) = true) : ShortV (some (tab os fun z => .str (f z))) := fun kvs e z hz => by
  cases e
  obtain ⟨q, hq, e⟩ := List.mem_map.mp hz
  obtain ⟨x, hx, rfl⟩ := List.mem_map.mp hq
  rw [← V.str.inj e]
  exact Nat.le_trans (nameOk_len (ok x hx)) (by decide)
structure EnvJ (P : Program) (w : World) (K : PySem.W.Frag) (mg : Str → Option Value) (base : Heap) (C CN CC CS : Addr) : Prop where
  vill : ∃ f fd, mg "_law_v_village" = some (.ref f) ∧ FnOk P w K mg base CX0 4 f fd ["stream", "most"] spVill ∧ PySem.W.keepIn K (.ref f) = true ∧ L2.Binds K fd ["stream", "most"] []
  pick : ∃ f fd, mg "_law_pick" = some (.ref f) ∧ FnOk P w K mg base CX0 2 f fd ["stream", "some"] (spPick K) ∧ PySem.W.keepIn K (.ref f) = true ∧ L2.Binds K fd ["stream", "some"] []
  same : ∃ f fd, mg "_law_same" = some (.ref f) ∧ (∀ n, FnOk P w K mg base CX0 n f fd ["found", "due"] (spSame n)) ∧ PySem.W.keepIn K (.ref f) = true ∧ L2.Binds K fd ["found", "due"] []
  met : ∃ f fd, mg "_law_met" = some (.ref f) ∧ FnP K "_law_met" sMet f fd
  join : ∃ f fd, mg "joined_by" = some (.ref f) ∧ FnOk P w K mg base (L2.CX P w) 6 f fd ["one", "other", "house", "far"] (spJoinV C CN CC) ∧ PySem.W.keepIn K (.ref f) = true ∧ L2.Binds K fd ["one", "other", "house", "far"] []
  ren : ∃ f fd, mg "renamed" = some (.ref f) ∧ FnOk P w K mg base (L2.CX P w) 6 f fd ["village", "names"] (spRen C CS) ∧ PySem.W.keepIn K (.ref f) = true ∧ L2.Binds K fd ["village", "names"] []
  vil : ∃ f fd, mg "Village" = some (.ref C) ∧ Mk K C f ∧ FnOk P w K mg base CX0 4 f fd ["self", "houses", "paths"] (spInitG K) ∧ L2.Binds K fd ["self", "houses", "paths"] []
  eqv : ∃ f fd, FnOk P w K mg base CX0 2 f fd ["self", "other"] (spEqV C) ∧ PySem.W.findIn K (.ref C) "__eq__" = some (some (.ref f)) ∧ PySem.W.isFn K (.ref f) = true ∧ L2.Binds K fd ["self", "other"] []
  pts : ∃ f fd, Meth K C "paths" f ∧ FnOk P w K mg base CX0 1 f fd ["self"] (spPathsM K) ∧ L2.Binds K fd ["self"] []
  vc : VC P w K mg base C
  ve : VE K C
  gSo : mg "sorted" = none
  gDict : mg "dict" = none
  gEn : mg "enumerate" = none
  gStr : mg "str" = none
section
variable {P : Program} {w : World} {K : PySem.W.Frag} {mg : Str → Option Value} {base : Heap}
theorem ok_joi {C CB CJ CN CM CC CS f cL T : Addr} {fd : FuncData} (F : FnP K "_law_joined_right" sJoi f fd) (hcode : fd.code = .ref cL) (TB : LamX.TabB base mg cL T) (D : EnvJ P w K mg base C CN CC CS) (R : Ers P w K mg base CB CJ CN CM CC CS) : FnOk P w K mg base CX0 10 f fd ["stream", "village", "houses", "paths"] (spJoi mg C T) := by
  obtain ⟨fV, fdV, gV, GV, kVl, bV⟩ := D.vill
  obtain ⟨fP, fdP, gP, GP, kP, bP⟩ := D.pick
  obtain ⟨fE, fdE, gE, GE, kE, bE⟩ := D.same
  obtain ⟨fM, fdM, gM, FM⟩ := D.met
  obtain ⟨fO, fdO, gO, GO, kO, bO⟩ := D.join
  obtain ⟨fR, fdR, gR, GR, kR, bR⟩ := D.ren
  obtain ⟨fI, fdI, gN, MN, GI, bI⟩ := D.vil
  obtain ⟨fQ, fdQ, GQ, eQ, iQ, bQ⟩ := D.eqv
  obtain ⟨fT, fdT, mT, GT, bT⟩ := D.pts
  obtain ⟨_, T1⟩ := R.e1
  obtain ⟨_, T2⟩ := R.e2
  obtain ⟨_, T3⟩ := R.e3
  obtain ⟨_, T4⟩ := R.e4
  obtain ⟨_, T5⟩ := R.e5
  obtain ⟨_, T6⟩ := R.e6
  have ve := D.ve
  have vc := D.vc
  obtain ⟨fH, fdH, mH, GH, bH⟩ := vc.hs
  have gSo := D.gSo
  have gDict := D.gDict
  have gEn := D.gEn
  have gStr := D.gStr
  have bM : L2.Binds K fdM ["ask"] [] := FM.bindsN fun _ _ _ _ _ _ us hl => match us, hl with | [_], _ => rfl
  have kM := FM.kp
  obtain ⟨ocM, odM, dVM, kVM, docM, pmM, anM, cdM, ctM', oslM, rfl, lkM, hcM, _, _⟩ := FM.ex
  refine okCd F hcode scJoi (fun vs H Q E h => ?_) (fun A outer s H vs Q E hr h => ?_)
  · obtain ⟨p, c, v, l, q, n, h0, ht, hs, ps, m, qs, rfl, _⟩ := h
    rfl
  · obtain ⟨p, c, v, l, q, n, h0, ht, hs, ps, m, qs, rfl, hS, hn, hT, L, k⟩ := h
    refine' ⟨_, PSs.nox (pss_cons (ps_asg (pe_call GV (hr.mono (by decide)) (by rfl) gV kVl bV .nil pass0 (pa_cons (pv 0) (pa_cons pe_int pa_nil))) (pg_tup (by rfl) (pgs_cons (pg_name (i := 4) scJoi.nd rfl (.inr rfl)) (pgs_cons (pg_name (i := 5) scJoi.nd rfl (.inl rfl)) pgs_nil))))
      (pss_cons (ps_asg (pe_tup (pa_cons (pe_make MN GI (hr.mono (by decide)) (by rfl) gN bI .nil pass0 (pa_cons (pv 4) (pa_cons (pv 5) pa_nil))) (pa_cons (pe_call GP (hr.mono (by decide)) (by rfl) gP kP bP .nil pass0 (pa_cons (pv 0) (pa_cons (pv 2) pa_nil))) (pa_cons (pe_call GP (hr.mono (by decide)) (by rfl) gP kP bP .nil pass0 (pa_cons (pv 0) (pa_cons (pv 4) pa_nil))) pa_nil)))) (pg_tup (by rfl) (pgs_cons (pg_name (i := 6) scJoi.nd rfl (.inr rfl)) (pgs_cons (pg_name (i := 7) scJoi.nd rfl (.inr rfl)) (pgs_cons (pg_name (i := 8) scJoi.nd rfl (.inr rfl)) pgs_nil)))))
      (pss_cons ?l1
      (Evl.pss_cut (ps_set (i := 10) scJoi.nd rfl (.inl rfl) ?m1)
      (Evl.pss_cut (ps_if (PW.pt (pw_and (pt_cmpR (op_neD hr.units) (pv 9) (pe_lst pa_nil) (nomark _)) (pw_and1 (pt_not (pt_val (pe_call (GE 5) (hr.mono (by decide)) (by rfl) gE kE bE .nil pass0 (pa_cons (pv 10) (pa_cons (pe_tup (pa_cons pe_str (pa_cons (pe_ix ix_list (pv 9) pe_int (fun _ _ => rfl)) pa_nil))) pa_nil)))))))) (pss_one (ps_ret pe_bl)) pss_nil)
      (pss_cons (ps_set (i := 11) scJoi.nd rfl (.inr rfl) (pe_callTy (call_dictP rfl) (by rfl) gDict (by decide +kernel) (pa_cons ?l2 pa_nil)))
      (pss_cons (ps_set (i := 12) scJoi.nd rfl (.inl rfl) (pe_make MN GI (hr.mono (by decide)) (by rfl) gN bI .nil pass0 (pa_cons ?l3 (pa_cons ?l4 pa_nil))))
      (pss_cons (ps_set (i := 13) scJoi.nd rfl (.inl rfl) (pe_op op_cat (pe_op op_cat (pv 3) (pe_meth0 (pv 12) vc.cl mT GT (hr.mono (by decide)) bT .nil pass0)) (pe_lst (pa_cons (pe_tup (pa_cons (pv 7) (pa_cons (pe_dget (hu_of hr) (pv 11) (pv 8) (fun _ _ => rfl)) pa_nil))) pa_nil))))
      (pss_cons (ps_if (pt_not (pt_cmpR (op_own GQ eQ iQ bQ pass0 (hr.mono (by decide))) (pe_callS GO (hr.mono (by decide)) (by rfl) gO kO bO (fun σ => passAt takes0 σ) (pa_cons (pv 1) (pa_cons (pv 12) (pa_cons (pv 7) (pa_cons (pe_dget (hu_of hr) (pv 11) (pv 8) (fun _ _ => rfl)) pa_nil))))) (pe_make MN GI (hr.mono (by decide)) (by rfl) gN bI .nil pass0 (pa_cons (pe_op op_cat (pv 2) (pe_meth0 (pv 12) vc.cl mH GH (hr.mono (by decide)) bH .nil pass0)) (pa_cons (pv 13) pa_nil))) (nomark _))) (pss_one (ps_ret pe_bl)) pss_nil)
      (pss_cons (ps_if (pt_not (pt_cmpR (op_own GQ eQ iQ bQ pass0 (hr.mono (by decide))) (pe_callS GR (hr.mono (by decide)) (by rfl) gR kR bR (fun σ => passAt takes0 σ) (pa_cons (pv 6) (pa_cons (pv 11) pa_nil))) (pv 12) (nomark _))) (pss_one (ps_ret pe_bl)) pss_nil)
      (pss_cons (ps_for PassesOwn.never rfl (pi_tup (pe_tup (pa_cons pe_str (pa_cons pe_str (pa_cons pe_non (pa_cons pe_int (pa_cons pe_bl (pa_cons (pe_lst pa_nil) (pa_cons pe_dnewK pa_nil))))))))) (pg_name (i := 14) scJoi.nd rfl (.inr rfl))
        (pss_cons (ps_set (i := 10) scJoi.nd rfl (.inl rfl) (pe_lst (pa_cons ?m2 pa_nil)))
        (pss_cons (ps_expr (pe_bm PySem.F.plainAttrs_list PySem.F.slot_list_append PySem.F.type_list_append mt_append (pv 10) (pa_cons ?m3 pa_nil)))
        (pss_one (ps_if (pt_not (pt_val (pe_call (GE 6) (hr.mono (by decide)) (by rfl) gE kE bE .nil pass0 (pa_cons (pv 10) (pa_cons (pe_op op_rep (pe_lst (pa_cons (pe_tup (pa_cons pe_str (pa_cons (pv 14) pa_nil))) pa_nil)) pe_int) pa_nil))))) (pss_one (ps_ret pe_bl)) pss_nil)))))
      (pss_one (ps_ret pe_bl))))))))))))), ?rd⟩
    case l1 =>
      refine ps_setLc (i := 9) (own := [("name", 15)]) (g := gName 15) (tt := tTest (tOp (rIn K false) (tVar 15) (tVar 4))) (te := tVar 15) (by rfl) scJoi.nd rfl rfl (sw_true rfl rfl rfl (by decide +kernel)) (pi_list (pe_callB cr_sortedS (by rfl) gSo (by decide +kernel) (pa_cons (pv 2) pa_nil)))
        (blkOk_by (own := [("name", 15)]) (N := nmJoi) (sc := defScope sJoi) (by decide +kernel)) (fun _ _ _ _ _ => pg_name (i := 15) scJoi.nd rfl (.inl rfl)) (fun _ _ _ _ _ => pts_one (pt_cmpR op_in_seq (pv 15) (pv 4) rfl)) ?_
      intro _ _ _ _ _
      exact pv 15
    case l2 =>
      refine pe_lc (own := [("at", 16), ("name", 15)]) (g := gTup K 2 (gCons (gName 16) (gCons (gName 15) gNil))) (tt := tYes) (te := tTup (tCons (tVar 15) (tCons (tOp (fun x y H Q => ∃ i j, x = V.str i ∧ y = V.str j ∧ i.length + j.length ≤ sizeLine ∧ Q (.str (i ++ j)) H) (tC (.str "x")) (tCB (fun xs H Q => ∃ i : Int, xs = [.int i] ∧ i.natAbs.log2 < 1920 ∧ Q (.str (toString i)) H) (tCons (tVar 16) tNil))) tNil))) rfl scJoi.nd (pi_enumA (by rfl) gEn (pa_cons (pv 4) pa_nil))
        (blkOk_by (own := [("at", 16), ("name", 15)]) (N := nmJoi) (sc := defScope sJoi) (by decide +kernel)) (fun _ _ _ _ _ => pg_tup rfl (pgs_cons (pg_name (i := 16) scJoi.nd rfl (.inl rfl)) (pgs_cons (pg_name (i := 15) scJoi.nd rfl (.inl rfl)) pgs_nil))) (fun _ _ _ _ _ => pts_nil) ?_
      intro _ _ _ _ _
      exact pe_tup (pa_cons (pv 15) (pa_cons (pe_op op_add_str pe_str (pe_callTy call_str_int (by rfl) gStr (by decide +kernel) (pa_cons (pv 16) pa_nil))) pa_nil))
    case l3 =>
      refine pe_lc (own := [("name", 15)]) (g := gName 15) (tt := tYes) (te := tDGet (tVar 11) (tVar 15)) rfl scJoi.nd (pi_list (pv 4))
        (blkOk_by (own := [("name", 15)]) (N := nmJoi) (sc := defScope sJoi) (by decide +kernel)) (fun _ _ _ _ _ => pg_name (i := 15) scJoi.nd rfl (.inl rfl)) (fun _ _ _ _ _ => pts_nil) ?_
      intro _ _ _ _ _
      exact pe_dget (hu_of hr) (pv 11) (pv 15) (fun _ _ => rfl)
    case l4 =>
      refine pe_lc (own := [("one", 17), ("other", 18)]) (g := gTup K 2 (gCons (gName 17) (gCons (gName 18) gNil))) (tt := tYes) (te := tTup (tCons (tDGet (tVar 11) (tVar 17)) (tCons (tDGet (tVar 11) (tVar 18)) tNil))) rfl scJoi.nd (pi_list (pv 5))
        (blkOk_by (own := [("one", 17), ("other", 18)]) (N := nmJoi) (sc := defScope sJoi) (by decide +kernel)) (fun _ _ _ _ _ => pg_tup rfl (pgs_cons (pg_name (i := 17) scJoi.nd rfl (.inl rfl)) (pgs_cons (pg_name (i := 18) scJoi.nd rfl (.inl rfl)) pgs_nil))) (fun _ _ _ _ _ => pts_nil) ?_
      intro _ _ _ _ _
      exact pe_tup (pa_cons (pe_dget (hu_of hr) (pv 11) (pv 17) (fun _ _ => rfl)) (pa_cons (pe_dget (hu_of hr) (pv 11) (pv 18) (fun _ _ => rfl)) pa_nil))
    case m1 =>
      exact Lm.pe_lamT (Pre := fun _ => True) (qs := []) (P := T) (lv := 6) (Ng := ["ask", "e"]) (t := fun E => tCallS (spJoinV C CN CC) (WE fun cls d _ H => E cls d H) (tCons (tVar 1) (tCons (tVar 6) (tCons (tVar 7) (tCons (tVar 8) tNil))))) (by rfl) gM kM lkM hcM bM scMet rfl (.inl rfl) (met_gives T1 T2 T3 T4 T5 T6) (fun pins σ H s I _ => ⟨TB.code.keeps I.bk, TB.bm.keeps I.bk, TB.gP⟩) rfl (fun H H1 Y _ g hY t => True.intro) (hr.mono (by decide)) (LamX.lamS_by (sc := defScope sJoi) (by decide +kernel)) rfl (fun _ _ _ _ _ => rfl)
        (fun A outer s H E f c' hr5 => pe_callS GO hr5 (by rfl) gO kO bO (fun σ => passAt (takes_of rfl rfl rfl rfl) σ) (pa_cons (pv 1) (pa_cons (pv 6) (pa_cons (pv 7) (pa_cons (pv 8) pa_nil)))))
    case m2 =>
      exact Lm.pe_lamT (Pre := fun _ => True) (qs := []) (P := T) (lv := 6) (Ng := ["ask", "e"]) (t := fun E => tCallS (spJoinV C CN CC) (WE fun cls d _ H => E cls d H) (tCons (tVar 1) (tCons (tVar 1) (tCons (tVar 14) (tCons (tC .non) tNil))))) (by rfl) gM kM lkM hcM bM scMet rfl (.inl rfl) (met_gives T1 T2 T3 T4 T5 T6) (fun pins σ H s I _ => ⟨TB.code.keeps I.bk, TB.bm.keeps I.bk, TB.gP⟩) rfl (fun H H1 Y _ g hY t => True.intro) (hr.mono (by decide)) (LamX.lamS_by (sc := defScope sJoi) (by decide +kernel)) rfl (fun _ _ _ _ _ => rfl)
        (fun A outer s H E f c' hr5 => pe_callS GO hr5 (by rfl) gO kO bO (fun σ => passAt (takes_of rfl rfl rfl rfl) σ) (pa_cons (pv 1) (pa_cons (pv 1) (pa_cons (pv 14) (pa_cons pe_non pa_nil)))))
    case m3 =>
      exact Lm.pe_lamT (Pre := fun _ => True) (qs := []) (P := T) (lv := 6) (Ng := ["ask", "e"]) (t := fun E => tCallS (spJoinV C CN CC) (WE fun cls d _ H => E cls d H) (tCons (tVar 1) (tCons (tVar 1) (tCons (tVar 7) (tCons (tVar 14) tNil))))) (by rfl) gM kM lkM hcM bM scMet rfl (.inl rfl) (met_gives T1 T2 T3 T4 T5 T6) (fun pins σ H s I _ => ⟨TB.code.keeps I.bk, TB.bm.keeps I.bk, TB.gP⟩) rfl (fun H H1 Y _ g hY t => True.intro) (hr.mono (by decide)) (LamX.lamS_by (sc := defScope sJoi) (by decide +kernel)) rfl (fun _ _ _ _ _ => rfl)
        (fun A outer s H E f c' hr5 => pe_callS GO hr5 (by rfl) gO kO bO (fun σ => passAt (takes_of rfl rfl rfl rfl) σ) (pa_cons (pv 1) (pa_cons (pv 1) (pa_cons (pv 7) (pa_cons (pv 14) pa_nil)))))
    case rd =>
      have M0 : Ws mg qlJ T p c H n H := .start hS hT
      have hl8 := L.hl
      have nl := wo_ne L.lat
      refine ⟨_, rfl, p, c, n, 5, rfl, hS, by omega, by decide, by decide, fun t a_ b_ os zs H1 ht ha hb hq0 ht1 ha1 hb1 hP1 Tr1 hne1 h5 hgd hql kp1 s1 => ?_⟩
      refine ⟨t, _, rfl, SqT.of ht1, rfl, _, _, rfl, _, _, rfl, rfl, ?_⟩
      have M1 := M0.kp kp1 s1
      have na := M0.ne ha
      have oa := wo_at (T := T) ha1 (M0.ne ha).1 (M0.ne ha).2.1 (M0.ne ha).2.2
      have ob := wo_at (T := T) hb1 (M0.ne hb).1 (M0.ne hb).2.1 (M0.ne hb).2.2
      have oz : PrsAt (wo p c T H1) zs := fun r hr => wo_at (hP1 r hr) (M0.ne (hq0 r hr)).1 (M0.ne (hq0 r hr)).2.1 (M0.ne (hq0 r hr)).2.2
      have zl : zs.length ≤ 5 := by omega
      -- second
      refine ⟨_, rfl, _, rfl, fun u dx hu hdx hne => mkV (tl := false) (tq := false) ve.cl ve.n1 ve.n2 vc.n3 ha1 hb1 (fun r hr => ⟨true, hP1 r hr⟩) Tr1 hne1 (by omega) (by omega) (fun h hh => good_nm (hgd h hh)) hu hdx hne fun H2 ks ps2 m2 x2 V2 fr2 p2 so2 pp2 pw2 T2 => ⟨rfl, ?_⟩⟩
      have M2 := M1.ex x2
      have Vu := V2.wo (p := p) (c := c) (T := T) fr2 (fun b hb => M1.ne hb) hu
      have oa := wo_ex (p := p) (c := c) (T := T) x2 _ _ oa
      have ob := wo_ex (p := p) (c := c) (T := T) x2 _ _ ob
      have oz := oz.ex (wo_ex (p := p) (c := c) (T := T) x2)
      refine ⟨_, rfl, _, rfl, p, c, l, _, _, rfl, M2.str, by omega, nl.1, nl.2.1, .inl (M2.get L.lat), by rw [List.length_map]; exact Nat.succ_pos _, by rw [List.length_map]; exact Nat.lt_of_le_of_lt hl8 (by decide), fun x j H3 hj kp3 s3 => ?_⟩
      obtain ⟨a, ham, rfl⟩ := List.mem_map.mp (List.mem_of_getElem? hj)
      have M3 := M2.kp kp3 s3
      have Vu := Vu.ex (wo_kp (T := T) kp3)
      have oa := wo_kp (T := T) kp3 _ _ oa
      have ob := wo_kp (T := T) kp3 _ _ ob
      have oz := oz.ex (wo_kp (T := T) kp3)
      refine ⟨_, rfl, _, rfl, p, c, a_, _, _, rfl, M3.str, by omega, na.1, na.2.1, .inl (wo_to _ _ oa), by rw [List.length_map]; exact List.length_pos_iff.mpr hne1, by rw [List.length_map]; exact Nat.lt_of_le_of_lt h5 (by decide), fun x j H4 hj kp4 s4 => ?_⟩
      obtain ⟨b, hbm, rfl⟩ := List.mem_map.mp (List.mem_of_getElem? hj)
      have M4 := M3.kp kp4 s4
      have Vu := Vu.ex (wo_kp (T := T) kp4)
      have oa := wo_kp (T := T) kp4 _ _ oa
      have ob := wo_kp (T := T) kp4 _ _ ob
      have oz := oz.ex (wo_kp (T := T) kp4)
      refine ⟨by show 3 ≤ sizeLine; decide, fun tt htt => ⟨tt, _, rfl, SqT.of upd_same, rfl, _, _, rfl, _, _, rfl, _, _, rfl, rfl, ?_⟩⟩
      have M5 := M4.ex (Evl.Ex.new (o := .tup [V.ref u, V.str a, V.str b]) htt)
      have x5 := wo_ex (p := p) (c := c) (T := T) (Evl.Ex.new (o := .tup [V.ref u, V.str a, V.str b]) htt)
      have Vu := Vu.ex x5
      have oa := x5 _ _ oa
      have ob := x5 _ _ ob
      have oz := oz.ex x5
      generalize upd H4 tt (.tup [V.ref u, V.str a, V.str b]) = H5 at M5 Vu oa ob oz ⊢
      clear x5 htt M0 M1 M2 M3 M4 kp1 kp3 kp4 s1 s3 s4 hj V2 fr2 x2 hu hdx hne ht ha hb hq0 ht1 ha1 hb1 hP1
      -- common
      have N5 := M5.now
      have fl : (os.map V.str).all flatV = true := List.all_eq_true.mpr fun y hy => by
        obtain ⟨z, _, rfl⟩ := List.mem_map.mp hy
        rfl
      have L5 := L.ex M5.k
      refine ⟨_, rfl, l, _, rfl, SqL.of (M5.get L.lat), by omega, fun ys sp hys hysr hsp => ⟨sp, rfl, ⟨_, SqL.of upd_same⟩, fun DD hDD => ?_⟩⟩
      obtain rfl : ys = hs := sorted_one (sorted_pw hysr) (sorted_pw L.sor) (hys.trans L.per.symm)
      have zs0 := Evl.Ex.new (o := .lst (ys.map V.str)) hsp
      have zD := Evl.Ex.new (o := .lst []) hDD
      have hv8 := L.vh
      refine lc_it (walk_list (xs := ys.map V.str)) (fun i H' => Evl.Ex H5 H' ∧ H' sp = some (.lst (ys.map V.str)) ∧ H' DD = some (.lst (((ys.take i).filter fun h => decide (h ∈ os)).map V.str))) ⟨zs0.trans zD, zD _ _ upd_same, upd_same⟩ (fun i H' _ hp => SqL.of hp.2.1) (fun i x H6 H7 hi hp hy => ?_) (fun H6 hp => ?_)
      · obtain ⟨x5, s5, d5⟩ := hp
        obtain ⟨rfl, hy⟩ := hy
        rw [List.length_map] at hi
        obtain ⟨y, hyy⟩ := getD_of hi
        rw [List.getElem?_map, hyy] at hy
        cases hy
        have W5 := N5.ex x5
        have tk : ys.take (i + 1) = ys.take i ++ [y] := by rw [List.take_add_one, hyy]; rfl
        have hDD4 : H5 DD = none := none_of (fun o z => zs0 _ _ z) hDD
        refine ⟨rfl, _, rfl, _, rfl, a_, _, rfl, .inl (SqL.of (W5.get oa)), rfl, fl, _, rfl, ?_⟩
        rw [if_neg (by simp), in_strs]
        have spD : sp ≠ DD := fun z => by rw [z, upd_same] at hDD; cases hDD
        by_cases hy : y ∈ os
        · rw [decide_eq_true hy]
          refine iteT ⟨_, rfl, _, d5, ?_, ex_upd x5 hDD4, by rw [upd_ne spD]; exact s5, ?_⟩
          · rw [List.length_map]
            exact Nat.lt_of_le_of_lt (Nat.le_trans (List.length_filter_le _ _) (show _ ≤ 12 by rw [List.length_take]; omega)) (by decide)
          · rw [upd_same, tk, List.filter_append, List.map_append, show [y].filter (fun h => decide (h ∈ os)) = [y] by simp [hy]]
            rfl
        · rw [decide_eq_false hy]
          refine iteF ⟨x5, s5, ?_⟩
          rw [d5, tk, List.filter_append, show [y].filter (fun h => decide (h ∈ os)) = [] by simp [hy], List.append_nil]
      · obtain ⟨x5, s5, d5⟩ := hp
        rw [List.length_map, List.take_length] at d5
        have M6 := M5.ex x5
        have nD := (M5.ex zs0).ne hDD
        have C6 := wo_at (p := p) (c := c) (T := T) d5 nD.1 nD.2.1 nD.2.2
        have x56 := wo_ex (p := p) (c := c) (T := T) x5
        have Vu := Vu.ex x56
        have oa := x56 _ _ oa
        have ob := x56 _ _ ob
        have oz := oz.ex x56
        have L6 := L.ex M6.k
        have N6 := M6.now
        clear s5 zs0 zD hsp hDD nD d5 x5 x56 L5 N5 M5
        let FF : Hp → Addr → Prop := fun H' fo => ∀ c1 ar, (ys.filter fun h => decide (h ∈ os)) = c1 :: ar → wo p c T H' fo = some (.tup [.str "common", .str c1])
        have FFe : ∀ H' H'' fo, FF H' fo → Evl.Ex (wo p c T H') (wo p c T H'') → FF H'' fo := fun H' H'' fo h x c1 ar e => x _ _ (h c1 ar e)
        let σ1 : Addr → L2.St := fun fo => [some (.ref p), some (.ref v), some (.ref l), some (.ref q), some (.ref a_), some (.ref b_), some (.ref u), some (.str a), some (.str b), some (.ref DD), some (.ref fo), none, none, none, none, none, none, none, none]
        have hav : a ∈ ys := L.per.mem_iff.mpr ham
        have hbk : b ∈ ks := p2.mem_iff.mpr hbm
        have kl : ks.length ≤ 5 := by rw [p2.length_eq]; exact h5
        have pl2 : ps2.length ≤ 5 := by have := pp2.length_eq; rw [List.length_map, List.length_map] at this; omega
        have kgd : ∀ h ∈ ks, h ∈ names12 := fun h hh => hgd h (p2.mem_iff.mp hh)
        refine ⟨fun σ H' => ∃ fo, σ = σ1 fo ∧ Ws mg qlJ T p c H6 (n + 200 + 1 + 1) H' ∧ FF H' fo, ?_, ?_⟩
        · refine ⟨trivial, N6.tab, fun G2 g2 Tg => ?_⟩
          have M2 := N6.grow g2 Tg
          have V2 := (L6.ex M2.k).ex wo_to
          have U2 := (Vu.ex M2.k).ex wo_to
          refine ⟨_, rfl, _, rfl, _, rfl, _, rfl, v, u, .str a, .str b, _, _, ys, ks, ps, ps2, m, m2, rfl, V2.vil, U2, L.vt, T2, by omega, by have := L.vp; omega, fun h hh => good_nm (L.vg h hh), fun h hh => good_nm (kgd h hh), .str a, .str b, fun z => absurd z (by rw [show isHouse ys (.str a) = true from decide_eq_true hav]; simp), fun _ z => absurd z (by rw [show isHouse ks (.str b) = true from decide_eq_true hbk]; simp), fun a2 b2 ea eb ha2 hb2 => ⟨fun c1 hc1 H' d hb hd => ?_, fun dis H' o hs' ps' m' x2 ho V' fr c1 c2 c3 c4 T' => ⟨by show 2 ≤ sizeLine; decide, fun fo hfo => ?_⟩⟩⟩
          · refine R.m5 (H1 := G2) (fun X2 r2 e2 hr2' hr2 => ?_) hb hd
            have n2 := M2.ne hr2'
            refine ⟨r2, rfl, M2.ex e2, fun c2 ar e => ?_⟩
            have : c1 = c2 := by
              have h1 : (ys.filter fun h => decide (h ∈ os)).head? = some c2 := by rw [e]; rfl
              rw [List.head?_filter] at h1
              have pf : (fun h => decide (h ∈ os)) = fun h => decide (h ∈ ks) := funext fun h => decide_eq_decide.mpr p2.mem_iff.symm
              rw [pf, hc1] at h1
              exact Option.some.inj h1
            rw [← this]
            exact wo_at hr2 n2.1 n2.2.1 n2.2.2
          · refine ⟨fo, rfl, (M2.ex x2).ex (Evl.Ex.new hfo), fun c2 ar e => ?_⟩
            have : c2 ∈ ys.filter fun h => decide (h ∈ os) := by rw [e]; exact List.mem_cons_self
            obtain ⟨m1, m2'⟩ := List.mem_filter.mp this
            exact absurd (p2.mem_iff.mpr (of_decide_eq_true m2')) (dis c2 m1)
        rintro σ H7 ⟨fo, rfl, M7, hFF⟩
        refine ⟨fun σ H' => ∃ fo, σ = σ1 fo ∧ Ws mg qlJ T p c H6 (n + 200 + 1 + 1) H', ?_, ?_⟩
        · have okF : SeqAt.shaped (.list ((ys.filter fun h => decide (h ∈ os)).map PyData.str)) = true := shaped_strs _ fun z hz => good_ok z (L.vg z (List.mem_filter.mp hz).1)
          refine ⟨_, rfl, Nat.zero_le _, fun e8 he8 => ?_⟩
          have z2 := Evl.Ex.new (o := .lst []) he8
          have M8 := M7.ex z2
          have F8 := FFe _ _ _ hFF (wo_ex z2)
          refine ⟨_, _, .lst (SqL.of (M8.get C6)) (dpa_strs _), .lst (SqL.of upd_same) .nil, okF, shaped_strs [] (fun t ht => by cases ht), _, rfl, ?_⟩
          generalize upd H7 e8 (.lst []) = H8 at M8 F8 ⊢
          cases hfl : ys.filter fun h => decide (h ∈ os) with
          | nil =>
            rw [show PyData.eqv (.list (([] : List Str).map PyData.str)) (.list []) = true from by simp [PyData.eqv, PyData.eqvAll]]
            exact iteF ⟨fo, rfl, M8⟩
          | cons c1 ar =>
            rw [show PyData.eqv (.list ((c1 :: ar).map PyData.str)) (.list []) = false from by simp [PyData.eqv, PyData.eqvAll]]
            have A8 := M8.get C6
            rw [hfl] at A8
            have hfo := F8 c1 ar hfl
            refine iteT ⟨_, rfl, _, rfl, DD, _, 0, _, rfl, rfl, SqL.of A8, atI_nat (j := 0) rfl, by show 2 ≤ sizeLine; decide, fun ta hta => ?_⟩
            have z3 := Evl.Ex.new (o := .tup [V.str "common", .str c1]) hta
            refine ⟨_, _, rfl, .inr (.inr (.inl ⟨fo, ta, _, _, rfl, rfl, .inl (z3 _ _ (wo_to _ _ hfo)), upd_same, by show 2 ≤ 1000; decide, .cons (.inl ⟨rfl, rfl⟩) (.cons (.inl ⟨rfl, rfl⟩) .nil)⟩)), fun G x9 => ⟨_, rfl, iteF ?_⟩⟩
            exact ⟨fo, rfl, (M8.ex z3).ex x9⟩
        clear M7 hFF fo H7
        rintro σ H7 ⟨fo, rfl, M7⟩
        -- lead
        have M7a := M7.get oa
        obtain ⟨fgd, finj⟩ := nthX_ok Tr1.nd h5
        have oz7 := (oz.ex M7.k).ex wo_to
        have fat : ∀ i z, os[i]? = some z → nthX os 0 z = xN i := fun i z h => by rw [nthX_at Tr1.nd h, Nat.zero_add]
        generalize nthX os 0 = f1 at fgd finj fat ⊢
        refine ⟨_, rfl, false, a_, _, rfl, SqL.of M7a, fun D0 hD0 => ?_⟩
        refine lc_it (walk_enumA (xs := os.map V.str)) (fun i H' => Evl.Ex H7 H' ∧ ∃ us : PrL, H' D0 = some (.lst (refsL us)) ∧ PrsAt H' us ∧ us.map (·.2) = (os.take i).map (fun z => (z, f1 z)) ∧ us.length = i) ⟨Evl.Ex.new hD0, [], upd_same, fun _ h => (by cases h), rfl, rfl⟩ (fun i H' _ hp => SqL.of (hp.1 _ _ M7a)) (fun i x H8 H9 hi hp hy => ?_) (fun H8 hp => ?_)
        · obtain ⟨x8, us, d1, d2, d3, d4⟩ := hp
          obtain ⟨t, i1, z, rfl, ht, rfl, hu, hz⟩ := hy
          injection hu with hu
          subst hu
          rw [List.length_map] at hi
          obtain ⟨z, hz0⟩ := getD_of hi
          have hz : (os.map V.str)[i]? = some _ := hz
          rw [List.getElem?_map, hz0] at hz
          cases hz
          have xt := Evl.Ex.new (o := .tup [.int (i : Nat), V.str z]) ht
          refine ⟨t, _, rfl, SqT.of upd_same, rfl, _, _, rfl, _, _, rfl, rfl, rfl, _, rfl, _, rfl, (i : Nat), rfl, ?_, ?_⟩
          · rw [Int.natAbs_natCast]
            exact Nat.lt_of_le_of_lt (Nat.log2_le_self i) (by omega)
          have x9 := x8.trans xt
          have d1 := xt _ _ d1
          have d2 := d2.ex xt
          generalize upd H8 t (.tup [.int (i : Nat), V.str z]) = H9 at x9 d1 d2 ⊢
          refine ⟨_, _, rfl, rfl, Nat.le_trans (xN_len i (by omega)) (by decide), by show 2 ≤ sizeLine; decide, fun e he => ?_⟩
          have hDe : D0 ≠ e := ne_of_none d1 he
          refine ⟨_, by rw [upd_ne hDe]; exact d1, ?_, ex_upd (x9.trans (Evl.Ex.new he)) hD0, us ++ [(e, z, f1 z)], ?_, fun t ht => ?_, ?_, by rw [List.length_append, d4]; rfl⟩
          · unfold refsL
            rw [List.length_map, d4]
            exact Nat.lt_of_le_of_lt (show i ≤ 1000 by omega) (by decide)
          · rw [upd_same]
            unfold refsL
            rw [List.map_append]
            rfl
          · rcases List.mem_append.mp ht with ht | ht
            · have := d2 t ht
              rw [upd_ne (fun z => by rw [z, d1] at this; cases this), upd_ne (ne_of_none this he)]
              exact this
            · rw [List.mem_singleton.mp ht, upd_ne hDe.symm, fat i z hz0]
              exact upd_same
          · rw [List.map_append, d3, List.take_add_one, hz0, List.map_append]
            rfl
        · obtain ⟨x8, us, d1, d2, d3, d4⟩ := hp
          rw [List.length_map, List.take_length] at d3
          refine ⟨D0, us.map (·.1), tab os fun z => .str (f1 z), rfl, SqL.of (by rw [d1]; unfold refsL; rw [List.map_map]; rfl), pairs_tab d2 d3, fun ld hld => ?_⟩
          rw [show mergeK [] (tab os fun z => V.str (f1 z)) = tab os fun z => V.str (f1 z) from by
            have := merge_tab (g := fun z => V.str (f1 z)) os [] (by rw [List.nil_append]; exact Tr1.nd)
            rw [List.nil_append] at this
            exact this]
          have M8 := M7.ex x8
          have M9 := M8.ex (Evl.Ex.new (o := .dK (tab os fun z => V.str (f1 z))) hld)
          have G9 := M8.at_ (o := .dK (tab os fun z => V.str (f1 z))) hld
          have oz9 := (oz.ex M9.k).ex wo_to
          have oa9 := M9.get oa
          have ob9 := M9.get ob
          generalize upd H8 ld (.dK (tab os fun z => V.str (f1 z))) = H9 at M9 G9 oz9 oa9 ob9 ⊢
          clear M7 M7a oz7 fat x8 d1 d2 d3 d4 us M8 hld hD0
          -- third
          have get9 : ∀ {Hk : Hp}, Evl.Ex H9 Hk → ∀ z ∈ os, DGet Hk ld (kV (Sum.inr z)) (some (.str (f1 z))) := fun {Hk} e z hz => by
            have := DGet.k (k := Sum.inr z) (e _ _ (wo_to _ _ G9))
            rw [val_in hz] at this
            exact this
          refine ⟨_, rfl, a_, rfl, ⟨_, SqL.of oa9⟩, fun D1 hD1 => ?_⟩
          refine lc_it (walk_list (xs := os.map V.str)) (fun i H' => Evl.Ex H9 H' ∧ H' D1 = some (.lst (((os.take i).map f1).map V.str))) ⟨Evl.Ex.new hD1, upd_same⟩ (fun i H' _ hp => SqL.of (hp.1 _ _ oa9)) (fun i y H4 H5 hi2 hp hy => ?_) (fun H10 hp => ?_)
          · obtain ⟨x4, e2⟩ := hp
            obtain ⟨rfl, hy⟩ := hy
            rw [List.length_map] at hi2
            obtain ⟨h, hh⟩ := getD_of hi2
            rw [List.getElem?_map, hh] at hy
            cases hy
            refine ⟨rfl, _, rfl, _, rfl, ld, _, rfl, get9 x4 h (List.mem_of_getElem? hh), _, e2, ?_, ex_upd x4 hD1, ?_⟩
            · rw [List.length_map, List.length_map, List.length_take]
              exact Nat.lt_of_le_of_lt (show _ ≤ 1000 by omega) (by decide)
            · rw [upd_same, List.take_add_one, hh, List.map_append, List.map_append]
              rfl
          · obtain ⟨x10, e10⟩ := hp
            rw [List.length_map, List.take_length] at e10
            have b10 := x10 _ _ ob9
            refine ⟨_, rfl, b_, rfl, ⟨_, SqL.of b10⟩, fun D2 hD2 => ?_⟩
            refine lc_it (walk_list (xs := refsL zs)) (fun j H' => Evl.Ex H10 H' ∧ ∃ us : PrL, H' D2 = some (.lst (refsL us)) ∧ PrsAt H' us ∧ us.map (·.2) = mapP f1 ((zs.map (·.2)).take j) ∧ us.length = j) ⟨Evl.Ex.new hD2, [], upd_same, fun _ h => (by cases h), rfl, rfl⟩ (fun j H' _ hp => SqL.of (hp.1 _ _ b10)) (fun j x H6 H7 hj hp hy => ?_) (fun H11 hp => ?_)
            · obtain ⟨x6, us, d1, d2, d3, d4⟩ := hp
              obtain ⟨rfl, hx⟩ := hy
              unfold refsL at hj hx
              rw [List.length_map] at hj
              obtain ⟨t3, ht⟩ := getD_of hj
              rw [List.getElem?_map, ht] at hx
              cases hx
              obtain ⟨T, c1, c2⟩ := t3
              have htm := List.mem_of_getElem? ht
              have hT := x6 _ _ (x10 _ _ (oz9 _ htm))
              have tk : (zs.map (·.2)).take (j + 1) = (zs.map (·.2)).take j ++ [(c1, c2)] := by rw [List.take_add_one, List.getElem?_map, ht]; rfl
              have hm := Tr1.mem (.inl (List.mem_map.mpr ⟨_, htm, rfl⟩) : Adj _ c1 c2)
              refine ⟨T, _, rfl, SqT.of hT, rfl, _, _, rfl, _, _, rfl, rfl, rfl, _, rfl, _, rfl, ld, _, rfl, get9 (x10.trans x6) c1 hm.1, _, rfl, _, rfl, ld, _, rfl, get9 (x10.trans x6) c2 hm.2, by show 2 ≤ sizeLine; decide, fun u hu => ?_⟩
              have hBu : D2 ≠ u := ne_of_none d1 hu
              refine ⟨_, by rw [upd_ne hBu]; exact d1, ?_, ex_upd (x6.trans (Evl.Ex.new hu)) hD2, us ++ [(u, f1 c1, f1 c2)], by rw [upd_same]; unfold refsL; rw [List.map_append]; rfl, fun t ht => ?_, ?_, ?_⟩
              · unfold refsL
                rw [List.length_map]
                exact Nat.lt_of_le_of_lt (show us.length ≤ 1000 by omega) (by decide)
              · rcases List.mem_append.mp ht with ht | ht
                · have := d2 t ht
                  rw [upd_ne (fun z => by rw [z, d1] at this; cases this), upd_ne (ne_of_none this hu)]
                  exact this
                · rw [List.mem_singleton.mp ht, upd_ne hBu.symm]
                  exact upd_same
              · rw [tk, List.map_append, d3]
                unfold mapP
                rw [List.map_append]
                rfl
              · rw [List.length_append, List.length_singleton]
                omega
            · obtain ⟨x11, us, d1, d2, d3, d4⟩ := hp
              rw [List.take_of_length_le (by unfold refsL; rw [List.length_map, List.length_map]; exact Nat.le_refl _)] at d3
              have ul : us.length ≤ 5 := by rw [d4]; unfold refsL; rw [List.length_map]; exact zl
              refine fun w3 dx3 hw3 hdx3 hne3 => mkV (tl := false) (tq := false) (l := D1) (q := D2) (hs := os.map f1) (qs := us) ve.cl ve.n1 ve.n2 vc.n3 (x11 _ _ e10) d1 (fun r hr => ⟨true, d2 r hr⟩) (by rw [d3]; exact Tr1.map f1 finj) (fun z => hne1 (List.map_eq_nil_iff.mp z)) (by rw [List.length_map]; omega) (by omega) (fun z hz => ?_) hw3 hdx3 hne3 fun H12 hs3 ps3 m3 x12 V3 fr3 p3 so3 pp3 pw3 T3' => ⟨rfl, ?_⟩
              · obtain ⟨h, hh, rfl⟩ := List.mem_map.mp hz
                exact ⟨(fgd h hh).1, Nat.le_trans (nameOk_len (fgd h hh).1) (by decide)⟩
              rw [d3] at pp3
              have M12 := M9.ex ((x10.trans x11).trans x12)
              have M11 := M9.ex (x10.trans x11)
              have V3w := V3.wo (p := p) (c := c) (T := T) fr3 (fun b hb => M11.ne hb) hw3
              have G12 := wo_ex (p := p) (c := c) (T := T) ((x10.trans x11).trans x12) _ _ G9
              have fa : ∀ z ∈ hs3, nameOk z = true ∧ z ∉ names12 := fun z hz => by
                obtain ⟨h, hh, rfl⟩ := List.mem_map.mp (p3.mem_iff.mp hz)
                exact fgd h hh
              have l3 : hs3.length ≤ 5 := by rw [p3.length_eq, List.length_map]; exact h5
              have q3 : ps3.length ≤ 5 := by have := pp3.length_eq; unfold mapP at this; rw [List.length_map, List.length_map, List.length_map] at this; omega
              clear get9 M9 M11 G9 oz9 oa9 ob9 x10 e10 b10 x11 d1 d2 d3 d4 ul hD1 hD2 hw3 hdx3 hne3 x12 V3 fr3
              -- doors_due
              have V12 := V3w.ex wo_to
              have L12 := (L6.ex M12.k).ex wo_to
              have ql8 : (refsL qs).length ≤ 8 := by unfold refsL; rw [List.length_map]; exact L.ql
              have z3l : m3.zs.length ≤ 5 := by rw [← List.length_map (f := (·.2)), V12.eq]; exact q3
              have r3l : (refsL m3.zs).length ≤ 5 := by unfold refsL; rw [List.length_map]; exact z3l
              refine ⟨_, rfl, _, rfl, w3, m3.dx, _, rfl, V12.at_, rfl, w3, C, hs3, ps3, m3, rfl, vc.cl, vc.n2, V12, fun c1 hc1 => ?_⟩
              have y1 := Evl.Ex.new (o := .lst (refsL m3.zs)) hc1
              refine ⟨q, c1, _, _, rfl, rfl, y1 _ _ L12.qat, upd_same, Nat.le_trans (show _ + _ ≤ 13 by omega) (by decide), fun c2 hc2 => ?_⟩
              have y2 := Evl.Ex.new (o := .lst (refsL qs ++ refsL m3.zs)) hc2
              have hgb : DGet (upd (upd H12 c1 (.lst (refsL m3.zs))) c2 (.lst (refsL qs ++ refsL m3.zs))) ld (kV (Sum.inr b)) (some (.str (f1 b))) := by
                have := DGet.k (k := Sum.inr b) (y2 _ _ (y1 _ _ (wo_to _ _ G12)))
                rw [val_in hbm] at this
                exact this
              refine ⟨_, rfl, _, rfl, _, rfl, ld, _, rfl, hgb, by show 2 ≤ sizeLine; decide, fun t ht => ⟨by show 1 ≤ sizeLine; decide, fun c3 hc3 => ?_⟩⟩
              have y3 := Evl.Ex.new (o := .tup [V.str a, V.str (f1 b)]) ht
              have y4 := Evl.Ex.new (o := .lst [V.ref t]) hc3
              refine ⟨c2, c3, _, _, rfl, rfl, y4 _ _ (y3 _ _ upd_same), upd_same, Nat.le_trans (show (refsL qs ++ refsL m3.zs).length + 1 ≤ 14 by rw [List.length_append]; omega) (by decide), fun c4 hc4 => ?_⟩
              have y5 := Evl.Ex.new (o := .lst (refsL qs ++ refsL m3.zs ++ [V.ref t])) hc4
              have M13a := M12.ex (((y1.trans y2).trans y3).trans y4)
              have c4w := M13a.at_ (o := .lst (refsL qs ++ refsL m3.zs ++ [V.ref t])) hc4
              have tw : wo p c T (upd (upd (upd (upd (upd H12 c1 (.lst (refsL m3.zs))) c2 (.lst (refsL qs ++ refsL m3.zs))) t (.tup [V.str a, V.str (f1 b)])) c3 (.lst [V.ref t])) c4 (.lst (refsL qs ++ refsL m3.zs ++ [V.ref t]))) t = some (.tup [V.str a, V.str (f1 b)]) := by
                have n := (M12.ex (y1.trans y2)).ne ht
                exact wo_at (y5 _ _ (y4 _ _ upd_same)) n.1 n.2.1 n.2.2
              have M13 := M13a.ex y5
              have x1213 := wo_ex (p := p) (c := c) (T := T) ((((y1.trans y2).trans y3).trans y4).trans y5)
              have V13 := V3w.ex x1213
              have G13 := x1213 _ _ G12
              clear y1 y2 y3 y4 y5 M13a hc1 hc2 hc3 hc4 ht hgb x1213 V12 L12 V3w G12 M12
              generalize upd _ c4 _ = H13 at M13 c4w tw V13 G13 ⊢
              -- joined
              have hb3 : f1 b ∈ hs3 := p3.mem_iff.mpr (List.mem_map.mpr ⟨b, hbm, rfl⟩)
              have dis : ∀ h ∈ ys, h ∉ hs3 := fun h hh z => (fa h z).2 (L.vg h hh)
              have dis2 : ∀ h ∈ h0 :: ht, h ∉ hs3 := fun h hh z => (fa h z).2 (L.gd h hh)
              have gd3 : ∀ h ∈ hs3, nameOk h = true ∧ h.length ≤ 1000 := fun h hh => ⟨(fa h hh).1, Nat.le_trans (nameOk_len (fa h hh).1) (by decide)⟩
              have Lx := (L6.ex M13.k).ex wo_to
              have hgb : DGet H13 ld (kV (Sum.inr b)) (some (.str (f1 b))) := by
                have := DGet.k (k := Sum.inr b) (wo_to _ _ G13)
                rw [val_in hbm] at this
                exact this
              refine ⟨_, rfl, _, rfl, _, rfl, _, rfl, _, rfl, ld, _, rfl, hgb, v, w3, .str a, .str (f1 b), _, _, ys, hs3, ps, ps3, m, m3, rfl, Lx.vil, V13.ex wo_to, L.vt, T3', by omega, by have := L.vp; omega, fun h hh => good_nm (L.vg h hh), gd3, .str a, .str _, fun z => absurd z (by rw [show isHouse ys (.str a) = true from decide_eq_true hav]; simp), fun _ z => absurd z (by rw [show isHouse hs3 (.str (f1 b)) = true from decide_eq_true hb3]; simp), fun a2 b2 ea eb ha2 hb2 => ⟨fun c1 hc1 => absurd (of_decide_eq_true (p := c1 ∈ hs3) (List.find?_some (p := fun h => decide (h ∈ hs3)) hc1)) (dis _ (List.mem_of_find?_eq_some hc1)), fun _ H14 o hs' ps' m' x14 ho Vo fr d1 d2 d3 d4 To => ?_⟩⟩
              cases ea
              cases eb
              have M14 := M13.ex x14
              have V14 := (V13.ex wo_to).ex x14
              have L14 := (L6.ex M14.k).ex wo_to
              have hok3 : ∀ x ∈ hs3, PyData.strOk x = true := fun x hx => name_str (fa x hx).1
              have okm : ∀ (l k : List Str), l.Perm (k ++ hs3) → (∀ x ∈ k, x ∈ names12) → ∀ x ∈ l, PyData.strOk x = true := fun l k hp hk x hx => by
                rcases List.mem_append.mp (hp.mem_iff.mp hx) with hx | hx
                · exact good_ok x (hk x hx)
                · exact hok3 x hx
              refine ⟨_, rfl, _, rfl, w3, m3.dx, _, rfl, V14.at_, rfl, w3, C, hs3, ps3, m3, rfl, vc.cl, vc.n1, V14, fun e1 he1 => ?_⟩
              have y1 := Evl.Ex.new (o := .lst (hs3.map V.str)) he1
              refine ⟨l, e1, _, _, rfl, rfl, y1 _ _ L14.lat, upd_same, Nat.le_trans (show _ + _ ≤ 13 by rw [List.length_map, List.length_map]; omega) (by decide), fun e2 he2 => ?_⟩
              have y2 := Evl.Ex.new (o := .lst ((h0 :: ht).map V.str ++ hs3.map V.str)) he2
              have x1316 := x14.trans (y1.trans y2)
              have pe : (qs ++ m3.zs ++ [(t, a, f1 b)]).map (·.2) = qs.map (·.2) ++ ps3 ++ [(a, f1 b)] := by rw [List.map_append, List.map_append, V14.eq]; rfl
              have L13 := (L6.ex M13.k).ex wo_to
              refine ⟨_, rfl, fun w5 dx5 hw5 hdx5 hne5 => mkV (tl := false) (tq := false) (l := e2) (q := c4) (hs := (h0 :: ht) ++ hs3) (qs := qs ++ m3.zs ++ [(t, a, f1 b)]) ve.cl ve.n1 ve.n2 vc.n3 (show Lt _ false e2 _ from by rw [List.map_append]; exact upd_same) (show Lt _ false c4 _ from by rw [show ((qs ++ m3.zs ++ [(t, a, f1 b)]).map fun r => V.ref r.1) = refsL qs ++ refsL m3.zs ++ [V.ref t] from by unfold refsL; rw [List.map_append, List.map_append]; rfl]; exact x1316 _ _ (wo_to _ _ c4w)) (fun r hr => ⟨true, ?_⟩) (by rw [pe]; exact L.tr.join T3' dis2 ham hb3 (.inl rfl)) (by simp) (by rw [List.length_append]; omega) (by rw [List.length_append, List.length_append]; have := L.ql; show _ + _ + 1 ≤ 60; omega) (fun h hh => ?_) hw5 hdx5 hne5 fun H16 hs5 ps5 m5 x16 V5 fr5 p5 so5 pp5 pw5 T5' => ⟨rfl, ?_⟩⟩
              · rcases List.mem_append.mp hr with hr | hr
                · rcases List.mem_append.mp hr with hr | hr
                  · exact x1316 _ _ (L13.pr r hr)
                  · exact x1316 _ _ ((V13.ex wo_to).pr r hr)
                · rw [List.mem_singleton.mp hr]
                  exact x1316 _ _ (wo_to _ _ tw)
              · rcases List.mem_append.mp hh with hh | hh
                · exact good_nm (L.gd h hh)
                · exact gd3 h hh
              rw [pe] at pp5
              have pp : ((ps ++ ps3 ++ [(a, f1 b)]).map ordP).Perm ((qs.map (·.2) ++ ps3 ++ [(a, f1 b)]).map ordP) := by
                rw [List.map_append, List.map_append, List.map_append, List.map_append]
                exact (L.pp2.append_right _).append_right _
              refine own_vil ve (Vo.ex ((y1.trans y2).trans x16)) (okN_of To (okm _ _ d1 L.vg)) V5 (okN_of T5' (okm _ _ p5 L.gd)) ?_
              rw [same_vil d1 d2 p5 so5 (L.per.append_right _) d3 d4 pp5 pw5 pp]
              refine ⟨_, rfl, iteF ?_⟩
              have x1316 := x1316.trans x16
              have M16 := M13.ex x1316
              have V16 := V13.ex (wo_ex x1316)
              have G16 := wo_ex (p := p) (c := c) (T := T) x1316 _ _ G13
              clear M13 V13 G13 M14 V14 L14 y1 y2 x1316 x16 V5 fr5 p5 so5 pp5 pw5 T5' he1 he2 hw5 hdx5 hne5 x14 ho Vo fr d1 d2 d3 d4 To L13 pp pe okm hgb Lx c4w tw
              -- renamed
              have U16 := (Vu.ex M16.k).ex wo_to
              have ren : isRen ks (some (tab os fun z => .str (f1 z))) = true := tab_ren p2 Tr1.nd (fun z hz => (fgd z hz).1) finj
              refine ⟨_, rfl, _, rfl, u, .ref ld, some (tab os fun z => .str (f1 z)), ks, ps2, m2, rfl, U16, ⟨T2, by omega, by omega, fun h hh => good_nm (kgd h hh)⟩, dx_tab (wo_to _ _ G16) (by omega), short_tab fun z hz => (fgd z hz).1, fun z => absurd (ren.symm.trans z) (by simp), fun kvs ek _ f2 hf2 H17 o hs' ps' m' x17 ho Vo fr d1 d2 d3 d4 To => ?_⟩
              cases ek
              have ef : ∀ h ∈ ks, f2 h = f1 h := fun h hh => by
                have := hf2 h hh
                rw [val_in (p2.mem_iff.mp hh)] at this
                injection this with this
                exact (V.str.inj this).symm
              have e1 : ks.map f2 = ks.map f1 := List.map_congr_left ef
              have e2 : mapP f2 ps2 = mapP f1 ps2 := List.map_congr_left fun q hq => by
                have hm := T2.mem (.inl hq : Adj _ q.1 q.2)
                rw [ef _ hm.1, ef _ hm.2]
              rw [e1] at d1
              rw [e2] at d3
              have pp : ((mapP f1 ps2).map ordP).Perm ((mapP f1 (zs.map (·.2))).map ordP) := by
                have h : (mapP f1 ps2).Perm (mapP f1 ((zs.map (·.2)).map ordP)) := pp2.map _
                have := h.map ordP
                rw [mapP_ord] at this
                exact this
              refine ⟨_, rfl, own_vil ve Vo (okN_of To fun x hx => ?_) ((V16.ex wo_to).ex x17) (okN_of T3' fun x hx => hok3 x hx) ?_⟩
              · obtain ⟨z, hz, rfl⟩ := List.mem_map.mp (d1.mem_iff.mp hx)
                exact name_str (fgd z (p2.mem_iff.mp hz)).1
              rw [same_vil d1 d2 p3 so3 (p2.map f1) d3 d4 pp3 pw3 pp]
              refine ⟨_, rfl, iteF ?_⟩
              have M17 := M16.ex x17
              clear M16 V16 G16 U16 x17 ho Vo fr d1 d2 d3 d4 To hf2 ef e1 e2 pp ren
              -- odd ones
              refine ⟨by show 0 ≤ sizeLine; decide, fun l1 hl1 => fun d1 hd1 => ⟨by show 7 ≤ sizeLine; decide, fun tq htq => ?_⟩⟩
              have x1 := Evl.Ex.new (o := .lst []) hl1
              have x3 := Evl.Ex.new (o := .dK []) hd1
              have x4 := Evl.Ex.new (o := .tup [V.str "never", V.str "", V.non, V.int 5, V.bl true, V.ref l1, V.ref d1]) htq
              have l1T := M17.ne hl1
              have d1T := (M17.ex x1).ne hd1
              have tqT := (M17.ex (x1.trans x3)).ne htq
              have Mb := M17.ex ((x1.trans x3).trans x4)
              have g1 := wo_at (p := p) (c := c) (T := T) ((x3.trans x4) _ _ upd_same) l1T.1 l1T.2.1 l1T.2.2
              have g3 := wo_at (p := p) (c := c) (T := T) (x4 _ _ upd_same) d1T.1 d1T.2.1 d1T.2.2
              have g4 := wo_at (p := p) (c := c) (T := T) (upd_same (H := upd (upd H17 l1 (.lst [])) d1 (.dK [])) (a := tq) (o := .tup [V.str "never", V.str "", V.non, V.int 5, V.bl true, V.ref l1, V.ref d1])) tqT.1 tqT.2.1 tqT.2.2
              clear x1 x3 x4 hl1 hd1 htq l1T d1T tqT
              generalize upd _ tq _ = Hb at Mb g1 g3 g4 ⊢
              have Nb := Mb.now
              have Lb := L6.ex Mb.k
              have oddOk : ∀ u ∈ [V.str "never", V.str "", V.non, V.int 5, V.bl true, V.ref l1, V.ref d1], (∃ n, Pl (wo p c T Hb) u n) ∧ isHouse ys u = false ∧ ∀ H', Evl.Ex (wo p c T Hb) H' → Sm H' 4 u u := by
                have nn : ∀ z : Str, z ∉ names12 → isHouse ys (.str z) = false := fun z hz => decide_eq_false fun q => hz (L.vg z q)
                intro u hu
                simp only [List.mem_cons, List.not_mem_nil, or_false] at hu
                rcases hu with rfl | rfl | rfl | rfl | rfl | rfl | rfl
                · exact ⟨⟨_, .str _⟩, nn _ (by decide +kernel), fun _ _ => .inl ⟨rfl, rfl⟩⟩
                · exact ⟨⟨_, .str _⟩, nn _ (by decide +kernel), fun _ _ => .inl ⟨rfl, rfl⟩⟩
                · exact ⟨⟨_, .non⟩, rfl, fun _ _ => .inl ⟨rfl, rfl⟩⟩
                · exact ⟨⟨_, .int _⟩, rfl, fun _ _ => .inl ⟨rfl, rfl⟩⟩
                · exact ⟨⟨_, .bl _⟩, rfl, fun _ _ => .inl ⟨rfl, rfl⟩⟩
                · exact ⟨⟨_, .lst g1⟩, rfl, fun _ e => .inr (.inl ⟨l1, l1, [], [], rfl, rfl, e _ _ g1, e _ _ g1, Nat.zero_le _, .nil⟩)⟩
                · exact ⟨⟨_, .dic g3⟩, rfl, fun _ e => .inr (.inr (.inr (.inl ⟨d1, d1, [], rfl, rfl, e _ _ g3, e _ _ g3, (fun q hq => by cases hq), Nat.zero_le _, by decide⟩)))⟩
              generalize [V.str "never", V.str "", V.non, V.int 5, V.bl true, V.ref l1, V.ref d1] = xs at g4 oddOk ⊢
              have hia : isHouse ys (.str a) = true := decide_eq_true hav
              have hps := L.vp
              refine ⟨tq, rfl, ⟨_, SqT.of (wo_to _ _ g4)⟩, ?_⟩
              refine for_it (walk_tup (xs := xs)) (fun _ σ H' => ∃ v10 v14, σ = [some (.ref p), some (.ref v), some (.ref l), some (.ref q), some (.ref a_), some (.ref b_), some (.ref u), some (.str a), some (.str b), some (.ref DD), v10, some (.ref ld), some (.ref w3), some (.ref c4), v14, none, none, none, none] ∧ Ws mg qlJ T p c Hb (n + 200 + 1 + 1) H') ⟨_, _, rfl, Nb⟩ ?_ ?_ ?_
              · rintro i3 σ H' _ ⟨v10, v14, rfl, M⟩
                exact SqT.of (M.get g4)
              · rintro i3 od σ H2 H3 hi3 ⟨v10, v14, rfl, M⟩ ⟨rfl, hu⟩
                obtain ⟨⟨nu, hPu⟩, hnh, hsm⟩ := oddOk od (List.mem_of_getElem? hu)
                have uS : ∀ {X : Prop} (a : Str), od = .str a → a ∈ ys → X := fun a e hm => by
                  rw [e] at hnh
                  exact absurd (show isHouse ys (.str a) = true from decide_eq_true hm) (by rw [hnh]; simp)
                refine ⟨trivial, M.tab, fun G2 g2 T2 => ?_⟩
                have N2 := M.grow g2 T2
                have V2 := (Lb.ex N2.k).ex wo_to
                refine ⟨_, rfl, _, rfl, _, rfl, v, v, od, .non, _, _, ys, ys, ps, ps, m, m, rfl, V2.vil, V2.vil, L.vt, L.vt, by omega, by omega, fun h hh => good_nm (L.vg h hh), fun h hh => good_nm (L.vg h hh), (hPu.ext N2.k).ext wo_to, .non, fun _ H' d hb hd => ?_, fun z => absurd (hnh.symm.trans z) (by simp), fun a2 b2 ea eb ha2 => uS a2 ea ha2⟩
                refine R.m3 (H1 := G2) (fun X2 r2 e2 hr2' hr2 => ?_) hb hd
                have n2 := N2.ne hr2'
                have M3 := N2.ex e2
                refine ⟨by show 1 ≤ sizeLine; decide, fun F hF => ?_⟩
                have M4 := M3.now.ex (Evl.Ex.new (o := .lst [V.ref r2]) hF)
                have nF := M3.ne hF
                have F4 : upd X2 F (.lst [V.ref r2]) F = some (.lst [V.ref r2]) := upd_same
                have r4 : wo p c T (upd X2 F (.lst [V.ref r2])) r2 = some (.tup [.str "house", od]) := wo_ex (Evl.Ex.new hF) _ _ (wo_at hr2 n2.1 n2.2.1 n2.2.2)
                generalize upd X2 F (.lst [V.ref r2]) = H4 at M4 F4 r4 ⊢
                refine ⟨_, rfl, .inl ⟨rfl, _, SqL.of F4⟩, trivial, M4.tab, fun G3 g3 T3 => ?_⟩
                have N3 := M4.grow g3 T3
                have F5 := g3 _ _ nF.2.2 F4
                have r5 := wo_grow (p := p) (c := c) g3 _ _ r4
                have V3 := ((Lb.ex M3.k).ex N3.k).ex wo_to
                have P3 := ((hPu.ext M3.k).ext N3.k).ext wo_to
                refine ⟨_, rfl, _, rfl, _, rfl, _, rfl, v, v, .str a, od, _, _, ys, ys, ps, ps, m, m, rfl, V3.vil, V3.vil, L.vt, L.vt, by omega, by omega, fun h hh => good_nm (L.vg h hh), fun h hh => good_nm (L.vg h hh), .str a, P3, fun z => absurd (hia.symm.trans z) (by simp), fun _ _ H' d hb hd => ?_, fun a2 b2 ea eb ha2 hb2 => uS b2 eb hb2⟩
                refine R.m3 (H1 := G3) (fun X3 r3 e3 hr3' hr3 => ?_) hb hd
                have n3 := N3.ne hr3'
                have r6 := e3 _ _ (wo_to _ _ r5)
                have F6 := e3 _ _ F5
                have M6a := (N3.ex e3).mut (ys := [.ref r2] ++ [.ref r3]) F6 nF.1 nF.2.1 hF
                have ne2 : F ≠ r2 := fun z => by rw [z, hr2] at hF; cases hF
                have ne3 : F ≠ r3 := fun z => by rw [← z, F5] at hr3'; cases hr3'
                refine ⟨F, _, _, rfl, rfl, F6, by show 1 < sizeLine; decide, ?_⟩
                have M7 := M3.trans M6a
                have a2 : upd X3 F (.lst ([.ref r2] ++ [.ref r3])) r2 = some (.tup [.str "house", od]) := by rw [upd_ne ne2.symm]; exact r6
                have a3 : upd X3 F (.lst ([.ref r2] ++ [.ref r3])) r3 = some (.tup [.str "house", od]) := by rw [upd_ne ne3.symm]; exact hr3
                have aF : upd X3 F (.lst ([.ref r2] ++ [.ref r3])) F = some (.lst ([.ref r2] ++ [.ref r3])) := upd_same
                generalize upd X3 F (.lst ([.ref r2] ++ [.ref r3])) = H7 at M7 a2 a3 aF ⊢
                refine ⟨_, rfl, _, rfl, by show 2 ≤ sizeLine; decide, fun t ht => ⟨by show 1 ≤ sizeLine; decide, fun L1 hL1 => ?_⟩⟩
                have z1 := Evl.Ex.new (o := .tup [V.str "house", od]) ht
                have z2 := Evl.Ex.new (o := .lst [V.ref t]) hL1
                refine ⟨L1, 2, [V.ref t], rfl, rfl, upd_same, by decide, by decide, by show 1 * 2 ≤ sizeLine; decide, fun L2 hL2 => ?_⟩
                have z3 := Evl.Ex.new (o := .lst (List.replicate (2 : Int).toNat [V.ref t]).flatten) hL2
                have z := (z1.trans z2).trans z3
                have M8 := M7.ex z
                have sm2 := hsm _ (M8.k.trans wo_to)
                refine ⟨_, _, rfl, .inr (.inl ⟨F, L2, _, _, rfl, rfl, z _ _ aF, upd_same, by show 2 ≤ 1000; decide, .cons (.inr (.inr (.inl ⟨r2, t, _, _, rfl, rfl, .inl (z _ _ a2), z3 _ _ (z2 _ _ upd_same), by show 2 ≤ 1000; decide, .cons (.inl ⟨rfl, rfl⟩) (.cons sm2 .nil)⟩))) (.cons (.inr (.inr (.inl ⟨r3, t, _, _, rfl, rfl, .inl (z _ _ a3), z3 _ _ (z2 _ _ upd_same), by show 2 ≤ 1000; decide, .cons (.inl ⟨rfl, rfl⟩) (.cons sm2 .nil)⟩))) .nil)⟩), fun H9 x9 => ⟨_, rfl, iteF ?_⟩⟩
                exact ⟨_, _, rfl, M8.ex x9⟩
              · rintro σ H2 ⟨v10, v14, rfl, M20⟩
                exact k _ ((M6.trans (Mb.trans M20)).mono (by omega))
end
end K07

namespace K07
open PySem PySem.Spec PyProof.Rows L2 Tr Sq Dk Dt Exs Oeq
/-! ### what is no renaming; a list of such things gathered -/
def OddR (hs : List Str) (H : Hp) (y : V) : Prop := (∃ o, DX H y o ∧ ShortV o ∧ isRen hs o = false) ∧ Sm H 8 y y
theorem OddR.ex {hs : List Str} {H H' : Hp} {y : V} (h : OddR hs H y) (e : Evl.Ex H H') : OddR hs H' y := by
  obtain ⟨⟨o, h1, h2, h3⟩, h4⟩ := h
  exact ⟨⟨o, h1.ex e, h2, h3⟩, Sm.ex e _ _ _ h4⟩
theorem odd_pl {hs : List Str} {H : Hp} {x : V} {n : String} (h : Pl H x n) (hd : isB n "dict" = false) (sm : Sm H 8 x x) : OddR hs H x := ⟨⟨none, .not h hd, (fun kvs e => by cases e), rfl⟩, sm⟩
theorem odd_dic {hs ks : List Str} {H : Hp} {d : Addr} {g : Str → V} (h : H d = some (.dK (tab ks g))) (hv : ∀ k ∈ ks, (∃ n, Pl H (g k) n) ∧ g k ≠ .ref d ∧ (∀ z, g k = .str z → z.length ≤ 1000) ∧ Shv H (g k)) (bad : isRen hs (some (tab ks g)) = false) (hl : ks.length ≤ 1000) : OddR hs H (.ref d) := by
  have mem : ∀ p ∈ tab ks g, ∃ k ∈ ks, p = (Sum.inr k, g k) := fun p hp => by
    obtain ⟨k, hk, rfl⟩ := List.mem_map.mp hp
    exact ⟨k, hk, rfl⟩
  refine ⟨⟨some (tab ks g), .dic h (fun p hp => ?_) (fun p hp => ?_) (by rw [tab_length]; exact hl), fun kvs e z hz => ?_, bad⟩, .inr (.inr (.inr (.inl ⟨d, d, _, rfl, rfl, h, h, fun p hp => ?_, by rw [tab_length]; exact hl, by decide⟩)))⟩
  · obtain ⟨k, hk, rfl⟩ := mem p hp
    exact (hv k hk).1
  · obtain ⟨k, hk, rfl⟩ := mem p hp
    exact (hv k hk).2.1
  · cases e
    obtain ⟨p, hp, e⟩ := List.mem_map.mp hz
    obtain ⟨k, hk, rfl⟩ := mem p hp
    exact (hv k hk).2.2.1 z e
  · obtain ⟨k, hk, rfl⟩ := mem p hp
    exact .inr ⟨by decide, (hv k hk).2.2.2⟩
theorem ren_len {hs ks : List Str} {g : Str → V} (h : ks.length ≠ hs.length) : isRen hs (some (tab ks g)) = false := by
  unfold isRen
  rw [show hasJ hs (some (tab ks g)) = false from by
    show (decide ((tab ks g).length = hs.length) && _) = false
    rw [tab_length, decide_eq_false h]
    rfl]
  rfl
theorem ren_key {hs ks : List Str} {g : Str → V} {k : Str} (hk : k ∈ hs) (h : k ∉ ks) : isRen hs (some (tab ks g)) = false := by
  unfold isRen
  rw [show hasJ hs (some (tab ks g)) = false from by
    show (decide ((tab ks g).length = hs.length) && hs.all fun h => (valV (tab ks g) (Sum.inr h)).isSome) = false
    rw [show (hs.all fun h => (valV (tab ks g) (Sum.inr h)).isSome) = false from by
      rw [List.all_eq_false]
      exact ⟨k, hk, by rw [val_out h]; simp⟩, Bool.and_false]]
  rfl
theorem tab_vals {ks : List Str} {g : Str → V} : (tab ks g).map (·.2) = ks.map g := by
  unfold tab
  rw [List.map_map]
  rfl
theorem ren_name {hs ks : List Str} {g : Str → V} {k : Str} (hk : k ∈ ks) (h : isNm (g k) = false) : isRen hs (some (tab ks g)) = false := by
  unfold isRen
  show (_ && (((tab ks g).map (·.2)).all isNm && _)) = false
  rw [tab_vals, show (ks.map g).all isNm = false from by
    rw [List.all_eq_false]
    exact ⟨g k, List.mem_map.mpr ⟨k, hk, rfl⟩, by rw [h]; simp⟩, Bool.false_and, Bool.and_false]
theorem ren_dup {hs ks : List Str} {g : Str → V} (h : ¬ (ks.map g).Nodup) : isRen hs (some (tab ks g)) = false := by
  unfold isRen
  show (_ && (_ && decide ((tab ks g).map (·.2)).Nodup)) = false
  rw [tab_vals, decide_eq_false h, Bool.and_false, Bool.and_false]
theorem merge_one {ks : List Str} {g : Str → V} (h : ks.Nodup) : mergeK [] (tab ks g) = tab ks g := by
  have := merge_tab (g := g) ks [] (by rw [List.nil_append]; exact h)
  rw [List.nil_append] at this
  exact this
theorem tab_app (a b : List Str) (g : Str → V) : tab (a ++ b) g = tab a g ++ tab b g := by unfold tab; rw [List.map_append]
abbrev nvr : Str := "never"
def gNev (f : Str → Str) : Str → V := fun z => if z = nvr then .str "nn" else .str (f z)
def gOne (f : Str → Str) (k : Str) (x : V) : Str → V := fun z => if z = k then x else .str (f z)
theorem gNev_ne {f : Str → Str} {l : List Str} (h : nvr ∉ l) : ∀ z ∈ l, (fun z => V.str (f z)) z = gNev f z := fun z hz => by
  show V.str (f z) = if z = nvr then V.str "nn" else .str (f z)
  rw [if_neg (fun e : z = nvr => h (e ▸ hz))]
theorem gNev_at (f : Str → Str) : gNev f nvr = .str "nn" := by
  unfold gNev
  rw [if_pos rfl]
theorem gOne_ne {f : Str → Str} {k : Str} {x : V} {l : List Str} (h : k ∉ l) : ∀ z ∈ l, (fun z => V.str (f z)) z = gOne f k x z := fun z hz => by
  show V.str (f z) = if z = k then x else .str (f z)
  rw [if_neg (fun e : z = k => h (e ▸ hz))]
theorem gOne_at (f : Str → Str) (k : Str) (x : V) : gOne f k x k = x := by
  unfold gOne
  rw [if_pos rfl]
theorem nd_app {l : List Str} {k : Str} (h : l.Nodup) (hk : k ∉ l) : (l ++ [k]).Nodup := by
  rw [List.nodup_append]
  exact ⟨h, by simp, fun a ha b hb => by
    rw [List.mem_singleton.mp hb]
    exact fun e => hk (e ▸ ha)⟩
/-- texts as values -/
theorem txt_ok {H : Hp} {d : Addr} {v : V} (h : ∃ z, v = .str z ∧ z.length ≤ 1000) : (∃ n, Pl H v n) ∧ v ≠ .ref d ∧ (∀ y, v = .str y → y.length ≤ 1000) ∧ Shv H v := by
  obtain ⟨z, rfl, h⟩ := h
  exact ⟨⟨_, .str _⟩, fun e => (by cases e), fun y e => (by rw [← V.str.inj e]; exact h), .inl rfl⟩
theorem gNev_txt {f : Str → Str} {l : List Str} (h : ∀ z ∈ l, (f z).length ≤ 1000) : ∀ z ∈ l ++ [nvr], ∃ y, gNev f z = .str y ∧ y.length ≤ 1000 := fun z hz => by
  unfold gNev
  by_cases e : z = nvr
  · exact ⟨_, if_pos e, by decide⟩
  · refine ⟨_, if_neg e, h z ?_⟩
    rcases List.mem_append.mp hz with hz | hz
    · exact hz
    · exact absurd (List.mem_singleton.mp hz) e
/-- the list of odd things, all else -/
structure OG (mg : Str → Option Value) (ql : Str) (T p c O gv : Addr) (hs ms : List Str) (g : Str → V) (Hx : Hp) (n : Nat) (xs : List V) (H : Hp) : Prop where
  new : Hx O = none
  ws : Ws mg ql T p c Hx n H
  at_ : H O = some (.lst xs)
  all : ∀ y ∈ xs, OddR hs (w1 O (wo p c T H)) y
  giv : w1 O (wo p c T H) gv = some (.dK (tab ms g))
section
variable {mg : Str → Option Value} {ql : Str} {T p c O gv : Addr} {hs ms : List Str} {g : Str → V} {Hx H H' : Hp} {n : Nat} {xs ys : List V}
theorem OG.ex (G : OG mg ql T p c O gv hs ms g Hx n xs H) (e : Evl.Ex H H') : OG mg ql T p c O gv hs ms g Hx n xs H' := ⟨G.new, G.ws.ex e, e _ _ G.at_, fun y hy => (G.all y hy).ex (w1_ex (wo_ex e)), w1_ex (wo_ex e) _ _ G.giv⟩
theorem OG.cat (G : OG mg ql T p c O gv hs ms g Hx n xs H) (h1 : O ≠ p) (h2 : O ≠ c) (hy : ∀ y ∈ ys, OddR hs (w1 O (wo p c T H)) y) : OG mg ql T p c O gv hs ms g Hx n (xs ++ ys) (upd H O (.lst (xs ++ ys))) := by
  have e : w1 O (wo p c T (upd H O (.lst (xs ++ ys)))) = w1 O (wo p c T H) := by
    funext b
    unfold w1 wo
    by_cases hb : b = O
    · rw [if_pos hb, if_pos hb]
    · rw [if_neg hb, if_neg hb, upd_ne hb]
  refine ⟨G.new, G.ws.mut G.at_ h1 h2 G.new, upd_same, fun y hm => ?_, by rw [e]; exact G.giv⟩
  rw [e]
  rcases List.mem_append.mp hm with hm | hm
  · exact G.all y hm
  · exact hy y hm
theorem w1_cat {p c T O : Addr} {H : Hp} {o : HO} : w1 O (wo p c T (upd H O o)) = w1 O (wo p c T H) := by
  funext b
  unfold w1 wo
  by_cases hb : b = O
  · rw [if_pos hb, if_pos hb]
  · rw [if_neg hb, if_neg hb, upd_ne hb]
theorem OG.wat (G : OG mg ql T p c O gv hs ms g Hx n xs H) {d : Addr} {o : HO} (e : Evl.Ex H H') (h : H d = none) (h2 : H' d = some o) : w1 O (wo p c T H') d = some o := by
  have n := G.ws.ne h
  exact w1_at (wo_at h2 n.1 n.2.1 n.2.2) (ne_of_none G.at_ h).symm
end
/-- the entries without the first, one more behind -/
theorem tailP {K : PySem.W.Frag} {H H' : Hp} {k0 k : Str} {mr : List Str} {g g1 : Str → V} {ts : List Addr} {t : Addr} (h : Paired (fun (t : Addr) (q : Key × V) => H t = some (.tup [kV q.1, q.2])) ts (tab (k0 :: mr) g)) (e : Evl.Ex H H') (hg : ∀ z ∈ mr, g z = g1 z) (ht : H' t = some (.tup [.str k, g1 k])) : Paired (fun (p : Addr) (kv : Key × V) => SqT K H' p [kV kv.1, kv.2]) (ts.drop 1 ++ [t]) (tab (mr ++ [k]) g1) := by
  cases h with
  | @cons a b as bs h1 h2 =>
    rw [tab_app, show List.drop 1 (a :: as) = as from rfl, ← tab_congr hg]
    exact paired_app (Paired.mapP h2 fun _ _ z => SqT.of (e _ _ z)) (.cons (SqT.of ht) .nil)
theorem allP {K : PySem.W.Frag} {H H' : Hp} {k : Str} {ms : List Str} {g g1 : Str → V} {ts : List Addr} {t : Addr} (h : Paired (fun (t : Addr) (q : Key × V) => H t = some (.tup [kV q.1, q.2])) ts (tab ms g)) (e : Evl.Ex H H') (hg : ∀ z ∈ ms, g z = g1 z) (ht : H' t = some (.tup [.str k, g1 k])) : Paired (fun (p : Addr) (kv : Key × V) => SqT K H' p [kV kv.1, kv.2]) (ts ++ [t]) (tab (ms ++ [k]) g1) := by
  rw [tab_app, ← tab_congr hg]
  exact paired_app (Paired.mapP h fun _ _ z => SqT.of (e _ _ z)) (.cons (SqT.of ht) .nil)
theorem dropP {K : PySem.W.Frag} {H H' : Hp} {k0 : Str} {mr : List Str} {g : Str → V} {ts : List Addr} (h : Paired (fun (t : Addr) (q : Key × V) => H t = some (.tup [kV q.1, q.2])) ts (tab (k0 :: mr) g)) (e : Evl.Ex H H') : Paired (fun (p : Addr) (kv : Key × V) => SqT K H' p [kV kv.1, kv.2]) (ts.drop 1) (tab mr g) := by
  cases h with
  | cons h1 h2 => exact Paired.mapP h2 fun _ _ z => SqT.of (e _ _ z)
theorem woP {p c T : Addr} {H0 H : Hp} (n : ∀ b, H0 b = none → b ≠ p ∧ b ≠ c ∧ b ≠ T) : ∀ {ts : List Addr} {kvs : List (Key × V)}, Paired (fun (t : Addr) (q : Key × V) => H t = some (.tup [kV q.1, q.2])) ts kvs → (∀ t ∈ ts, H0 t = none) → Paired (fun (t : Addr) (q : Key × V) => wo p c T H t = some (.tup [kV q.1, q.2])) ts kvs
  | [], [], .nil, _ => .nil
  | t :: ts, q :: kvs, .cons h1 h2, hn => .cons (wo_at h1 (n t (hn t List.mem_cons_self)).1 (n t (hn t List.mem_cons_self)).2.1 (n t (hn t List.mem_cons_self)).2.2) (woP n h2 fun t ht => hn t (List.mem_cons_of_mem _ ht))
/-- the entries as they stand in a list -/
theorem itemP_sm {H : Hp} {ts : List Addr} {ks : List Str} {f : Str → Str} (h : Paired (fun (t : Addr) (q : Key × V) => H t = some (.tup [kV q.1, q.2])) ts (tab ks fun z => .str (f z))) : Paired (Sm H 7) (ts.map V.ref) (ts.map V.ref) := by
  have : ∀ {ts : List Addr} {ks : List Str}, Paired (fun (t : Addr) (q : Key × V) => H t = some (.tup [kV q.1, q.2])) ts (tab ks fun z => .str (f z)) → Paired (Sm H 7) (ts.map V.ref) (ts.map V.ref) := by
    intro ts
    induction ts with
    | nil => exact fun _ => .nil
    | cons t ts ih =>
      intro ks h
      cases ks with
      | nil => cases h
      | cons k ks =>
        cases h with
        | cons h1 h2 => exact .cons (.inr (.inr (.inl ⟨t, t, _, _, rfl, rfl, .inl h1, h1, by show 2 ≤ 1000; decide, .cons (.inl ⟨rfl, rfl⟩) (.cons (.inl ⟨rfl, rfl⟩) .nil)⟩))) (ih h2)
  exact this h
end K07

namespace Gd
open PySem PySem.Spec PyProof.Rows L2
/-! ### a def within one surrounding: for what asks more of it than room (repr: nothing may be under way) -/
def OkAt (P : Program) (w : World) (K : PySem.W.Frag) (mg : Str → Option Value) (base : Heap) (CX : CXT) (A : Around) (f : Addr) (fd : FuncData) (ps : List Str) (sp : Sp) : Prop :=
  ∀ (outer : List Env) (st : Shared) (H : Hp) (ar : Args) (us : List Value) (vs : List V) (Q : VK) (E : XK), Env0 P w K mg base A outer st H → BindsTo st fd ar (ps.zip us) → Vals vs us → sp vs H Q E → codeAny (model P w) A (.call (.ref f) ar) (CR CX outer P w H st Q E) st
section
variable {P : Program} {w : World} {K : PySem.W.Frag} {mg : Str → Option Value} {base : Heap} {CX : CXT} {A : Around}
theorem okAt_of {k : Nat} {f : Addr} {fd : FuncData} {ps : List Str} {sp : Sp} (F : FnOk P w K mg base CX k f fd ps sp) (hr : Room k A) : OkAt P w K mg base CX A f fd ps sp := fun outer st H ar us vs Q E e0 hb r h => F.run A outer st H ar us vs Q E hr e0 hb r h
/-- a def whose body is read in this surrounding -/
theorem okAt_def {x qual : Str} {params : Arguments} {body : List Stmt} {scope : Scope} {dvs : List V} {kws : List (Str × V)} {f c : Addr} {fd : FuncData} {N ps : List Str} {k : Nat} {sp : Sp} (F : FunD K x qual params body scope dvs kws f fd) (hc : fd.code = .ref c) (S : FnScope N ps scope) (hr : Room (k + 1) A)
    (len : ∀ vs H Q E, sp vs H Q E → vs.length = ps.length)
    (go : ∀ (outer : List Env) (st : Shared) (H : Hp) (vs : List V) (Q : VK) (E : XK), Room k (A.deeper (envOfC qual scope st.heap.objs.size f (.ref c))) → sp vs H Q E → ∃ t, PSs (cxOf CX P w K mg base N qual scope f (.ref c) A outer st H E) body t ∧ t { nx := fun _ H' => Q .non H', rt := Q } (L2.start N vs) H) :
    OkAt P w K mg base CX A f fd ps sp := by
  obtain ⟨oc, od, dV, kV, doc, pm, an, cdv, ct, osl, rfl, lk, hcd, _, _⟩ := F.ex
  obtain rfl : cdv = .ref c := hc
  exact fun outer st H ar us vs Q E e0 hb r h => LamX.run_ofS lk hcd S hr e0 hb r (len _ _ _ _ h) fun hr2 => go outer st H vs Q E hr2 h
end
/-! ### such a def called -/
section
variable {X : Cx} {CX : CXT} {k i : Nat} {f : Addr} {fd : FuncData} {ps : List Str} {sp : Sp} {E : XK} {x : Str} {p pos : Pos} {e : Expr} {es : List Expr} {t : TA}
def tCallO (sp : Sp) (E : XK) (t : TA) : TE := fun σ H Q => t σ H fun vs H1 => vs.length = vs.length ∧ sp vs H1 Q E
theorem pe_callO (F : OkAt X.prog X.w X.K X.mg X.base CX X.A f fd ps sp) (len : ∀ vs H Q E, sp vs H Q E → vs.length = ps.length) (hg : Gl X x) (hm : X.mg x = some (.ref f)) (hk : PySem.W.keepIn X.K (.ref f) = true) (hb : L2.Binds X.K fd ps []) (hx : Passes CX X E) (ha : PA X (e :: es) t)
    (hdb : (x == ("__debug__" : Str)) = false := by decide) (he : starEach (e :: es) X.env = (false, eval e X.env) :: starEach es X.env := by rfl) (hpl : (backTo pos (starEach es X.env)).any (·.1) = false := by rfl) : PE X (.Call (.Name x p) (e :: es) [] pos) (tCallO sp E t) := by
  refine ⟨fun pins st σ H Q I h => ?_⟩
  refine wpAny_Call_Name_kw (ld_glob I hg hm ?_ hdb)
  refine PySem.W.callWith_K (h₀ := X.base) I.ok.mod.kin hk (thn (ha.run pos pins st σ H _ I h) fun us s1 ⟨vs, H1, I1, r, _, q⟩ => ⟨I1.kIn, ?_⟩) he hpl
  have hl : us.length = ps.length := (Paired.length r).symm.trans (len _ _ _ _ q)
  have b := hb s1 us I1.kIn (by rw [List.append_nil]; exact hl)
  rw [List.append_nil] at b
  refine wpAny_call (codeAny_mono (F X.stack s1 H1 ⟨us, []⟩ us vs Q E I1.env0 b r q) fun z s' hq => ?_)
  match z, hq with
  | .error er, hq => exact hx pins σ H1 s1 er s' I1 hq
  | .ok (.ret u), hq => exact I1.after hq
  | .ok .next, hq => exact False.elim hq
  | .ok .brk, hq => exact False.elim hq
  | .ok .cont, hq => exact False.elim hq
end
/-! ### repr of what stands as data -/
section
variable {X : Cx}
/-- data, dicts with text keys too; not the table of modules -/
inductive Dq (K : PySem.W.Frag) (H : Hp) : V → PyData → Prop
  | dp {v : V} {d : PyData} (h : Dp K H v d) (nd : d.hasDict = false) : Dq K H v d
theorem call_repr (hg : X.A.guards = some []) (hu : X.A.units + 100 < cLine) : CallR X (.builtin "repr") (fun xs H Q => ∃ (a : Addr) (d : PyData), xs = [.ref a] ∧ Dp X.K H (.ref a) d ∧ d.hasDict = false ∧ d.showable = true ∧ d.depth ≤ 50 ∧ d.shown.length ≤ sizeLine ∧ Q (.str d.shown) H) := by
  intro pins st σ H xs us Q I r ⟨a, d, e, hd, nd, hs, hdp, hz, q⟩
  subst e
  match us, r with
  | [u], .cons ru .nil =>
    obtain rfl : u = Value.ref a := ru
    obtain ⟨as, rd⟩ := Dp.reads I d _ _ hd (show RelV (.ref a) (.ref a) from rfl)
    refine PySem.repr_of_reads' (h₀ := st.heap) rd hs (fun z => by rw [nd] at z; cases z) hg (by omega) (fun _ _ e => e) (fun h' u tk k => ?_) hz
    exact ⟨.str d.shown, H, I.kept k, ⟨u, rfl⟩, q⟩
end
end Gd

/-! repr of a dict of texts to texts. Law-independent. -/
namespace Rps
open PySem PySem.Spec PyProof.Rows L2
/-- texts and ints -/
def tabN (ns : List (Str × Str)) : List (Key × V) := ns.map fun q => (Sum.inr q.1, .str q.2)
def pdN (ns : List (Str × Str)) : PyData := .dict (ns.map fun q => (.str q.1, .str q.2))
theorem reads_n {P : Program} {w : World} {h : Heap} : ∀ {ns : List (Str × Str)} {vs : List (Key × Value)} {es : List DictEntry}, KV (tabN ns) vs → Pairs (mixKind P w) es vs →
    ReadsAll h (es.map (·.key)) (ns.map fun q => PyData.str q.1) [] ∧ ReadsAll h (es.map (·.val)) (ns.map fun q => PyData.str q.2) []
  | [], _, _, r, p => by
    cases r
    cases p
    exact ⟨.nil, .nil⟩
  | q :: ns, _, _, r, p => by
    cases r with
    | cons r1 r2 =>
      cases p with
      | cons h1 h2 h3 =>
        obtain ⟨i1, i2⟩ := reads_n (h := h) r2 h3
        obtain ⟨k1, k2⟩ := r1
        rw [← k1] at h1
        have h1 : keyIs (Sum.inr q.1) _ = true := h1
        rcases keyIs_shape h1 with ⟨i, t, e, _⟩ | ⟨x, t, e, ek⟩
        · cases e
        · cases e
          obtain ⟨t2, ev⟩ := (show ∃ t, _ = Value.str q.2 t from k2)
          refine ⟨?_, ?_⟩
          · rw [List.map_cons, List.map_cons, ek]
            exact .cons (as := []) (bs := []) (.str _ _) i1
          · rw [List.map_cons, List.map_cons, h2, ev]
            exact .cons (as := []) (bs := []) (.str _ _) i2
section
variable {X : Cx}
theorem call_reprN (hg : X.A.guards = some []) (hu : X.A.units + 100 < cLine) : CallR X (.builtin "repr") (fun xs H Q => ∃ (a : Addr) (ns : List (Str × Str)), xs = [.ref a] ∧ H a = some (.dK (tabN ns)) ∧ (pdN ns).showable = true ∧ (pdN ns).depth ≤ 50 ∧ (pdN ns).shown.length ≤ sizeLine ∧ Q (.str (pdN ns).shown) H) := by
  intro pins st σ H xs us Q I r ⟨a, ns, e, ha, hs, hdp, hz, q⟩
  subst e
  match us, r with
  | [u], .cons ru .nil =>
    obtain rfl : u = Value.ref a := ru
    obtain ⟨_, hsys, vs, kv, o, es, ep, ho, hx, hd, _, hp, _⟩ := (show ObjOk X.prog X.w H st.heap a (.dK (tabN ns)) from I.hok a _ ha)
    obtain ⟨r1, r2⟩ := reads_n (h := st.heap) kv hp
    have rd : Reads st.heap (.ref a) (pdN ns) (a :: [] ++ []) := Reads.dict ho hx.1 hd (by rw [List.map_map]; exact r1) (by rw [List.map_map]; exact r2)
    refine PySem.repr_of_reads' (h₀ := st.heap) rd hs (fun _ z => ?_) hg (by omega) (fun _ _ e => e) (fun h' u tk k => ?_) hz
    · simp at z
      rw [z] at hsys
      simp at hsys
    · exact ⟨.str _, H, I.kept k, ⟨u, rfl⟩, q⟩
end
end Rps
namespace Rps
open PySem
theorem kv_len {ns : List (Str × Str)} (hk : ∀ q ∈ ns, (reprText q.1).length ≤ 40) (hv : ∀ q ∈ ns, (reprText q.2).length ≤ 40) : ∀ t ∈ PyData.shownKv (ns.map fun q => (PyData.str q.1, PyData.str q.2)), t.length ≤ 90 := by
  induction ns with
  | nil => intro t ht; simp [PyData.shownKv] at ht
  | cons q r ih =>
    intro t ht
    rw [List.map_cons, PyData.shownKv] at ht
    rcases List.mem_cons.mp ht with rfl | ht
    · have h1 := hk q List.mem_cons_self
      have h2 := hv q List.mem_cons_self
      rw [strLen_append, strLen_append]
      have h5 : (PyData.shown (.str q.1)).length ≤ 40 := h1
      have h6 : (PyData.shown (.str q.2)).length ≤ 40 := h2
      have h7 : (": " : Str).length = 2 := by decide
      omega
    · exact ih (fun x hx => hk x (List.mem_cons_of_mem _ hx)) (fun x hx => hv x (List.mem_cons_of_mem _ hx)) t ht
theorem kv_count (ns : List (Str × Str)) : (PyData.shownKv (ns.map fun q => (PyData.str q.1, PyData.str q.2))).length = ns.length := by
  induction ns with
  | nil => simp [PyData.shownKv]
  | cons q r ih => rw [List.map_cons, PyData.shownKv, List.length_cons, List.length_cons, ih]
theorem sum_len : ∀ (l : List Str), (∀ t ∈ l, t.length ≤ 90) → (l.map (·.length)).sum ≤ 90 * l.length
  | [], _ => by simp
  | t :: r, h => by
    have h1 := h t List.mem_cons_self
    have h2 := sum_len r fun x hx => h x (List.mem_cons_of_mem _ hx)
    rw [List.map_cons, List.sum_cons, List.length_cons]
    omega
theorem shown_fits {ns : List (Str × Str)} (hl : ns.length ≤ 30) (hk : ∀ q ∈ ns, (reprText q.1).length ≤ 40) (hv : ∀ q ∈ ns, (reprText q.2).length ≤ 40) : (pdN ns).shown.length ≤ sizeLine := by
  have h1 := StrLaws.join_length_le ", " (PyData.shownKv (ns.map fun q => (PyData.str q.1, PyData.str q.2)))
  have h2 := sum_len _ (kv_len hk hv)
  rw [kv_count] at h1 h2
  have h3 : (", " : Str).length = 2 := by decide
  have h4 : ("{" : Str).length = 1 := by decide
  have h5 : ("}" : Str).length = 1 := by decide
  unfold pdN
  rw [PyData.shown_dict, strLen_append, strLen_append, h4, h5]
  rw [h3] at h1
  exact Nat.le_trans (show _ ≤ 4000 by omega) (by decide)
theorem show_ok {ns : List (Str × Str)} : (pdN ns).showable = true := by
  unfold pdN
  rw [PyData.showable]
  induction ns with
  | nil => simp [PyData.showableKv]
  | cons q r ih =>
    rw [List.map_cons, PyData.showableKv, ih, Bool.and_true]
    simp [PyData.showable]
theorem depthKv_0 : ∀ ns : List (Str × Str), PyData.depthKv (ns.map fun q => (PyData.str q.1, PyData.str q.2)) = 0
  | [] => by simp [PyData.depthKv]
  | q :: r => by rw [List.map_cons, PyData.depthKv, depthKv_0 r]; simp [PyData.depth]
theorem depth_ok (ns : List (Str × Str)) : (pdN ns).depth ≤ 50 := by
  unfold pdN
  rw [PyData.depth, depthKv_0]
  omega
end Rps

/-! list(zip(xs, ys)) of two lists. Law-independent. -/
namespace Zl
open PySem PySem.Calls PyProof.Rows PySem.Spec
/-- the zip at its i-th turn; its last tuple is out, or none is -/
def ZS (z TI TO i1 i2 l1 l2 S : Addr) (xs ys : Array Value) (i : Nat) (h : Heap) : Prop :=
  IsPair h TI (.ref i1) (.ref i2) ∧ h.IsListIter i1 l1 i ∧ h.IsListIter i2 l2 i ∧ h.IsList l1 xs ∧ h.IsList l2 ys ∧
    ((IsZip h z TI TO .none ∧ ∃ a b, IsPair h TO a b) ∨ ∃ (T : Addr) (f : Bool) (o : Obj), IsZipHeld h z TI TO T f ∧ h.get? T = some o ∧ T ≠ z ∧ T ≠ i1 ∧ T ≠ i2 ∧ T ≠ S)
section
variable {prog : Program} {w : World} {A : Around} {E : Value → Shared → Prop} {s : Shared} {z TI TO i1 i2 l1 l2 S : Addr} {xs ys : Array Value} {i : Nat}
theorem ZS.move (D : ZipApart z TI TO i1 i2 l1 l2) {h h' : Heap} (hS : ∀ c ∈ [z, TI, TO, i1, i2, l1, l2], c ≠ S) (x : ZS z TI TO i1 i2 l1 l2 S xs ys i h) (k : ∀ c o, c ≠ S → h.get? c = some o → h'.get? c = some o) : ZS z TI TO i1 i2 l1 l2 S xs ys i h' := by
  have n : ∀ c, c ∈ [z, TI, TO, i1, i2, l1, l2] → c ≠ S := hS
  obtain ⟨h1, h2, h3, h4, h5, h6⟩ := x
  refine ⟨k _ _ (n TI (by simp)) h1, h2.at fun o e => k _ o (n i1 (by simp)) e, h3.at fun o e => k _ o (n i2 (by simp)) e, h4.at fun o e => k _ o (n l1 (by simp)) e, h5.at fun o e => k _ o (n l2 (by simp)) e, ?_⟩
  rcases h6 with ⟨g1, a, b, g2⟩ | ⟨T, f, o, g1, g2, g3, g4, g5, g6⟩
  · exact .inl ⟨k _ _ (n z (by simp)) g1, a, b, k _ _ (n TO (by simp)) g2⟩
  · exact .inr ⟨T, f, o, k _ _ (n z (by simp)) g1, k _ _ g6 g2, g3, g4, g5, g6⟩
theorem zl_item {x y : Value} {Q : Option Value → Shared → Prop} (D : ZipApart z TI TO i1 i2 l1 l2) (st : ZS z TI TO i1 i2 l1 l2 S xs ys i s.heap) (hS : S < s.heap.objs.size) (hx : xs[i]? = some x) (hy : ys[i]? = some y)
    (hQ : ∀ h', ZS z TI TO i1 i2 l1 l2 S xs ys (i + 1) h' → IsPair h' s.heap.objs.size x y → h'.objs.size = s.heap.objs.size + 1 → (∀ c o, c ≠ z → c ≠ TO → c ≠ i1 → c ≠ i2 → s.heap.get? c = some o → h'.get? c = some o) → Q (some (.ref s.heap.objs.size)) { s with heap := h' }) :
    wpAny (model prog w) A (pyNext (.ref z)) Q E s := by
  obtain ⟨h1, h2, h3, h4, h5, h6⟩ := st
  have lt : ∀ {c o}, s.heap.get? c = some o → s.heap.objs.size ≠ c := fun e => Nat.ne_of_gt (Heap.lt_size e)
  have e1 : s.heap.objs.size ≠ i1 := by obtain ⟨o, e, _⟩ := h2; exact lt e
  have e2 : s.heap.objs.size ≠ i2 := by obtain ⟨o, e, _⟩ := h3; exact lt e
  rcases h6 with ⟨g1, a, b, g2⟩ | ⟨T, f, o, g1, g2, g3, g4, g5, g6⟩
  · refine wpAny_pyNext_zip_item D g1 h1 g2 h2 h3 h4 h5 hx hy fun h' a1 a2 a3 a4 a5 a6 hk => hQ h' ⟨hk _ _ D.TIz D.TITO D.TIi1 D.TIi2 h1, a3, a4, h4.at fun o e => hk _ o D.l1z D.l1TO D.l1i1 D.l1i2 e, h5.at fun o e => hk _ o D.l2z D.l2TO D.l2i1 D.l2i2 e, .inr ⟨s.heap.objs.size, false, _, a1, a5, lt g1, e1, e2, Nat.ne_of_gt hS⟩⟩ a5 a6 hk
  · refine wpAny_pyNext_zip_item_held D g1 g2 h1 h2 h3 h4 h5 hx hy fun h' a1 a3 a4 a5 a6 hk => hQ h' ⟨hk _ _ D.TIz D.TIi1 D.TIi2 h1, a3, a4, h4.at fun o e => hk _ o D.l1z D.l1i1 D.l1i2 e, h5.at fun o e => hk _ o D.l2z D.l2i1 D.l2i2 e, .inr ⟨T, true, o, a1, hk _ _ g3 g4 g5 g2, g3, g4, g5, g6⟩⟩ a5 a6 fun c o c1 _ c2 c3 e => hk c o c1 c2 c3 e
theorem zl_done {Q : Option Value → Shared → Prop} (hh : A.handled = none) (D : ZipApart z TI TO i1 i2 l1 l2) (st : ZS z TI TO i1 i2 l1 l2 S xs ys i s.heap) (hend : xs[i]? = none ∨ ys[i]? = none)
    (hQ : ∀ h', (∀ c o, c ≠ z → c ≠ TO → c ≠ i1 → c ≠ i2 → s.heap.get? c = some o → h'.get? c = some o) → Q none { s with heap := h' }) : wpAny (model prog w) A (pyNext (.ref z)) Q E s := by
  obtain ⟨h1, h2, h3, h4, h5, h6⟩ := st
  rcases h6 with ⟨g1, a, b, g2⟩ | ⟨T, f, o, g1, g2, g3, g4, g5, g6⟩
  · exact wpAny_pyNext_zip_end hh D g1 h1 g2 h2 h3 h4 h5 hend hQ
  · exact wpAny_pyNext_zip_end_held hh D g1 g2 h1 h2 h3 h4 h5 hend fun h' k => hQ h' fun c o c1 _ c2 c3 e => k c o c1 c2 c3 e
end
/-- the tuples told so far -/
structure ZG (xs ys : Array Value) (lo : Addr) (h : Heap) (as : List Addr) : Prop where
  rise : as.Pairwise (· < ·)
  above : ∀ a ∈ as, lo < a
  pairs : ∀ (j : Nat) (a : Addr), as[j]? = some a → ∃ x y, xs[j]? = some x ∧ ys[j]? = some y ∧ h.get? a = some { cls := .type "tuple", data := .seq #[x, y] }
section
variable {prog : Program} {w : World} {A : Around} {s : Shared} {R : Result → Shared → Prop} {z TI TO i1 i2 l1 l2 S lo : Addr} {xs ys : Array Value}
theorem zl_loop (hh : A.handled = none) (D : ZipApart z TI TO i1 i2 l1 l2) (hS : ∀ c ∈ [z, TI, TO, i1, i2, l1, l2], c ≠ S) (far : ∀ c ∈ [z, TI, TO, i1, i2, l1, l2, S], c ≤ lo) (few : min xs.size ys.size ≤ sizeLine) (res : Value) {h₁ : Heap}
    (hR : ∀ h' tk acc c as, (∀ b o, b ≠ S → b ≠ z → b ≠ TO → b ≠ i1 → b ≠ i2 → h₁.get? b = some o → h'.get? b = some o) → h'.get? S = some { cls := .type "list", dict := none, data := .seq acc c, slots := #[] } → as.length = min xs.size ys.size → ZG xs ys lo h' as →
      acc.toList = as.map Value.ref → R (.ok (.ret res)) { s with heap := h', toks := tk }) :
    ∀ (k i : Nat) (h : Heap) (tk c : Nat) (acc : Array Value) (as : List Addr), min xs.size ys.size - i = k → i ≤ min xs.size ys.size → ZS z TI TO i1 i2 l1 l2 S xs ys i h → (∀ b o, b ≠ S → b ≠ z → b ≠ TO → b ≠ i1 → b ≠ i2 → h₁.get? b = some o → h.get? b = some o) →
      h.get? S = some { cls := .type "list", dict := none, data := .seq acc c, slots := #[] } → acc.toList = as.map Value.ref → as.length = i → ZG xs ys lo h as → lo < h.objs.size →
      codeAny (model prog w) A (.builtin "list.extend.loop" ⟨[.ref S, .ref z, res], []⟩) R { s with heap := h, toks := tk } := by
  have nS : ∀ c, c ∈ [z, TI, TO, i1, i2, l1, l2] → c ≠ S := hS
  intro k
  induction k with
  | zero =>
    intro i h tk c acc as hk hi st kept hSl hacc hal G big
    refine codeAny_builtin PySem.F.entry_extend_loop ?_
    rw [Around.under_plainId PySem.F.plain_extend_loop _]
    show wpAny _ A.in1 (pyNext (.ref z) >>= _) _ _ _
    refine wpAny_bind (zl_done (s := { s with heap := h, toks := tk }) (A := A.in1) hh D st (by
      rcases Nat.le_total xs.size ys.size with q | q
      · exact .inl (Array.getElem?_eq_none (by omega))
      · exact .inr (Array.getElem?_eq_none (by omega))) fun h' he => ?_)
    refine wpAny_pure (hR h' tk acc c as (fun b o b1 b2 b3 b4 b5 e => he b o b2 b3 b4 b5 (kept b o b1 b2 b3 b4 b5 e)) (he S _ (Ne.symm (nS z (by simp))) (Ne.symm (nS TO (by simp))) (Ne.symm (nS i1 (by simp))) (Ne.symm (nS i2 (by simp))) hSl) (by omega) ⟨G.rise, G.above, fun j a hj => ?_⟩ hacc)
    obtain ⟨x, y, e1, e2, e3⟩ := G.pairs j a hj
    have ha := G.above a (List.mem_of_getElem? hj)
    have ne : ∀ c, c ∈ [z, TI, TO, i1, i2, l1, l2, S] → a ≠ c := fun c hc => Nat.ne_of_gt (Nat.lt_of_le_of_lt (far c hc) ha)
    exact ⟨x, y, e1, e2, he a _ (ne z (by simp)) (ne TO (by simp)) (ne i1 (by simp)) (ne i2 (by simp)) e3⟩
  | succ k ih =>
    intro i h tk c acc as hk hi st kept hSl hacc hal G big
    have lx : i < xs.size := by omega
    have ly : i < ys.size := by omega
    have hsz : acc.size = i := by rw [← Array.length_toList, hacc, List.length_map, hal]
    have lS : S < h.objs.size := Heap.lt_size hSl
    refine codeAny_builtin PySem.F.entry_extend_loop ?_
    rw [Around.under_plainId PySem.F.plain_extend_loop _]
    show wpAny _ A.in1 (pyNext (.ref z) >>= _) _ _ _
    refine wpAny_bind (zl_item (s := { s with heap := h, toks := tk }) D st lS (Array.getElem?_eq_getElem lx) (Array.getElem?_eq_getElem ly) fun h' st' ht hz hkp => ?_)
    dsimp only at ht hz hkp ⊢
    have hS' := hkp S _ (Ne.symm (nS z (by simp))) (Ne.symm (nS TO (by simp))) (Ne.symm (nS i1 (by simp))) (Ne.symm (nS i2 (by simp))) hSl
    have up : ∀ b o, b ≠ S → h'.get? b = some o → (h'.update S (Obj.mapSeq (·.push (Value.ref h.objs.size)))).get? b = some o := fun b o hb e => (Heap.get?_update_other _ _ (Ne.symm hb)).trans e
    show wpAny _ A.in1 (updateSeq S (·.push (Value.ref h.objs.size)) >>= _) _ _ _
    refine wpAny_bind (wpAny_updateSeq hS' rfl (wpAny_pure ⟨plainId_quiet PySem.F.plain_extend_loop _, ih (i + 1) _ tk _ (acc.push (Value.ref h.objs.size)) (as ++ [h.objs.size]) (by omega) (by omega) (st'.move D hS up)
      (fun b o b1 b2 b3 b4 b5 e => up b o b1 (hkp b o b2 b3 b4 b5 (kept b o b1 b2 b3 b4 b5 e))) (Heap.get?_update_self _ hS' rfl) (by rw [Array.toList_push, hacc, List.map_append]; rfl) (by rw [List.length_append, hal]; rfl) ⟨?_, ?_, ?_⟩ ?_⟩) (by rw [hsz]; omega) (by show (acc.push (Value.ref h.objs.size)).size ≤ sizeLine + 1; rw [Array.size_push, hsz]; omega))
    · refine List.pairwise_append.mpr ⟨G.rise, List.pairwise_singleton _ _, fun a ha b hb => ?_⟩
      rw [List.mem_singleton.mp hb]
      obtain ⟨j, hj⟩ := List.mem_iff_getElem?.mp ha
      obtain ⟨x, y, _, _, e3⟩ := G.pairs j a hj
      exact Heap.lt_size e3
    · intro a ha
      rcases List.mem_append.mp ha with ha | ha
      · exact G.above a ha
      · rw [List.mem_singleton.mp ha]; exact big
    · intro j b hj
      rcases Nat.lt_trichotomy j as.length with q | q | q
      · rw [List.getElem?_append_left q] at hj
        obtain ⟨x, y, e1, e2, e3⟩ := G.pairs j b hj
        have hb := G.above b (List.mem_of_getElem? hj)
        have ne : ∀ c, c ∈ [z, TI, TO, i1, i2, l1, l2, S] → b ≠ c := fun c hc => Nat.ne_of_gt (Nat.lt_of_le_of_lt (far c hc) hb)
        exact ⟨x, y, e1, e2, up b _ (ne S (by simp)) (hkp b _ (ne z (by simp)) (ne TO (by simp)) (ne i1 (by simp)) (ne i2 (by simp)) e3)⟩
      · subst q
        obtain rfl : h.objs.size = b := by simpa using hj
        exact ⟨xs[i], ys[i], by rw [hal]; exact Array.getElem?_eq_getElem lx, by rw [hal]; exact Array.getElem?_eq_getElem ly, up _ _ (Nat.ne_of_gt lS) ht⟩
      · have : (as ++ [h.objs.size])[j]? = none := List.getElem?_eq_none (by rw [List.length_append, List.length_singleton]; omega)
        rw [this] at hj
        cases hj
    · have e : (h'.update S (Obj.mapSeq (·.push (Value.ref h.objs.size)))).get? h.objs.size = _ := up _ _ (Nat.ne_of_gt lS) ht
      exact Nat.lt_trans big (Heap.lt_size e)
end
theorem zip_len0 : typeLookup (.type "zip") "__len__" = pure none := by rw [typeLookup_type, builtinLookup_eq_fast]; kernel_rfl
theorem zip_hint0 : typeLookup (.type "zip") "__length_hint__" = pure none := by rw [typeLookup_type, builtinLookup_eq_fast]; kernel_rfl
section
variable {prog : Program} {w : World} {A : Around} {E : Value → Shared → Prop} {s : Shared} {z TI TO i1 i2 l1 l2 S : Addr} {xs ys : Array Value}
theorem zl_hint (hT : s.TypeIs (.ref z) "zip") {Q : Bool → Shared → Prop} (h : Q true s) : wpAny (model prog w) A (Builtin.List.listLengthHint (.ref z)) Q E s := by
  unfold Builtin.List.listLengthHint
  refine wpAny_bind (wpAny_specialOf hT zip_len0 ?_)
  refine wpAny_bind (wpAny_specialOf hT zip_hint0 ?_)
  exact wpAny_pure h
theorem zl_extend {R : Result → Shared → Prop} (hh : A.handled = none) (D : ZipApart z TI TO i1 i2 l1 l2) (hS : ∀ c ∈ [z, TI, TO, i1, i2, l1, l2], c < S) (st : ZS z TI TO i1 i2 l1 l2 S xs ys 0 s.heap) (res : Value) (c₀ : Nat) (hl : s.heap.get? S = some { cls := .type "list", data := .seq #[] c₀ })
    (hR : ∀ h' tk acc c as, (∀ b o, b ≠ S → b ≠ z → b ≠ TO → b ≠ i1 → b ≠ i2 → s.heap.get? b = some o → h'.get? b = some o) → h'.get? S = some { cls := .type "list", dict := none, data := .seq acc c, slots := #[] } → as.length = min xs.size ys.size → ZG xs ys S h' as →
      acc.toList = as.map Value.ref → R (.ok (.ret res)) { s with heap := h', toks := tk }) (few : min xs.size ys.size ≤ sizeLine) :
    wpAny (model prog w) A.in1 (Builtin.List.listExtendWith (.ref S) (.ref z) res)
      (fun fin s' => match fin with | .done f => R (.ok f) s' | .again c' => c'.quiet = true ∧ codeAny (model prog w) A c' R s') (fun e s' => R (.error e) s') s := by
  have nS : ∀ c ∈ [z, TI, TO, i1, i2, l1, l2], c ≠ S := fun c hc => Nat.ne_of_lt (hS c hc)
  have zS := nS z (by simp)
  have key : ∀ (h : Heap) (c₁ tk : Nat), (∀ b o, b ≠ S → s.heap.get? b = some o → h.get? b = some o) → h.get? S = some { cls := .type "list", data := .seq #[] c₁ } → codeAny (model prog w) A (.builtin "list.extend.loop" ⟨[.ref S, .ref z, res], []⟩) R { s with heap := h, toks := tk } := by
    intro h c₁ tk hk hl₁
    refine zl_loop (s := s) (h₁ := s.heap) (lo := S) hh D nS (fun c hc => ?_) few res hR (min xs.size ys.size) 0 h tk c₁ #[] [] (Nat.sub_zero _) (Nat.zero_le _) (st.move D nS hk) (fun b o b1 _ _ _ _ e => hk b o b1 e) hl₁ rfl rfl ⟨List.Pairwise.nil, (fun _ ha => nomatch ha), (fun j a hj => by simp at hj)⟩ (Heap.lt_size hl₁)
    simp only [List.mem_cons, List.not_mem_nil, or_false] at hc
    rcases hc with rfl | rfl | rfl | rfl | rfl | rfl | rfl | rfl
    all_goals first | exact Nat.le_refl _ | exact Nat.le_of_lt (hS _ (by simp))
  have hT : s.TypeIs (.ref z) "zip" := by
    rcases st.2.2.2.2.2 with ⟨g, _⟩ | ⟨_, _, _, g, _⟩
    · exact ⟨_, g, rfl⟩
    · exact ⟨_, g, rfl⟩
  unfold Builtin.List.listExtendWith
  refine wpAny_bind (wpAny_typeOf (T := "zip") hT ?_)
  have h1 : Builtin.List.listSameRef (.ref S) (.ref z) = false := by simp [Builtin.List.listSameRef, Ne.symm zS]
  have h2 : (Value.type "zip" == Value.type "list") = false := by decide
  have h3 : (Value.type "zip" == Value.type "tuple") = false := by decide
  simp only [h1, h2, h3, Bool.or_false, Bool.false_eq_true, if_false]
  have it : ∀ {Q : Value → Shared → Prop} {E : Value → Shared → Prop}, Q (.ref z) s → wpAny (model prog w) A.in1 (pyIter (.ref z)) Q E s := fun {Q E} q => by
    rcases st.2.2.2.2.2 with ⟨g, _⟩ | ⟨T, f, o, g, _⟩
    · exact wpAny_pyIter_zip g q
    · exact wpAny_pyIter_slot hT F.slot_zip_iter (wpAny_call_entry F.slot_zip_iter hT F.entry_zip_iter (wpAny_pure ⟨_, rfl, "zip", _, hT, F.slot_zip_next.lookup, q⟩) (F.args_zip_iter_1 _))
  refine wpAny_bind (it ?_)
  refine wpAny_bind (wpAny_holding (zl_hint hT ?_))
  refine wpAny_ite_split (fun _ => ?_) (fun _ => wpAny_pure ⟨plainId_quiet PySem.F.plain_extend_loop _, key _ c₀ _ (fun b o _ e => e) hl⟩)
  refine wpAny_bind (wpAny_rule ?_)
  refine wpAny_bind ?_
  show wpAny _ _ (updateSeq S (·.push .none) >>= fun _ => updateSeq S (·.pop)) _ _ _
  refine wpAny_bind (wpAny_updateSeq hl rfl ?_)
  have hl₂ := Heap.get?_update_self (Obj.mapSeq (·.push Value.none)) hl rfl
  refine wpAny_updateSeq (hz := by seq_fits) hl₂ rfl ?_
  have hl₃ := Heap.get?_update_self (Obj.mapSeq (·.pop)) hl₂ rfl
  refine wpAny_pure ⟨plainId_quiet PySem.F.plain_extend_loop _, key _ _ _ (fun b o hb e => ?_) hl₃⟩
  exact (Heap.get?_update_other _ _ (Ne.symm hb)).trans ((Heap.get?_update_other _ _ (Ne.symm hb)).trans e)
theorem ZG.low {lo lo' : Addr} {h : Heap} {as : List Addr} (g : ZG xs ys lo h as) (hl : lo' ≤ lo) : ZG xs ys lo' h as := ⟨g.rise, fun a ha => Nat.lt_of_le_of_lt hl (g.above a ha), g.pairs⟩
/-- list(z) of a zip of two lists that nothing was drawn from -/
theorem zl_call {Q : Value → Shared → Prop} (hh : A.handled = none) (D : ZipApart z TI TO i1 i2 l1 l2) (hz : IsZip s.heap z TI TO .none) (hTI : IsPair s.heap TI (.ref i1) (.ref i2)) (hTO : ∃ a b, IsPair s.heap TO a b) (h1 : s.heap.IsListIter i1 l1 0) (h2 : s.heap.IsListIter i2 l2 0) (hl1 : s.heap.IsList l1 xs) (hl2 : s.heap.IsList l2 ys) (few : min xs.size ys.size ≤ sizeLine)
    (hQ : ∀ h' tk acc c as, (∀ b o, b ≠ z → b ≠ TO → b ≠ i1 → b ≠ i2 → s.heap.get? b = some o → h'.get? b = some o) → h'.get? s.heap.objs.size = some { cls := .type "list", dict := none, data := .seq acc c, slots := #[] } → as.length = min xs.size ys.size → ZG xs ys s.heap.objs.size h' as →
      acc.toList = as.map Value.ref → Q (.ref s.heap.objs.size) { s with heap := h', toks := tk }) :
    wpAny (model prog w) A (call (.type "list") [.ref z]) Q E s := by
  refine callType_codes (Q₁ := fun obj s₁ => obj = .ref s.heap.objs.size ∧ s₁ = { s with heap := s.heap.push { cls := .type "list", data := .seq #[] } }) PySem.F.called_list (PySem.F.typeCall_list_1 _) PySem.F.entry_list_init
    (code_list_new _ ⟨rfl, rfl⟩) fun obj s₁ h₁ => ?_
  obtain ⟨rfl, rfl⟩ := h₁
  have hS : (s.heap.push { cls := .type "list", data := .seq #[] }).get? s.heap.objs.size = some { cls := .type "list", data := .seq #[] } := Heap.get?_push_size _ rfl
  have p : ∀ {b o}, s.heap.get? b = some o → (s.heap.push { cls := .type "list", data := .seq #[] }).get? b = some o := fun e => Heap.get?_push_of_some _ e
  have below : ∀ c ∈ [z, TI, TO, i1, i2, l1, l2], c < s.heap.objs.size := fun c hc => by
    simp only [List.mem_cons, List.not_mem_nil, or_false] at hc
    obtain ⟨x, y, eo⟩ := hTO
    obtain ⟨_, e1, _⟩ := h1
    obtain ⟨_, e2, _⟩ := h2
    obtain ⟨_, e3, _⟩ := hl1
    obtain ⟨_, e4, _⟩ := hl2
    rcases hc with rfl | rfl | rfl | rfl | rfl | rfl | rfl
    all_goals first | exact Heap.lt_size hz | exact Heap.lt_size hTI | exact Heap.lt_size eo | exact Heap.lt_size e1 | exact Heap.lt_size e2 | exact Heap.lt_size e3 | exact Heap.lt_size e4
  refine ⟨⟨_, hS, rfl⟩, PySem.F.args_list_init_2 _ _, ?_⟩
  show wpAny _ _ (do let old ← Builtin.List.listItems (.ref s.heap.objs.size); Builtin.List.listUpdate (.ref s.heap.objs.size) (fun _ => #[]); letGo old.toList.reverse; Builtin.List.listExtendWith (.ref s.heap.objs.size) (.ref z) .none) _ _ _
  refine wpAny_bind ?_
  unfold Builtin.List.listItems
  refine wpAny_bind (wpAny_seqItems hS rfl (wpAny_pure ?_))
  show wpAny _ _ (updateSeq s.heap.objs.size (fun _ => #[]) >>= fun _ => letGo (#[] : Array Value).toList.reverse >>= fun _ => Builtin.List.listExtendWith (.ref s.heap.objs.size) (.ref z) .none) _ _ _
  refine wpAny_bind (wpAny_updateSeq hS rfl ?_)
  have hS₂ := Heap.get?_update_self (Obj.mapSeq (fun _ => (#[] : Array Value))) hS rfl
  have oth : ∀ b o, b ≠ s.heap.objs.size → s.heap.get? b = some o → ((s.heap.push { cls := .type "list", data := .seq #[] }).update s.heap.objs.size (Obj.mapSeq (fun _ => (#[] : Array Value)))).get? b = some o :=
    fun b o hb e => (Heap.get?_update_other _ _ (Ne.symm hb)).trans (p e)
  have nS : ∀ c ∈ [z, TI, TO, i1, i2, l1, l2], c ≠ s.heap.objs.size := fun c hc => Nat.ne_of_lt (below c hc)
  have st : ZS z TI TO i1 i2 l1 l2 s.heap.objs.size xs ys 0 s.heap := ⟨hTI, h1, h2, hl1, hl2, .inl ⟨hz, hTO⟩⟩
  refine wpAny_bind (wpAny_letGo ?_)
  refine zl_extend (s := { s with heap := (s.heap.push { cls := .type "list", data := .seq #[] }).update s.heap.objs.size (Obj.mapSeq (fun _ => (#[] : Array Value))) }) (A := A.in1) hh D below (st.move D nS oth) .none _ hS₂ (fun h' tk acc c as hk hS' hl hG hacc => ?_) few
  exact ⟨rfl, hQ h' tk acc c as (fun b o b1 b2 b3 b4 e => hk b o (Nat.ne_of_lt (Heap.lt_size e)) b1 b2 b3 b4 (oth b o (Nat.ne_of_lt (Heap.lt_size e)) e)) hS' hl hG hacc⟩
end
end Zl
namespace L2
open PySem PySem.Spec PyProof.Rows Dt
section
variable {X : Cx}
def tListZip (K : PySem.W.Frag) (ta : TA) : TE := fun σ H Q => ta σ H fun vs H1 => ∃ a b xs ys, vs = [.ref a, .ref b] ∧ SqL K H1 a xs ∧ SqL K H1 b ys ∧
  ∀ (H' : Hp) (p : Addr) (ts : List Addr), Evl.Ex H1 H' → H1 p = none → (∀ t ∈ ts, H1 t = none) → p ∉ ts → H' p = some (.lst (ts.map V.ref)) → Paired (fun (t : Addr) (q : V × V) => H' t = some (.tup [q.1, q.2])) ts (xs.zip ys) → Q (.ref p) H'
/-- list(zip(e, f)) -/
theorem pe_listZip {e f : Expr} {ta : TA} {p p2 pos pos2 : Pos} (hc : X.calm = true) (hg : Gl X "list") (hm : X.mg "list" = none) (hv : bootBuiltins "list" = some (.type "list")) (hg2 : Gl X "zip") (hm2 : X.mg "zip" = none) (ha : PA X [e, f] ta)
    (hs2 : starEach [e, f] X.env = (false, eval e X.env) :: starEach [f] X.env := by rfl) (hp2 : (backTo pos2 (starEach [f] X.env)).any (·.1) = false := by rfl)
    (hs : starEach [.Call (.Name "zip" p2) [e, f] [] pos2] X.env = (false, eval (.Call (.Name "zip" p2) [e, f] [] pos2) X.env) :: starEach [] X.env := by rfl) : PE X (.Call (.Name "list" p) [.Call (.Name "zip" p2) [e, f] [] pos2] [] pos) (tListZip X.K ta) := by
  refine ⟨fun pins s σ H Q I hq => wpAny_Call_Name_kw (ld_blt I hg hm hv (PyProof.Rows.callWith_type1 ?_ hs rfl))⟩
  rw [hs]
  show wpAny _ _ (spliced ((false, eval (.Call (.Name "zip" p2) [e, f] [] pos2) X.env) :: backTo pos (starEach [] X.env))) _ _ s
  refine Calls.spliced_cons (Call_ (ld_blt I hg2 hm2 PyProof.Rows.boot_zip (PyProof.Rows.callWith_type1 (thn (ha.run pos2 pins s σ H _ I hq) fun us s1 hh => ?_) hs2 hp2)))
  obtain ⟨vs, H1, I1, r1, a, b, xs, ys, rfl, hqx, hqy, q⟩ := hh
  obtain ⟨u1, u2, rfl, ra, rb⟩ := Vals.two r1
  obtain rfl : u1 = Value.ref a := ra
  obtain rfl : u2 = Value.ref b := rb
  obtain ⟨its, rv, pl, few⟩ := I1.list hqx
  obtain ⟨jts, rw', pl2, few2⟩ := I1.list hqy
  have la : a < s1.heap.objs.size := let ⟨_, _, e, _⟩ := pl; Heap.lt_size e
  have lb : b < s1.heap.objs.size := let ⟨_, _, e, _⟩ := pl2; Heap.lt_size e
  have lx := rv.length
  have ly := rw'.length
  refine call_zip_2 pl.isList pl2.isList fun h' hz hTI hTO d1 d2 hsz hk => Calls.spliced_nil ?_
  have ne : ∀ {c d : Nat}, c < d → c ≠ d ∧ d ≠ c := fun h => ⟨Nat.ne_of_lt h, Nat.ne_of_gt h⟩
  have D : ZipApart (s1.heap.objs.size + 4) (s1.heap.objs.size + 2) (s1.heap.objs.size + 3) s1.heap.objs.size (s1.heap.objs.size + 1) a b := by
    constructor <;> first | exact (ne (by omega)).1 | exact (ne (by omega)).2 | exact (ne (Nat.lt_of_lt_of_le la (by omega))).1 | exact (ne (Nat.lt_of_lt_of_le lb (by omega))).1
  refine Zl.zl_call (xs := its.toArray) (ys := jts.toArray) (I1.ok.hd hc) D hz hTI ⟨_, _, hTO⟩ d1 d2 (pl.isList.at fun o e => hk _ o e) (pl2.isList.at fun o e => hk _ o e) (by simp; omega) fun h2 tk acc c as kept hS size G hacc => ?_
  have big : s1.heap.objs.size ≤ h'.objs.size := by omega
  have kept2 : ∀ c o, s1.heap.get? c = some o → h2.get? c = some o := fun c o e => by
    have lt : c < s1.heap.objs.size := Heap.lt_size e
    exact kept c o (Nat.ne_of_lt (Nat.lt_of_lt_of_le lt (Nat.le_add_right _ _))) (Nat.ne_of_lt (Nat.lt_of_lt_of_le lt (Nat.le_add_right _ _))) (Nat.ne_of_lt lt) (Nat.ne_of_lt (Nat.lt_of_lt_of_le lt (Nat.le_add_right _ _))) (hk c o e)
  have zs : (its.zip jts).length = as.length := by rw [List.length_zip, size]; simp
  have zv : (xs.zip ys).length = as.length := by rw [List.length_zip, lx, ly, ← List.length_zip, zs]
  have ent : ∀ (j : Nat) (p : V × V), (xs.zip ys)[j]? = some p → ∃ hj : j < ((its.zip jts).map fun p => (⟨0, p.1, p.2⟩ : DictEntry)).toArray.size, RelV p.1 (((its.zip jts).map fun p => (⟨0, p.1, p.2⟩ : DictEntry)).toArray[j]'hj).key ∧ RelV p.2 (((its.zip jts).map fun p => (⟨0, p.1, p.2⟩ : DictEntry)).toArray[j]'hj).val := fun j p e => by
    rw [List.getElem?_zip_eq_some] at e
    obtain ⟨w1, e1, r1⟩ := rv.get e.1
    obtain ⟨w2, e2, r2⟩ := rw'.get e.2
    have ez : (its.zip jts)[j]? = some (w1, w2) := by rw [List.getElem?_zip_eq_some]; exact ⟨e1, e2⟩
    obtain ⟨lt, ez⟩ := List.getElem?_eq_some_iff.mp ez
    refine ⟨by simpa using lt, ?_⟩
    simp only [List.getElem_toArray, List.getElem_map, ez]
    exact ⟨r1, r2⟩
  have G2 : PySem.W.DilG ((its.zip jts).map fun p => (⟨0, p.1, p.2⟩ : DictEntry)).toArray h'.objs.size h2 as := ⟨G.rise, G.above, fun j t hj => by
    obtain ⟨x, y, e1, e2, e3⟩ := G.pairs j t hj
    have ez : (its.zip jts)[j]? = some (x, y) := by rw [List.getElem?_zip_eq_some]; exact ⟨by simpa using e1, by simpa using e2⟩
    obtain ⟨lt, ez⟩ := List.getElem?_eq_some_iff.mp ez
    refine ⟨by simpa using lt, ?_⟩
    simp only [List.getElem_toArray, List.getElem_map, ez]
    exact e3⟩
  obtain ⟨H', k1, k2, k3, k4, k5, k6, J⟩ := dil_laid (tk := tk) big I1 (by rw [size]; simp; omega) zv ent kept2 hS G2 hacc
  exact ⟨.ref _, H', J, rfl, q H' _ as k1 k2 k3 k4 k5 k6⟩
end
end L2

namespace K07
open PySem PySem.Spec PyProof.Rows L2 Tr Sq Dk Dt Exs Oeq
/-! ### _law_names_right -/
abbrev sNam : Stmt := top 50
abbrev qlN : Str := "_law_names_right" ++ ".<locals>." ++ "<lambda>"
abbrev nmNam : List Str := ["stream", "village", "houses", "paths", "later", "given", "was", "found", "due", "back", "odds", "odd", "house", "one", "other"]
theorem scNam : FnScope nmNam ["stream", "village", "houses", "paths"] (defScope sNam) := ⟨rfl, rfl, rfl, by decide +kernel, rfl, by decide +kernel, by decide +kernel⟩
def spNam (mg : Str → Option Value) (C T : Addr) : Sp := fun vs H Q _ => ∃ (p c v l q : Addr) (n : Nat) (h0 : Str) (ht hs : List Str) (ps : Prs) (m : VilD) (qs : PrL), vs = [.ref p, .ref v, .ref l, .ref q] ∧ StrAt H p c n ∧ n + 40 ≤ 1000000000 ∧ Lm.TabD mg [qlN] H T ∧ LV C (wo p c T H) v l q h0 ht hs ps m qs ∧ ∀ H', Ws mg qlN T p c H (n + 40) H' → Q (.bl true) H'
theorem spNam_len {mg : Str → Option Value} {C T : Addr} : ∀ vs H Q E, spNam mg C T vs H Q E → vs.length = ["stream", "village", "houses", "paths"].length := fun vs H Q E h => by
  obtain ⟨p, c, v, l, q, n, h0, ht, hs, ps, m, qs, rfl, _⟩ := h
  rfl
def base11 : List Str := ["x1", "y", "zz", "b", "aa", "c1", "mill", "q", "w", "v", "u9"]
theorem base_ok : ∀ z ∈ base11, nameOk z = true ∧ (reprText z).length ≤ 40 := by decide +kernel
theorem base_nd : base11.Nodup := by decide +kernel
theorem names_rep : ∀ z ∈ names12, (reprText z).length ≤ 40 := by decide +kernel
/-- one list as the other's picture -/
theorem zipF : ∀ {ms lt : List Str}, ms.Nodup → ms.length = lt.length → ∃ f : Str → Str, lt = ms.map f
  | [], [], _, _ => ⟨id, rfl⟩
  | [], _ :: _, _, h => by cases h
  | _ :: _, [], _, h => by cases h
  | a :: ms, b :: lt, hn, h => by
    obtain ⟨h1, h2⟩ := List.nodup_cons.mp hn
    obtain ⟨f, rfl⟩ := zipF h2 (Nat.succ.inj h)
    refine ⟨fun z => if z = a then b else f z, ?_⟩
    rw [List.map_cons, if_pos rfl]
    congr 1
    exact List.map_congr_left fun z hz => by rw [if_neg (fun e : z = a => h1 (by rw [← e]; exact hz))]
theorem back_of {hs : List Str} {f f2 : Str → Str} (h : hs = (hs.map f).map f2) : ∀ z ∈ hs, f2 (f z) = z := by
  have : ∀ l : List Str, l = (l.map f).map f2 → ∀ z ∈ l, f2 (f z) = z := by
    intro l
    induction l with
    | nil => exact fun _ z hz => by cases hz
    | cons a l ih =>
      intro h z hz
      rw [List.map_cons, List.map_cons] at h
      injection h with h1 h2
      rcases List.mem_cons.mp hz with rfl | hz
      · exact h1.symm
      · exact ih h2 z hz
  exact this hs h
theorem zip_tab {K : PySem.W.Frag} {H : Hp} {f : Str → Str} : ∀ {ms : List Str} {ts : List Addr}, Paired (fun (t : Addr) (q : V × V) => H t = some (.tup [q.1, q.2])) ts ((ms.map V.str).zip ((ms.map f).map V.str)) → Paired (fun (p : Addr) (kv : Key × V) => SqT K H p [kV kv.1, kv.2]) ts (tab ms fun z => .str (f z))
  | [], [], _ => .nil
  | [], _ :: _, h => by cases h
  | _ :: _, [], h => by cases h
  | m :: ms, t :: ts, .cons h1 h2 => .cons (SqT.of h1) (zip_tab h2)
theorem tabN_of (ms : List Str) (f : Str → Str) : Rps.tabN (ms.map fun z => (z, f z)) = tab ms fun z => .str (f z) := by
  unfold Rps.tabN tab
  rw [List.map_map]
  rfl
theorem mapP_mapP {hs : List Str} {ps : Prs} {f f2 : Str → Str} (h : ∀ q ∈ ps, q.1 ∈ hs ∧ q.2 ∈ hs) (hb : ∀ z ∈ hs, f2 (f z) = z) : mapP f2 (mapP f ps) = ps := by
  unfold mapP
  rw [List.map_map]
  conv => rhs; rw [← List.map_id ps]
  exact List.map_congr_left fun q hq => by
    show (f2 (f q.1), f2 (f q.2)) = q
    rw [hb _ (h q hq).1, hb _ (h q hq).2]
structure EnvN (P : Program) (w : World) (K : PySem.W.Frag) (mg : Str → Option Value) (base : Heap) (C CS : Addr) : Prop where
  mixed : ∃ f fd, mg "_law_mixed" = some (.ref f) ∧ FnOk P w K mg base CX0 2 f fd ["stream", "some"] (spMixed K) ∧ PySem.W.keepIn K (.ref f) = true ∧ L2.Binds K fd ["stream", "some"] []
  same : ∃ f fd, mg "_law_same" = some (.ref f) ∧ (∀ n, FnOk P w K mg base CX0 n f fd ["found", "due"] (spSame n)) ∧ PySem.W.keepIn K (.ref f) = true ∧ L2.Binds K fd ["found", "due"] []
  met : ∃ f fd, mg "_law_met" = some (.ref f) ∧ FnP K "_law_met" sMet f fd
  ren : ∃ f fd, mg "renamed" = some (.ref f) ∧ FnOk P w K mg base (L2.CX P w) 6 f fd ["village", "names"] (spRen C CS) ∧ PySem.W.keepIn K (.ref f) = true ∧ L2.Binds K fd ["village", "names"] []
  vil : ∃ f fd, mg "Village" = some (.ref C) ∧ Mk K C f ∧ FnOk P w K mg base CX0 4 f fd ["self", "houses", "paths"] (spInitG K) ∧ L2.Binds K fd ["self", "houses", "paths"] []
  eqv : ∃ f fd, FnOk P w K mg base CX0 2 f fd ["self", "other"] (spEqV C) ∧ PySem.W.findIn K (.ref C) "__eq__" = some (some (.ref f)) ∧ PySem.W.isFn K (.ref f) = true ∧ L2.Binds K fd ["self", "other"] []
  ve : VE K C
  n3 : NoAttr K C "_near"
  gLen : mg "len" = none
  gAll : mg "all" = none
  gLi : mg "list" = none
  gDict : mg "dict" = none
  gZip : mg "zip" = none
  gRepr : mg "repr" = none
section
variable {P : Program} {w : World} {K : PySem.W.Frag} {mg : Str → Option Value} {base : Heap}
theorem ok_nam {C CB CJ CN CM CC CS f cL T : Addr} {fd : FuncData} {A : Around} (F : FnP K "_law_names_right" sNam f fd) (hcode : fd.code = .ref cL) (TB : LamX.TabB base mg cL T) (hr0 : Room 11 A) (hg : A.guards = some []) (D : EnvN P w K mg base C CS) (R : Ers P w K mg base CB CJ CN CM CC CS) : Gd.OkAt P w K mg base CX0 A f fd ["stream", "village", "houses", "paths"] (spNam mg C T) := by
  obtain ⟨fX, fdX, gX, GX, kX, bX⟩ := D.mixed
  obtain ⟨fE, fdE, gE, GE, kE, bE⟩ := D.same
  obtain ⟨fM, fdM, gM, FM⟩ := D.met
  obtain ⟨fR, fdR, gR, GR, kR, bR⟩ := D.ren
  obtain ⟨fI, fdI, gN, MN, GI, bI⟩ := D.vil
  obtain ⟨fQ, fdQ, GQ, eQ, iQ, bQ⟩ := D.eqv
  obtain ⟨_, T1⟩ := R.e1
  obtain ⟨_, T2⟩ := R.e2
  obtain ⟨_, T3⟩ := R.e3
  obtain ⟨_, T4⟩ := R.e4
  obtain ⟨_, T5⟩ := R.e5
  obtain ⟨_, T6⟩ := R.e6
  have ve := D.ve
  have gLen := D.gLen
  have gAll := D.gAll
  have gLi := D.gLi
  have gDict := D.gDict
  have gZip := D.gZip
  have gRepr := D.gRepr
  have bM : L2.Binds K fdM ["ask"] [] := FM.bindsN fun _ _ _ _ _ _ us hl => match us, hl with | [_], _ => rfl
  have kM := FM.kp
  obtain ⟨ocM, odM, dVM, kVM, docM, pmM, anM, cdM, ctM', oslM, rfl, lkM, hcM, _, _⟩ := FM.ex
  refine Gd.okAt_def (k := 10) F hcode scNam hr0 spNam_len (fun outer s H vs Q E hr h => ?_)
  obtain ⟨p, c, v, l, q, n, h0, ht, hs, ps, m, qs, rfl, hS, hn, hT, L, k⟩ := h
  have hu : (A.deeper (envOfC "_law_names_right" (defScope sNam) s.heap.objs.size f (.ref cL))).units + 100 < cLine := by
    have := hr.un
    omega
  have cR : ∀ X : Cx, X.A.guards = some [] → X.A.units + 100 < cLine → CallR X (.builtin "repr") _ := fun X h1 h2 => Rps.call_reprN h1 h2
  refine' ⟨_, PSs.nox (pss_cons (ps_set (i := 4) scNam.nd rfl (.inl rfl) (pe_slice sl_list (pe_call GX (hr.mono (by decide)) (by rfl) gX kX bX .nil pass0 (pa_cons (pv 0) (pa_cons (pe_lst (pa_cons pe_str (pa_cons pe_str (pa_cons pe_str (pa_cons pe_str (pa_cons pe_str (pa_cons pe_str (pa_cons pe_str (pa_cons pe_str (pa_cons pe_str (pa_cons pe_str (pa_cons pe_str pa_nil)))))))))))) pa_nil))) po_none (po_some (pe_callB call_len_seq (by rfl) gLen (by decide +kernel) (pa_cons (pv 2) pa_nil)))))
    (pss_cons (ps_set (i := 5) scNam.nd rfl (.inr rfl) (pe_callTy (call_dictP rfl) (by rfl) gDict (by decide +kernel) (pa_cons (pe_listZip (by rfl) (by rfl) gLi (by decide +kernel) (by rfl) gZip (pa_cons (pe_call GX (hr.mono (by decide)) (by rfl) gX kX bX .nil pass0 (pa_cons (pv 0) (pa_cons (pv 2) pa_nil))) (pa_cons (pv 4) pa_nil))) pa_nil)))
    (pss_cons (ps_par (i := 6) (j := 7) (by rfl) scNam.nd rfl rfl (by decide) rfl rfl (pa_cons (pe_callB (cR _ hg hu) (by rfl) gRepr (by decide +kernel) (pa_cons (pv 5) pa_nil)) (pa_cons (pe_callS GR (hr.mono (by decide)) (by rfl) gR kR bR (fun σ => passAt takes0 σ) (pa_cons (pv 1) (pa_cons (pv 5) pa_nil))) pa_nil)) (by rfl))
    (pss_cons (ps_set (i := 8) scNam.nd rfl (.inl rfl) (pe_make MN GI (hr.mono (by decide)) (by rfl) gN bI .nil pass0 (pa_cons ?l1 (pa_cons ?l2 pa_nil))))
    (pss_cons (ps_set (i := 9) scNam.nd rfl (.inl rfl) (pe_callTy (call_dictP rfl) (by rfl) gDict (by decide +kernel) (pa_cons ?l3 pa_nil)))
    (pss_cons (ps_if (PW.pt (pw_or (pt_not (pt_cmpR (op_own GQ eQ iQ bQ pass0 (hr.mono (by decide))) (pv 7) (pv 8) (nomark _))) (pw_or (pt_not (pt_cmpR (op_own GQ eQ iQ bQ pass0 (hr.mono (by decide))) (pe_callS GR (hr.mono (by decide)) (by rfl) gR kR bR (fun σ => passAt takes0 σ) (pa_cons (pv 7) (pa_cons (pv 9) pa_nil))) (pv 1) (nomark _))) (pw_or1 (pt_cmpR op_ne (pe_callB (cR _ hg hu) (by rfl) gRepr (by decide +kernel) (pa_cons (pv 5) pa_nil)) (pv 6) (nomark _)))))) (pss_one (ps_ret pe_bl)) pss_nil)
    (pss_cons (ps_set (i := 10) scNam.nd rfl (.inl rfl) (pe_lst (pa_cons pe_non (pa_cons pe_int (pa_cons (LiI.pe_listItems (by rfl) (pv 5) (by rfl) gLi (by decide +kernel)) (pa_cons (pe_callTy (call_dictP rfl) (by rfl) gDict (by decide +kernel) (pa_cons (pe_op op_cat (LiI.pe_listItems (by rfl) (pv 5) (by rfl) gLi (by decide +kernel)) (pe_lst (pa_cons (pe_tup (pa_cons pe_str (pa_cons pe_str pa_nil))) pa_nil))) pa_nil)) (pa_cons pe_str (pa_cons pe_dnewK pa_nil))))))))
    (pss_cons (ps_expr (pe_bm PySem.F.plainAttrs_list PySem.F.slot_list_extend PySem.F.type_list_extend mt_extend (pv 10) (pa_cons (pe_lst (pa_cons (pe_callTy (call_dictP rfl) (by rfl) gDict (by decide +kernel) (pa_cons (pe_slice sl_list (LiI.pe_listItems (by rfl) (pv 5) (by rfl) gLi (by decide +kernel)) (po_some pe_int) po_none) pa_nil))
      (pa_cons (pe_callTy (call_dictP rfl) (by rfl) gDict (by decide +kernel) (pa_cons (pe_op op_cat (pe_slice sl_list (LiI.pe_listItems (by rfl) (pv 5) (by rfl) gLi (by decide +kernel)) (po_some pe_int) po_none) (pe_lst (pa_cons (pe_tup (pa_cons pe_str (pa_cons pe_str pa_nil))) pa_nil))) pa_nil)) pa_nil))) pa_nil)))
    (pss_cons (ps_for PassesOwn.never rfl (pi_tup (pe_tup (pa_cons pe_non (pa_cons pe_int (pa_cons pe_str (pa_cons pe_str (pa_cons pe_str (pa_cons pe_str (pa_cons pe_bl (pa_cons (pe_lst (pa_cons pe_str pa_nil)) (pa_cons pe_str pa_nil))))))))))) (pg_name (i := 11) scNam.nd rfl (.inl rfl))
      (pss_one (ps_expr (pe_bm PySem.F.plainAttrs_list PySem.F.slot_list_append PySem.F.type_list_append mt_append (pv 10) (pa_cons (pe_callTy (call_dictP rfl) (by rfl) gDict (by decide +kernel) (pa_cons (pe_op op_cat (pe_slice sl_list (LiI.pe_listItems (by rfl) (pv 5) (by rfl) gLi (by decide +kernel)) (po_some pe_int) po_none) (pe_lst (pa_cons (pe_tup (pa_cons (pe_ix ix_list (pe_callTy (call_list_dK rfl) (by rfl) gLi (by decide +kernel) (pa_cons (pv 5) pa_nil)) pe_int (fun _ _ => rfl)) (pa_cons (pv 11) pa_nil))) pa_nil))) pa_nil)) pa_nil)))))
    (Evl.pss_cut (ps_if (pt_cmpR op_gt (pe_callB call_len_seq (by rfl) gLen (by decide +kernel) (pa_cons (pv 2) pa_nil)) pe_int (nomark _))
      (pss_one (ps_expr (pe_bm PySem.F.plainAttrs_list PySem.F.slot_list_append PySem.F.type_list_append mt_append (pv 10) (pa_cons (pe_callTy (call_dictP rfl) (by rfl) gDict (by decide +kernel) (pa_cons (pe_op op_cat (pe_slice sl_list (LiI.pe_listItems (by rfl) (pv 5) (by rfl) gLi (by decide +kernel)) (po_some pe_int) po_none) (pe_lst (pa_cons (pe_tup (pa_cons (pe_ix ix_list (pe_callTy (call_list_dK rfl) (by rfl) gLi (by decide +kernel) (pa_cons (pv 5) pa_nil)) pe_int (fun _ _ => rfl)) (pa_cons (pe_dget (hu_of hr) (pv 5) (pe_ix ix_list (pe_callTy (call_list_dK rfl) (by rfl) gLi (by decide +kernel) (pa_cons (pv 5) pa_nil)) pe_int (fun _ _ => rfl)) (fun _ _ => rfl)) pa_nil))) pa_nil))) pa_nil)) pa_nil)))) pss_nil)
    (pss_one (ps_ret (pe_callB (cr_all rfl) (by rfl) gAll (by decide +kernel) (pa_cons ?l4 pa_nil)))))))))))))), ?rd⟩
  case l1 =>
    refine pe_lc (own := [("house", 12)]) (g := gName 12) (tt := tYes) (te := tDGet (tVar 5) (tVar 12)) rfl scNam.nd (pi_list (pv 2))
      (blkOk_by (own := [("house", 12)]) (N := nmNam) (sc := defScope sNam) (by decide +kernel)) (fun _ _ _ _ _ => pg_name (i := 12) scNam.nd rfl (.inl rfl)) (fun _ _ _ _ _ => pts_nil) ?_
    intro _ _ _ _ _
    exact pe_dget (hu_of hr) (pv 5) (pv 12) (fun _ _ => rfl)
  case l2 =>
    refine pe_lc (own := [("one", 13), ("other", 14)]) (g := gTup K 2 (gCons (gName 13) (gCons (gName 14) gNil))) (tt := tYes) (te := tTup (tCons (tDGet (tVar 5) (tVar 13)) (tCons (tDGet (tVar 5) (tVar 14)) tNil))) rfl scNam.nd (pi_list (pv 3))
      (blkOk_by (own := [("one", 13), ("other", 14)]) (N := nmNam) (sc := defScope sNam) (by decide +kernel)) (fun _ _ _ _ _ => pg_tup rfl (pgs_cons (pg_name (i := 13) scNam.nd rfl (.inl rfl)) (pgs_cons (pg_name (i := 14) scNam.nd rfl (.inl rfl)) pgs_nil))) (fun _ _ _ _ _ => pts_nil) ?_
    intro _ _ _ _ _
    exact pe_tup (pa_cons (pe_dget (hu_of hr) (pv 5) (pv 13) (fun _ _ => rfl)) (pa_cons (pe_dget (hu_of hr) (pv 5) (pv 14) (fun _ _ => rfl)) pa_nil))
  case l3 =>
    refine pe_lc (own := [("house", 12)]) (g := gName 12) (tt := tYes) (te := tTup (tCons (tDGet (tVar 5) (tVar 12)) (tCons (tVar 12) tNil))) rfl scNam.nd (pi_list (pv 2))
      (blkOk_by (own := [("house", 12)]) (N := nmNam) (sc := defScope sNam) (by decide +kernel)) (fun _ _ _ _ _ => pg_name (i := 12) scNam.nd rfl (.inl rfl)) (fun _ _ _ _ _ => pts_nil) ?_
    intro _ _ _ _ _
    exact pe_tup (pa_cons (pe_dget (hu_of hr) (pv 5) (pv 12) (fun _ _ => rfl)) (pa_cons (pv 12) pa_nil))
  case l4 =>
    refine pe_lc (own := [("odd", 11)]) (g := gName 11) (tt := tYes) (te := tCall (spSame 9) [] E0 (tCons (Lm.tLamT mg (fun _ => True) T qlN [] (TMet K (metCs CB CJ CN CM CC CS)) (fun E => tCallS (spRen C CS) (WE fun cls d _ H => E cls d H) (tCons (tVar 1) (tCons (tVar 11) tNil)))) (tCons (tTup (tCons (tC (.str "names")) (tCons (tVar 11) tNil))) tNil))) rfl scNam.nd (pi_list (pv 10))
      (blkOk_by (own := [("odd", 11)]) (N := nmNam) (sc := defScope sNam) (by decide +kernel)) (fun _ _ _ _ _ => pg_name (i := 11) scNam.nd rfl (.inr rfl)) (fun _ _ _ _ _ => pts_nil) ?_
    intro s2 H2 C2 cl2 fp2
    refine pe_call (GE 9) (hr.mono (by decide)) (by rfl) gE kE bE .nil pass0 (pa_cons ?_ (pa_cons (pe_tup (pa_cons pe_str (pa_cons (pv 11) pa_nil))) pa_nil))
    exact Lm.pe_lamT (Pre := fun _ => True) (qs := []) (P := T) (lv := 6) (Ng := ["ask", "e"]) (t := fun E => tCallS (spRen C CS) (WE fun cls d _ H => E cls d H) (tCons (tVar 1) (tCons (tVar 11) tNil))) (by rfl) gM kM lkM hcM bM scMet rfl (.inl rfl) (met_gives T1 T2 T3 T4 T5 T6) (fun pins σ H s I _ => ⟨TB.code.keeps I.bk, TB.bm.keeps I.bk, TB.gP⟩) rfl (fun H H1 Y _ g hY t => True.intro) (hr.mono (by decide)) (by show LamX.LamS (relS _ (defScope sNam)) _; exact LamX.lamS_by (by decide +kernel)) rfl (fun _ _ _ _ _ => rfl)
      (fun A outer s H E f c' hr5 => pe_callS GR hr5 (by rfl) gR kR bR (fun σ => passAt (takes_of rfl rfl rfl rfl) σ) (pa_cons (pv 1) (pa_cons (pv 11) pa_nil)))
  case rd =>
    have M0 : Ws mg qlN T p c H n H := .start hS hT
    have hl8 := L.hl
    have hv8 := L.vh
    have hp8 := L.vp
    have nl := wo_ne L.lat
    -- later
    refine ⟨_, rfl, by show 11 ≤ sizeLine; decide, fun b0 hb0 => ?_⟩
    have M1 := M0.ex (Evl.Ex.new (o := .lst (base11.map V.str)) hb0)
    have e0 : upd H b0 (.lst (base11.map V.str)) b0 = some (.lst (base11.map V.str)) := upd_same
    refine ⟨p, c, b0, n, base11.map V.str, rfl, M1.str, by show n + 11 ≤ _; omega, .inl (SqL.of e0), by show 11 ≤ 1000; decide, fun r ys H2 hr1 h1 hy kp1 s1 => ?_⟩
    obtain ⟨ls, hlp, rfl⟩ := perm_of_map hy base11 rfl
    have M2 := (M1.kp kp1 s1).mono (n' := n + 11) (by show n + 11 ≤ n + 11; omega)
    have r2 := wo_at (T := T) h1 (M1.ne hr1).1 (M1.ne hr1).2.1 (M1.ne hr1).2.2
    refine ⟨_, rfl, l, _, rfl, .inl (SqL.of (M2.get L.lat)), _, rfl, r, _, rfl, SqL.of h1, fun e he => ?_⟩
    have hN : ((h0 :: ht).map V.str).length = (h0 :: ht).length := List.length_map _
    rw [hN, show cutV (ls.map V.str) none (some ((h0 :: ht).length : Int)) = (ls.take (h0 :: ht).length).map V.str by
      rw [List.map_take]
      exact cutV_take _]
    have lsl : ls.length = 11 := hlp.length_eq
    have lnd : (ls.take (h0 :: ht).length).Nodup := (hlp.nodup_iff.mpr base_nd).sublist (List.take_sublist _ _)
    have lok : ∀ z ∈ ls.take (h0 :: ht).length, nameOk z = true ∧ (reprText z).length ≤ 40 := fun z hz => base_ok z (hlp.mem_iff.mp (List.mem_of_mem_take hz))
    have ll : (ls.take (h0 :: ht).length).length = (h0 :: ht).length := by rw [List.length_take]; omega
    generalize ls.take (h0 :: ht).length = lt at lnd lok ll ⊢
    have M3 := M2.ex (Evl.Ex.new (o := .lst (lt.map V.str)) he)
    have e3 := M2.at_ (o := .lst (lt.map V.str)) he
    generalize upd H2 e (.lst (lt.map V.str)) = H3 at M3 e3 ⊢
    clear M0 M1 M2 e0 h1 hy hlp lsl r2 kp1 s1 hr1 hb0 he
    -- given
    refine ⟨_, rfl, _, rfl, p, c, l, _, _, rfl, M3.str, by rw [hN]; omega, .inl (SqL.of (M3.get L.lat)), by rw [hN]; omega, fun r ys H4 hr4 h4 hy kp4 s4 => ?_⟩
    obtain ⟨ms, mp, rfl⟩ := perm_of_map hy (h0 :: ht) rfl
    have M4 := (M3.kp kp4 s4).mono (n' := n + 11 + 8) (by rw [hN]; omega)
    have e4 := wo_kp (T := T) kp4 _ _ e3
    have mnd : ms.Nodup := mp.nodup_iff.mpr L.tr.nd
    obtain ⟨f, rfl⟩ := zipF mnd (mp.length_eq.trans ll.symm)
    have fok : ∀ z ∈ ms, nameOk (f z) = true ∧ (reprText (f z)).length ≤ 40 := fun z hz => lok _ (List.mem_map.mpr ⟨z, hz, rfl⟩)
    have finj : ∀ z ∈ ms, ∀ y ∈ ms, f z = f y → z = y := fun z hz y hy e => by
      obtain ⟨i, hi⟩ := List.getElem?_of_mem hz
      obtain ⟨j, hj⟩ := List.getElem?_of_mem hy
      have e1 : (ms.map f)[i]? = some (f z) := by rw [List.getElem?_map, hi]; rfl
      have e2 : (ms.map f)[j]? = some (f z) := by rw [List.getElem?_map, hj, e]; rfl
      obtain ⟨b1, g1⟩ := List.getElem?_eq_some_iff.mp e1
      obtain ⟨b2, g2⟩ := List.getElem?_eq_some_iff.mp e2
      have pw := List.pairwise_iff_getElem.mp lnd
      have : i = j := by
        rcases Nat.lt_trichotomy i j with l | l | l
        · exact absurd (g1.trans g2.symm) (pw i j b1 b2 l)
        · exact l
        · exact absurd (g2.trans g1.symm) (pw j i b2 b1 l)
      subst this
      rw [hi] at hj
      exact Option.some.inj hj
    refine ⟨_, rfl, r, e, _, _, rfl, SqL.of h4, SqL.of (wo_to _ _ e4), fun H5 z1 ts x5 hz1 hts hzt h5 hpr => ?_⟩
    refine ⟨z1, ts, tab ms fun z => .str (f z), rfl, SqL.of h5, zip_tab hpr, fun gv hgv => ?_⟩
    rw [show mergeK [] (tab ms fun z => V.str (f z)) = tab ms fun z => V.str (f z) from by
      have := merge_tab (g := fun z => V.str (f z)) ms [] (by rw [List.nil_append]; exact mnd)
      rw [List.nil_append] at this
      exact this]
    have M5 := M4.ex x5
    have M6 := M5.ex (Evl.Ex.new (o := .dK (tab ms fun z => V.str (f z))) hgv)
    have G6 := M5.at_ (o := .dK (tab ms fun z => V.str (f z))) hgv
    generalize upd H5 gv (.dK (tab ms fun z => V.str (f z))) = H6 at M6 G6 ⊢
    clear M3 M4 M5 e3 e4 kp4 s4 hy h4 hr4 x5 hz1 hts hzt h5 hpr hgv
    have ml : ms.length ≤ 8 := by rw [mp.length_eq]; exact hl8
    have vm : hs.Perm ms := L.per.trans mp.symm
    have mgd : ∀ z ∈ ms, z ∈ names12 := fun z hz => L.gd z (mp.mem_iff.mp hz)
    have ren : isRen hs (some (tab ms fun z => .str (f z))) = true := tab_ren vm mnd (fun z hz => (fok z hz).1) finj
    -- was, found
    have L6 := (L.ex M6.k).ex wo_to
    have g6 := wo_to _ _ G6
    refine ⟨_, rfl, gv, ms.map (fun z => (z, f z)), rfl, by rw [tabN_of]; exact g6, Rps.show_ok, Rps.depth_ok _, Rps.shown_fits (by rw [List.length_map]; omega) (fun q hq => by
      obtain ⟨z, hz, rfl⟩ := List.mem_map.mp hq
      exact names_rep z (mgd z hz)) (fun q hq => by
      obtain ⟨z, hz, rfl⟩ := List.mem_map.mp hq
      exact (fok z hz).2), ?_⟩
    generalize hw : (Rps.pdN (ms.map fun z => (z, f z))).shown = was
    refine ⟨_, rfl, _, rfl, v, .ref gv, some (tab ms fun z => .str (f z)), hs, ps, m, rfl, L6.vil, L.good, dx_tab g6 (by omega), short_tab fun z hz => (fok z hz).1, fun z => absurd (ren.symm.trans z) (by simp), fun kvs ek _ f2 hf2 H7 o hs' ps' m' x7 ho Vo fr d1 d2 d3 d4 To => ?_⟩
    cases ek
    have ef : ∀ h ∈ hs, f2 h = f h := fun h hh => by
      have := hf2 h hh
      rw [val_in (vm.mem_iff.mp hh)] at this
      injection this with this
      exact (V.str.inj this).symm
    have e1 : hs.map f2 = hs.map f := List.map_congr_left ef
    have e2 : mapP f2 ps = mapP f ps := List.map_congr_left fun q hq => by
      have hm := L.vt.mem (.inl hq : Adj _ q.1 q.2)
      rw [ef _ hm.1, ef _ hm.2]
    rw [e1] at d1
    rw [e2] at d3
    have Vo := Vo.wo (p := p) (c := c) (T := T) fr (fun b hb => M6.ne hb) ho
    have M7 := M6.ex x7
    have G7 := wo_ex (p := p) (c := c) (T := T) x7 _ _ G6
    refine ⟨_, _, rfl, ?_⟩
    clear M6 G6 L6 g6 x7 fr ho hf2 ef e1 e2 f2
    -- due
    have L7 := (L.ex M7.k).ex wo_to
    have get7 : ∀ {Hk : Hp}, Evl.Ex H7 Hk → ∀ z ∈ h0 :: ht, DGet Hk gv (kV (Sum.inr z)) (some (.str (f z))) := fun {Hk} e z hz => by
      have := DGet.k (k := Sum.inr z) (e _ _ (wo_to _ _ G7))
      rw [val_in (mp.mem_iff.mpr hz)] at this
      exact this
    refine ⟨_, rfl, l, rfl, ⟨_, SqL.of L7.lat⟩, fun D1 hD1 => ?_⟩
    refine lc_it (walk_list (xs := (h0 :: ht).map V.str)) (fun i H' => Evl.Ex H7 H' ∧ H' D1 = some (.lst ((((h0 :: ht).take i).map f).map V.str))) ⟨Evl.Ex.new hD1, upd_same⟩ (fun i H' _ hp => SqL.of (hp.1 _ _ L7.lat)) (fun i y H4 H5 hi2 hp hy => ?_) (fun H8 hp => ?_)
    · obtain ⟨x4, e2⟩ := hp
      obtain ⟨rfl, hy⟩ := hy
      rw [List.length_map] at hi2
      obtain ⟨h, hh⟩ := getD_of hi2
      rw [List.getElem?_map, hh] at hy
      cases hy
      refine ⟨rfl, _, rfl, _, rfl, gv, _, rfl, get7 x4 h (List.mem_of_getElem? hh), _, e2, ?_, ex_upd x4 hD1, ?_⟩
      · rw [List.length_map, List.length_map, List.length_take]
        exact Nat.lt_of_le_of_lt (show _ ≤ 1000 by omega) (by decide)
      · rw [upd_same, List.take_add_one, hh, List.map_append, List.map_append]
        rfl
    · obtain ⟨x8, e8⟩ := hp
      rw [List.length_map, List.take_length] at e8
      have b8 := x8 _ _ L7.qat
      refine ⟨_, rfl, q, rfl, ⟨_, SqL.of b8⟩, fun D2 hD2 => ?_⟩
      refine lc_it (walk_list (xs := refsL qs)) (fun j H' => Evl.Ex H8 H' ∧ ∃ us : PrL, H' D2 = some (.lst (refsL us)) ∧ PrsAt H' us ∧ us.map (·.2) = mapP f ((qs.map (·.2)).take j) ∧ us.length = j) ⟨Evl.Ex.new hD2, [], upd_same, fun _ h => (by cases h), rfl, rfl⟩ (fun j H' _ hp => SqL.of (hp.1 _ _ b8)) (fun j x H9 H10 hj hp hy => ?_) (fun H9 hp => ?_)
      · obtain ⟨x6, us, d1, d2, d3, d4⟩ := hp
        obtain ⟨rfl, hx⟩ := hy
        unfold refsL at hj hx
        rw [List.length_map] at hj
        obtain ⟨t3, ht3⟩ := getD_of hj
        rw [List.getElem?_map, ht3] at hx
        cases hx
        obtain ⟨t, c1, c2⟩ := t3
        have htm := List.mem_of_getElem? ht3
        have hT := x6 _ _ (x8 _ _ (L7.pr _ htm))
        have tk : (qs.map (·.2)).take (j + 1) = (qs.map (·.2)).take j ++ [(c1, c2)] := by rw [List.take_add_one, List.getElem?_map, ht3]; rfl
        have hm := L.tr.mem (.inl (List.mem_map.mpr ⟨_, htm, rfl⟩) : Adj _ c1 c2)
        have hql := L.ql
        refine ⟨t, _, rfl, SqT.of hT, rfl, _, _, rfl, _, _, rfl, rfl, rfl, _, rfl, _, rfl, gv, _, rfl, get7 (x8.trans x6) c1 hm.1, _, rfl, _, rfl, gv, _, rfl, get7 (x8.trans x6) c2 hm.2, by show 2 ≤ sizeLine; decide, fun u hu => ?_⟩
        have hBu : D2 ≠ u := ne_of_none d1 hu
        refine ⟨_, by rw [upd_ne hBu]; exact d1, ?_, ex_upd (x6.trans (Evl.Ex.new hu)) hD2, us ++ [(u, f c1, f c2)], by rw [upd_same]; unfold refsL; rw [List.map_append]; rfl, fun t ht => ?_, ?_, ?_⟩
        · unfold refsL
          rw [List.length_map]
          exact Nat.lt_of_le_of_lt (show us.length ≤ 1000 by omega) (by decide)
        · rcases List.mem_append.mp ht with ht | ht
          · have := d2 t ht
            rw [upd_ne (fun z => by rw [z, d1] at this; cases this), upd_ne (ne_of_none this hu)]
            exact this
          · rw [List.mem_singleton.mp ht, upd_ne hBu.symm]
            exact upd_same
        · rw [tk, List.map_append, d3]
          unfold mapP
          rw [List.map_append]
          rfl
        · rw [List.length_append, List.length_singleton]
          omega
      · obtain ⟨x9, us, u1, u2, u3, u4⟩ := hp
        rw [List.take_of_length_le (by unfold refsL; rw [List.length_map, List.length_map]; exact Nat.le_refl _)] at u3
        have hql := L.ql
        have ul : us.length ≤ 8 := by rw [u4]; unfold refsL; rw [List.length_map]; exact hql
        have fok2 : ∀ z ∈ h0 :: ht, nameOk (f z) = true := fun z hz => (fok z (mp.mem_iff.mpr hz)).1
        have finj2 : ∀ z ∈ h0 :: ht, ∀ y ∈ h0 :: ht, f z = f y → z = y := fun z hz y hy e => finj z (mp.mem_iff.mpr hz) y (mp.mem_iff.mpr hy) e
        refine fun w3 dx3 hw3 hdx3 hne3 => mkV (tl := false) (tq := false) (l := D1) (q := D2) (hs := (h0 :: ht).map f) (qs := us) ve.cl ve.n1 ve.n2 D.n3 (x9 _ _ e8) u1 (fun r hr => ⟨true, u2 r hr⟩) (by rw [u3]; exact L.tr.map f finj2) (by simp) (by rw [List.length_map]; omega) (by omega) (fun z hz => ?_) hw3 hdx3 hne3 fun H12 hs3 ps3 m3 x12 V3 fr3 p3 so3 pp3 pw3 T3' => ⟨rfl, ?_⟩
        · obtain ⟨h, hh, rfl⟩ := List.mem_map.mp hz
          exact ⟨fok2 h hh, Nat.le_trans (nameOk_len (fok2 h hh)) (by decide)⟩
        rw [u3] at pp3
        have x712 := (x8.trans x9).trans x12
        have M12 := M7.ex x712
        have M11 := M7.ex (x8.trans x9)
        have V3w := V3.wo (p := p) (c := c) (T := T) fr3 (fun b hb => M11.ne hb) hw3
        have G12 := wo_ex (p := p) (c := c) (T := T) x712 _ _ G7
        have Vo := Vo.ex (wo_ex (p := p) (c := c) (T := T) x712)
        clear get7 M7 M11 G7 L7 x8 e8 b8 x9 u1 u2 u3 u4 ul us hD1 hD2 hw3 hdx3 hne3 x12 V3 fr3 x712
        -- back
        have L12 := (L.ex M12.k).ex wo_to
        have hnd2 : ((h0 :: ht).map f).Nodup := by
          unfold List.Nodup
          rw [List.pairwise_map]
          exact L.tr.nd.imp_of_mem fun {x y} hx hy n e => n (finj2 x hx y hy e)
        obtain ⟨fb, hfb⟩ := zipF hnd2 (lt := h0 :: ht) (by rw [List.length_map])
        have bk := back_of hfb
        refine ⟨_, rfl, l, rfl, ⟨_, SqL.of L12.lat⟩, fun D0 hD0 => ?_⟩
        refine lc_it (walk_list (xs := (h0 :: ht).map V.str)) (fun i H' => Evl.Ex H12 H' ∧ ∃ us : PrL, H' D0 = some (.lst (refsL us)) ∧ PrsAt H' us ∧ us.map (·.2) = ((h0 :: ht).take i).map (fun z => (f z, z)) ∧ us.length = i) ⟨Evl.Ex.new hD0, [], upd_same, fun _ h => (by cases h), rfl, rfl⟩ (fun i H' _ hp => SqL.of (hp.1 _ _ L12.lat)) (fun i x H8 H9 hi hp hy => ?_) (fun H13 hp => ?_)
        · obtain ⟨x8, us, d1, d2, d3, d4⟩ := hp
          obtain ⟨rfl, hy⟩ := hy
          rw [List.length_map] at hi
          obtain ⟨z, hz0⟩ := getD_of hi
          rw [List.getElem?_map, hz0] at hy
          cases hy
          have g1 : DGet H9 gv (kV (Sum.inr z)) (some (.str (f z))) := by
            have := DGet.k (k := Sum.inr z) (x8 _ _ (wo_to _ _ G12))
            rw [val_in (mp.mem_iff.mpr (List.mem_of_getElem? hz0))] at this
            exact this
          refine ⟨rfl, _, rfl, _, rfl, gv, _, rfl, g1, _, rfl, by show 2 ≤ sizeLine; decide, fun e he => ?_⟩
          have hDe : D0 ≠ e := ne_of_none d1 he
          refine ⟨_, by rw [upd_ne hDe]; exact d1, ?_, ex_upd (x8.trans (Evl.Ex.new he)) hD0, us ++ [(e, f z, z)], ?_, fun t ht => ?_, ?_, by rw [List.length_append, d4]; rfl⟩
          · unfold refsL
            rw [List.length_map, d4]
            exact Nat.lt_of_le_of_lt (show i ≤ 1000 by omega) (by decide)
          · rw [upd_same]
            unfold refsL
            rw [List.map_append]
            rfl
          · rcases List.mem_append.mp ht with ht | ht
            · have := d2 t ht
              rw [upd_ne (fun z => by rw [z, d1] at this; cases this), upd_ne (ne_of_none this he)]
              exact this
            · rw [List.mem_singleton.mp ht, upd_ne hDe.symm]
              exact upd_same
          · rw [List.map_append, d3, List.take_add_one, hz0, List.map_append]
            rfl
        · obtain ⟨x13, us, u1, u2, u3, u4⟩ := hp
          rw [List.length_map, List.take_length] at u3
          have u5 : us.map (·.2) = ((h0 :: ht).map f).map (fun z => (z, fb z)) := by
            rw [u3, List.map_map]
            exact List.map_congr_left fun z hz => by
              show (f z, z) = (f z, fb (f z))
              rw [bk z hz]
          refine ⟨D0, us.map (·.1), tab ((h0 :: ht).map f) fun z => .str (fb z), rfl, SqL.of (by rw [u1]; unfold refsL; rw [List.map_map]; rfl), pairs_tab u2 u5, fun bv hbv => ?_⟩
          rw [show mergeK [] (tab ((h0 :: ht).map f) fun z => V.str (fb z)) = tab ((h0 :: ht).map f) fun z => V.str (fb z) from by
            have := merge_tab (g := fun z => V.str (fb z)) ((h0 :: ht).map f) [] (by rw [List.nil_append]; exact hnd2)
            rw [List.nil_append] at this
            exact this]
          have M13 := (M12.ex x13).ex (Evl.Ex.new (o := .dK (tab ((h0 :: ht).map f) fun z => V.str (fb z))) hbv)
          have B13 := (M12.ex x13).at_ (o := .dK (tab ((h0 :: ht).map f) fun z => V.str (fb z))) hbv
          have x1213 := wo_ex (p := p) (c := c) (T := T) (x13.trans (Evl.Ex.new (o := .dK (tab ((h0 :: ht).map f) fun z => V.str (fb z))) hbv))
          have G13 := x1213 _ _ G12
          have V13 := V3w.ex x1213
          have Vo := Vo.ex x1213
          generalize upd H13 bv (.dK (tab ((h0 :: ht).map f) fun z => V.str (fb z))) = H14 at M13 B13 G13 V13 Vo ⊢
          clear x1213 M12 L12 V3w G12 x13 u1 u2 u3 u4 u5 us hbv hD0
          -- found == due
          have V14 := V13.ex wo_to
          have Vo14 := Vo.ex wo_to
          have nmf : ∀ x ∈ hs', nameOk x = true := fun x hx => by
            obtain ⟨z, hz, rfl⟩ := List.mem_map.mp (d1.mem_iff.mp hx)
            exact (fok z (vm.mem_iff.mp hz)).1
          have oko : okN hs' ps' := okN_of To fun x hx => name_str (nmf x hx)
          have pf : (hs.map f).Perm ((h0 :: ht).map f) := L.per.map f
          have pp1 : ((mapP f ps).map ordP).Perm ((mapP f (qs.map (·.2))).map ordP) := by
            have h : (mapP f ps).Perm (mapP f ((qs.map (·.2)).map ordP)) := L.pper.map _
            have := h.map ordP
            rw [mapP_ord] at this
            exact this
          refine ⟨_, rfl, _, rfl, own_vil ve Vo14 oko V14 (okN_of T3' fun x hx => ?_) ?_⟩
          · obtain ⟨z, hz, rfl⟩ := List.mem_map.mp (p3.mem_iff.mp hx)
            exact name_str (fok2 z hz)
          rw [same_vil d1 d2 p3 so3 pf d3 d4 pp3 pw3 pp1]
          refine ⟨_, rfl, iteF ?_⟩
          -- renamed back
          have hm : ∀ z ∈ (h0 :: ht).map f, fb z ∈ h0 :: ht := fun z hz => by
            obtain ⟨y, hy, rfl⟩ := List.mem_map.mp hz
            rw [bk y hy]
            exact hy
          have bok : ∀ z ∈ (h0 :: ht).map f, nameOk (fb z) = true := fun z hz => (good_nm (L.gd _ (hm z hz))).1
          have binj : ∀ z ∈ (h0 :: ht).map f, ∀ y ∈ (h0 :: ht).map f, fb z = fb y → z = y := fun z hz y hy e => by
            obtain ⟨z1, hz1, rfl⟩ := List.mem_map.mp hz
            obtain ⟨y1, hy1, rfl⟩ := List.mem_map.mp hy
            rw [bk z1 hz1, bk y1 hy1] at e
            rw [e]
          have ren2 : isRen hs' (some (tab ((h0 :: ht).map f) fun z => .str (fb z))) = true := tab_ren (d1.trans pf) hnd2 bok binj
          have hl' : hs'.length ≤ 8 := by rw [d1.length_eq, List.length_map]; exact hv8
          have pl' : ps'.length ≤ 8 := by have := d3.length_eq; unfold mapP at this; rw [List.length_map, List.length_map] at this; omega
          refine ⟨_, rfl, _, rfl, o, .ref bv, _, hs', ps', m', rfl, Vo14, ⟨To, by omega, by omega, fun h hh => ⟨nmf h hh, Nat.le_trans (nameOk_len (nmf h hh)) (by decide)⟩⟩, dx_tab (wo_to _ _ B13) (by rw [List.length_map]; omega), short_tab bok, fun z => absurd (ren2.symm.trans z) (by simp), fun kvs ek _ f2 hf2 H15 o2 hs2 ps2 m2 x15 ho2 V2 fr2 c1 c2 c3 c4 T2' => ?_⟩
          cases ek
          have ef : ∀ h ∈ hs', f2 h = fb h := fun h hh => by
            have := hf2 h hh
            rw [val_in ((d1.trans pf).mem_iff.mp hh)] at this
            injection this with this
            exact (V.str.inj this).symm
          have e1 : hs'.map f2 = hs'.map fb := List.map_congr_left ef
          have e2 : mapP f2 ps' = mapP fb ps' := List.map_congr_left fun q hq => by
            have hm := To.mem (.inl hq : Adj _ q.1 q.2)
            rw [ef _ hm.1, ef _ hm.2]
          rw [e1] at c1
          rw [e2] at c3
          have bk2 : ∀ z ∈ hs, fb (f z) = z := fun z hz => bk z (L.per.mem_iff.mp hz)
          have hk : (hs'.map fb).Perm hs := by
            have := d1.map fb
            rw [List.map_map] at this
            rw [show hs.map (fb ∘ f) = hs from by
              conv => rhs; rw [← List.map_id hs]
              exact List.map_congr_left bk2] at this
            exact this
          have pin : ∀ q ∈ ps, q.1 ∈ hs ∧ q.2 ∈ hs := fun q hq => L.vt.mem (.inl hq : Adj _ q.1 q.2)
          have pp2 : ((mapP fb ps').map ordP).Perm (ps.map ordP) := by
            have h : (mapP fb ps').Perm (mapP fb ((mapP f ps).map ordP)) := d3.map _
            have := h.map ordP
            rw [mapP_ord, mapP_mapP pin bk2] at this
            exact this
          have pself : ps.Perm (ps.map ordP) := L.pper.trans L.pp2.symm
          have M15 := M13.ex x15
          have L15 := (L.ex M15.k).ex wo_to
          refine ⟨_, rfl, own_vil ve V2 (okN_of T2' fun x hx => ?_) L15.vil L.ok ?_⟩
          · obtain ⟨z, hz, rfl⟩ := List.mem_map.mp (c1.mem_iff.mp hx)
            exact name_str (bok z ((d1.trans pf).mem_iff.mp hz))
          rw [same_vil c1 c2 (List.Perm.refl hs) L.sor hk c3 c4 pself L.ppw pp2]
          refine ⟨_, rfl, iteF ?_⟩
          have G15 := wo_ex (p := p) (c := c) (T := T) x15 _ _ G13
          have g15 := wo_to _ _ G15
          refine ⟨_, rfl, gv, ms.map (fun z => (z, f z)), rfl, by rw [tabN_of]; exact g15, Rps.show_ok, Rps.depth_ok _, Rps.shown_fits (by rw [List.length_map]; omega) (fun q hq => by
            obtain ⟨z, hz, rfl⟩ := List.mem_map.mp hq
            exact names_rep z (mgd z hz)) (fun q hq => by
            obtain ⟨z, hz, rfl⟩ := List.mem_map.mp hq
            exact (fok z hz).2), ?_⟩
          rw [hw]
          refine ⟨_, rfl, rfl, _, rfl, ite2 (fun w => absurd w (by simp)) (fun _ => ?_)⟩
          clear M13 B13 G13 V13 Vo V14 Vo14 oko nmf L15 V2 fr2 c1 c2 c3 c4 T2' ho2 hf2 ef e1 e2 hk pp2 pself bk2 hm bok binj ren2 x15 hs2 ps2 m2 f2
          -- odds
          obtain ⟨k0, mr, rfl⟩ : ∃ k0 mr, ms = k0 :: mr := by
            cases ms with
            | nil => exact absurd mp.length_eq (by simp)
            | cons a r => exact ⟨a, r, rfl⟩
          obtain ⟨k0n, mrn⟩ := List.nodup_cons.mp mnd
          have nev : nvr ∉ k0 :: mr := fun z => never_no (mgd _ z)
          have fsh : ∀ z ∈ k0 :: mr, (f z).length ≤ 1000 := fun z hz => Nat.le_trans (nameOk_len (fok z hz).1) (by decide)
          have vml : hs.length = (k0 :: mr).length := vm.length_eq
          refine ⟨_, rfl, gv, _, rfl, g15, fun H1 z1 ts1 x1 hz1 hts1 hzt1 h1 hpr1 => ?_⟩
          have M16 := M15.ex x1
          have G16 := wo_ex (p := p) (c := c) (T := T) x1 _ _ G15
          have nz1 := M15.ne hz1
          have o1 : OddR hs (wo p c T H1) (.ref z1) := by
            have w1 : wo p c T H1 z1 = some (.lst (ts1.map V.ref)) := wo_at h1 nz1.1 nz1.2.1 nz1.2.2
            refine odd_pl (.lst w1) rfl (.inr (.inl ⟨z1, z1, _, _, rfl, rfl, w1, w1, ?_, itemP_sm (f := f) (ks := k0 :: mr) ?_⟩))
            · rw [List.length_map, Paired.length hpr1, tab_length]
              exact Nat.le_trans ml (by decide)
            · exact woP (fun b hb => M15.ne hb) hpr1 hts1
          -- one more
          refine ⟨_, rfl, gv, _, rfl, wo_to _ _ G16, fun H2 z2 ts2 x2 hz2 hts2 hzt2 h2 hpr2 => ?_⟩
          refine ⟨by show 2 ≤ sizeLine; decide, fun t2 ht2 => ⟨by show 1 ≤ sizeLine; decide, fun b2 hb2 => ?_⟩⟩
          have y1 := Evl.Ex.new (o := .tup [V.str "never", V.str "nn"]) ht2
          have y2 := Evl.Ex.new (o := .lst [V.ref t2]) hb2
          have tl2 : ts2.length ≤ 8 := by rw [Paired.length hpr2, tab_length]; exact ml
          refine ⟨z2, b2, _, _, rfl, rfl, y2 _ _ (y1 _ _ h2), upd_same, Nat.le_trans (show _ + 1 ≤ 9 by rw [List.length_map]; omega) (by decide), fun c2 hc2 => ?_⟩
          have y3 := Evl.Ex.new (o := .lst (ts2.map V.ref ++ [V.ref t2])) hc2
          have nd2 : ((k0 :: mr) ++ [nvr]).Nodup := nd_app mnd nev
          refine ⟨c2, ts2 ++ [t2], tab ((k0 :: mr) ++ [nvr]) (gNev f), rfl, SqL.of (by rw [upd_same, List.map_append]; rfl), allP hpr2 ((y1.trans y2).trans y3) (gNev_ne nev) (by rw [gNev_at]; exact y3 _ _ (y2 _ _ upd_same)), fun d2 hd2 => ?_⟩
          rw [merge_one nd2]
          have x2 : Evl.Ex H1 H2 := x2
          have y4 := Evl.Ex.new (o := .dK (tab ((k0 :: mr) ++ [nvr]) (gNev f))) hd2
          have M17 := M16.ex (((x2.trans y1).trans y2).trans y3)
          have w2 := M17.at_ (o := .dK (tab ((k0 :: mr) ++ [nvr]) (gNev f))) hd2
          have o2 := odd_dic (hs := hs) w2 (fun z hz => txt_ok (gNev_txt fsh z hz)) (ren_len (by rw [vml, List.length_append]; show _ + 1 ≠ _; omega)) (by rw [List.length_append]; show _ + 1 ≤ 1000; omega)
          have x17 := (((x2.trans y1).trans y2).trans y3).trans y4
          have M18 := M16.ex x17
          have o1 := o1.ex (wo_ex (p := p) (c := c) (T := T) x17)
          have G18 := wo_ex (p := p) (c := c) (T := T) x17 _ _ G16
          generalize upd _ d2 _ = H4 at M18 o1 o2 G18 ⊢
          clear y1 y2 y3 y4 x17 M17 M16 M15 G16 G15 g15 w2 hd2 hc2 hb2 ht2 h2 hpr2 hz2 hts2 hzt2 x2 tl2 h1 hpr1 hz1 hts1 hzt1 x1 nz1
          refine fun d3 hd3 => ⟨by show 6 ≤ sizeLine; decide, fun O hO => ?_⟩
          have y1 := Evl.Ex.new (o := .dK []) hd3
          have M19 := M18.ex y1
          have w3' := M18.at_ (o := .dK []) hd3
          have nO := M19.ne hO
          have y2 := Evl.Ex.new (o := .lst [V.non, .int 5, .ref z1, .ref d2, .str "names", .ref d3]) hO
          have Oex : Evl.Ex (wo p c T (upd H4 d3 (.dK []))) (w1 O (wo p c T (upd (upd H4 d3 (.dK [])) O (.lst [V.non, .int 5, .ref z1, .ref d2, .str "names", .ref d3])))) := fun b o h => w1_at (wo_ex y2 _ _ h) (ne_of_none (wo_to _ _ h) hO)
          have x0 := wo_ex (p := p) (c := c) (T := T) y1
          have OG0 : OG mg qlN T p c O gv hs (k0 :: mr) (fun z => .str (f z)) (upd H4 d3 (.dK [])) (n + 11 + 8) [V.non, .int 5, .ref z1, .ref d2, .str "names", .ref d3] (upd (upd H4 d3 (.dK [])) O (.lst [V.non, .int 5, .ref z1, .ref d2, .str "names", .ref d3])) := by
            refine ⟨hO, M19.now.ex y2, upd_same, fun y hy => ?_, Oex _ _ (x0 _ _ G18)⟩
            simp only [List.mem_cons, List.not_mem_nil, or_false] at hy
            rcases hy with rfl | rfl | rfl | rfl | rfl | rfl
            · exact odd_pl .non rfl (.inl ⟨rfl, rfl⟩)
            · exact odd_pl (.int _) rfl (.inl ⟨rfl, rfl⟩)
            · exact (o1.ex x0).ex Oex
            · exact (o2.ex x0).ex Oex
            · exact odd_pl (.str _) rfl (.inl ⟨rfl, rfl⟩)
            · exact (odd_dic (ks := []) (g := fun _ => .non) w3' (fun z hz => by cases hz) (ren_len (by rw [vml]; simp)) (Nat.zero_le _)).ex Oex
          have M20 := M19
          generalize hHx : upd H4 d3 (.dK []) = Hx at OG0 M20
          clear Oex x0 y1 y2 w3' o1 o2 G18 M18 M19 hO hd3
          generalize upd _ O _ = H5 at OG0 ⊢
          have xl0 : [V.non, .int 5, .ref z1, .ref d2, .str "names", .ref d3].length ≤ 6 := Nat.le_refl 6
          generalize [V.non, .int 5, .ref z1, .ref d2, .str "names", .ref d3] = xs0 at OG0 xl0
          -- two more
          have kmem : k0 ∈ hs := vm.mem_iff.mpr List.mem_cons_self
          have mrl : mr.length ≤ 7 := by
            have := ml
            rw [List.length_cons] at this
            omega
          have nevr : nvr ∉ mr := fun z => nev (List.mem_cons_of_mem _ z)
          have frs : ∀ z ∈ mr, (f z).length ≤ 1000 := fun z hz => fsh z (List.mem_cons_of_mem _ hz)
          have cut1 : ∀ {l : List V}, 1 ≤ l.length → cutV l (some 1) none = l.drop 1 := fun {l} h => cutV_drop 1 h
          refine ⟨_, rfl, .inl ⟨rfl, _, SqL.of OG0.at_⟩, ?_⟩
          refine ⟨_, rfl, gv, _, rfl, wo_to _ _ (w1_to _ _ OG0.giv), fun H1 z1 ts x1 hz1 hts hzt h1 hpr => ?_⟩
          have x1 : Evl.Ex H5 H1 := x1
          have tl1 : ts.length = mr.length + 1 := by rw [Paired.length hpr, tab_length]; rfl
          refine ⟨_, rfl, z1, _, rfl, SqL.of h1, fun s1 hs1 => ?_⟩
          rw [cut1 (by rw [List.length_map, tl1]; omega), ← List.map_drop]
          have y1 := Evl.Ex.new (o := .lst ((ts.drop 1).map V.ref)) hs1
          refine ⟨s1, ts.drop 1, tab mr (fun z => .str (f z)), rfl, SqL.of upd_same, dropP hpr y1, fun d1 hd1 => ?_⟩
          rw [merge_one mrn]
          have y2 := Evl.Ex.new (o := .dK (tab mr fun z => V.str (f z))) hd1
          have OG1 := OG0.ex ((x1.trans y1).trans y2)
          have wd1 := (OG0.ex (x1.trans y1)).wat (d := d1) y2 hd1 upd_same
          have od1 := odd_dic (hs := hs) wd1 (fun z hz => txt_ok ⟨_, rfl, frs z hz⟩) (ren_len (by rw [vml]; show _ ≠ _ + 1; omega)) (by omega)
          generalize upd _ d1 _ = H6 at OG1 od1 ⊢
          clear y1 y2 x1 hs1 hd1 wd1 hpr h1 hz1 hts hzt tl1
          refine ⟨_, rfl, gv, _, rfl, wo_to _ _ (w1_to _ _ OG1.giv), fun H1 z1 ts x1 hz1 hts hzt h1 hpr => ?_⟩
          have x1 : Evl.Ex H6 H1 := x1
          have tl1 : ts.length = mr.length + 1 := by rw [Paired.length hpr, tab_length]; rfl
          refine ⟨_, rfl, z1, _, rfl, SqL.of h1, fun s1 hs1 => ?_⟩
          rw [cut1 (by rw [List.length_map, tl1]; omega), ← List.map_drop]
          have y1 := Evl.Ex.new (o := .lst ((ts.drop 1).map V.ref)) hs1
          refine ⟨by show 2 ≤ sizeLine; decide, fun t2 ht2 => ⟨by show 1 ≤ sizeLine; decide, fun b2 hb2 => ?_⟩⟩
          have y2 := Evl.Ex.new (o := .tup [V.str "never", V.str "nn"]) ht2
          have y3 := Evl.Ex.new (o := .lst [V.ref t2]) hb2
          refine ⟨s1, b2, _, _, rfl, rfl, y3 _ _ (y2 _ _ upd_same), upd_same, Nat.le_trans (show _ + 1 ≤ 9 by rw [List.length_map, List.length_drop]; omega) (by decide), fun c2 hc2 => ?_⟩
          have y4 := Evl.Ex.new (o := .lst ((ts.drop 1).map V.ref ++ [V.ref t2])) hc2
          refine ⟨c2, ts.drop 1 ++ [t2], tab (mr ++ [nvr]) (gNev f), rfl, SqL.of (by rw [upd_same, List.map_append]; rfl), tailP hpr (((y1.trans y2).trans y3).trans y4) (gNev_ne nevr) (by rw [gNev_at]; exact y4 _ _ (y3 _ _ upd_same)), fun d2 hd2 => ?_⟩
          rw [merge_one (nd_app mrn nevr)]
          have y5 := Evl.Ex.new (o := .dK (tab (mr ++ [nvr]) (gNev f))) hd2
          have x6 := x1.trans (((y1.trans y2).trans y3).trans y4)
          have OG2 := OG1.ex (x6.trans y5)
          have wd2 := (OG1.ex x6).wat (d := d2) y5 hd2 upd_same
          have od2 := odd_dic (hs := hs) wd2 (fun z hz => txt_ok (gNev_txt frs z hz)) (ren_key kmem (fun z => by
            rcases List.mem_append.mp z with z | z
            · exact k0n z
            · exact nev (by rw [← List.mem_singleton.mp z]; exact List.mem_cons_self))) (by rw [List.length_append]; show _ + 1 ≤ 1000; omega)
          have od1 := od1.ex (w1_ex (T := O) (wo_ex (p := p) (c := c) (T := T) (x6.trans y5)))
          generalize upd _ d2 _ = H7 at OG2 od1 od2 ⊢
          clear y1 y2 y3 y4 y5 x6 x1 hs1 hd2 hc2 hb2 ht2 wd2 hpr h1 hz1 hts hzt tl1 OG1 OG0
          refine ⟨by show 2 ≤ sizeLine; decide, fun b1 hb1 => ?_⟩
          have y1 := Evl.Ex.new (o := .lst [V.ref d1, .ref d2]) hb1
          have OG3 := OG2.ex y1
          refine ⟨O, b1, xs0, [V.ref d1, .ref d2], rfl, rfl, OG3.at_, upd_same, Nat.le_trans (show xs0.length + 2 ≤ 8 by omega) (by decide), ?_⟩
          have OG4 := OG3.cat nO.1 nO.2.1 (ys := [V.ref d1, .ref d2]) (fun y hy => by
            simp only [List.mem_cons, List.not_mem_nil, or_false] at hy
            rcases hy with rfl | rfl
            · exact od1.ex (w1_ex (wo_ex y1))
            · exact od2.ex (w1_ex (wo_ex y1)))
          generalize upd _ O _ = H8 at OG4 ⊢
          clear OG3 OG2 od1 od2 y1 hb1
          have xl : (xs0 ++ [V.ref d1, .ref d2]).length ≤ 8 := by rw [List.length_append]; show _ + 2 ≤ 8; omega
          generalize xs0 ++ [V.ref d1, .ref d2] = xs1 at OG4 xl
          -- a name that is none
          refine ⟨by show 1 ≤ sizeLine; decide, fun l1 hl1 => ⟨by show 9 ≤ sizeLine; decide, fun tq htq => ?_⟩⟩
          have y1 := Evl.Ex.new (o := .lst [V.str "a"]) hl1
          have y2 := Evl.Ex.new (o := .tup [V.non, .int 5, .str "A", .str "", .str "a b", .str "a\n", .bl true, .ref l1, .str "abcdefghijklm"]) htq
          have OG5 := OG4.ex y1
          have g1 := w1_ex (T := O) (wo_ex (p := p) (c := c) (T := T) y2) _ _ (OG4.wat (d := l1) y1 hl1 upd_same)
          have g4 := OG5.wat (d := tq) y2 htq upd_same
          have OG6 := OG5.ex y2
          clear OG4 OG5 y1 y2 hl1 htq
          generalize upd _ tq _ = Hs at OG6 g1 g4 ⊢
          have oddOk : ∀ u ∈ [V.non, .int 5, .str "A", .str "", .str "a b", .str "a\n", .bl true, .ref l1, .str "abcdefghijklm"], (∃ n, Pl (w1 O (wo p c T Hs)) u n) ∧ (∀ z, u = .str z → z.length ≤ 1000) ∧ Shv (w1 O (wo p c T Hs)) u ∧ isNm u = false := by
            intro u hu
            simp only [List.mem_cons, List.not_mem_nil, or_false] at hu
            have st : ∀ z : Str, z.length ≤ 1000 → nameOk z = false → (∃ n, Pl (w1 O (wo p c T Hs)) (.str z) n) ∧ (∀ y, V.str z = .str y → y.length ≤ 1000) ∧ Shv (w1 O (wo p c T Hs)) (.str z) ∧ isNm (.str z) = false := fun z h1 h2 => ⟨⟨_, .str _⟩, fun y e => (by rw [← V.str.inj e]; exact h1), .inl rfl, h2⟩
            rcases hu with rfl | rfl | rfl | rfl | rfl | rfl | rfl | rfl | rfl
            · exact ⟨⟨_, .non⟩, fun z e => (by cases e), .inl rfl, rfl⟩
            · exact ⟨⟨_, .int _⟩, fun z e => (by cases e), .inl rfl, rfl⟩
            · exact st _ (by decide) (by decide +kernel)
            · exact st _ (by decide) (by decide +kernel)
            · exact st _ (by decide) (by decide +kernel)
            · exact st _ (by decide) (by decide +kernel)
            · exact ⟨⟨_, .bl _⟩, fun z e => (by cases e), .inl rfl, rfl⟩
            · exact ⟨⟨_, .lst g1⟩, fun z e => (by cases e), .inr (.inl ⟨l1, _, rfl, g1, (fun z hz => by rw [List.mem_singleton.mp hz]; rfl), by decide⟩), rfl⟩
            · exact st _ (by decide) (by decide +kernel)
          have tl9 : [V.non, .int 5, .str "A", .str "", .str "a b", .str "a\n", .bl true, .ref l1, .str "abcdefghijklm"].length = 9 := rfl
          generalize [V.non, .int 5, .str "A", .str "", .str "a b", .str "a\n", .bl true, .ref l1, .str "abcdefghijklm"] = xs9 at g4 oddOk tl9 ⊢
          clear g1
          refine ⟨tq, rfl, ⟨_, SqT.of (wo_to _ _ (w1_to _ _ g4))⟩, ?_⟩
          let σ2 : Option V → L2.St := fun v11 => [some (.ref p), some (.ref v), some (.ref l), some (.ref q), some (.ref e), some (.ref gv), some (.str was), some (.ref o), some (.ref w3), some (.ref bv), some (.ref O), v11, none, none, none]
          refine for_it (walk_tup (xs := xs9)) (fun i σ H' => ∃ v11 xs, σ = σ2 v11 ∧ xs.length ≤ 8 + i ∧ OG mg qlN T p c O gv hs (k0 :: mr) (fun z => .str (f z)) Hx (n + 11 + 8) xs H' ∧ Evl.Ex (w1 O (wo p c T Hs)) (w1 O (wo p c T H'))) ⟨none, xs1, rfl, by omega, OG6, fun _ _ h => h⟩ ?_ ?_ ?_
          · rintro i3 σ H' _ ⟨v11, xs, rfl, _, _, ex⟩
            exact SqT.of (wo_to _ _ (w1_to _ _ (ex _ _ g4)))
          · rintro i3 od σ H2 H3 hi3 ⟨v11, xs, rfl, xl, OG0, ex⟩ ⟨rfl, hu⟩
            obtain ⟨⟨nu, hPu⟩, hln, hshv, hbad⟩ := oddOk od (List.mem_of_getElem? hu)
            refine ⟨_, rfl, .inl ⟨rfl, _, SqL.of OG0.at_⟩, ?_⟩
            refine ⟨_, rfl, gv, _, rfl, wo_to _ _ (w1_to _ _ OG0.giv), fun H1 z1 ts x1 hz1 hts hzt h1 hpr => ?_⟩
            have x1 : Evl.Ex H3 H1 := x1
            have tl1 : ts.length = mr.length + 1 := by rw [Paired.length hpr, tab_length]; rfl
            refine ⟨_, rfl, z1, _, rfl, SqL.of h1, fun s1 hs1 => ?_⟩
            rw [cut1 (by rw [List.length_map, tl1]; omega), ← List.map_drop]
            have y1 := Evl.Ex.new (o := .lst ((ts.drop 1).map V.ref)) hs1
            have OG1 := OG0.ex (x1.trans y1)
            refine ⟨_, rfl, gv, _, rfl, wo_to _ _ (w1_to _ _ OG1.giv), fun k1 hk1 => ?_⟩
            have y1b := Evl.Ex.new (o := .lst ((tab (k0 :: mr) fun z => V.str (f z)).map fun kv => kV kv.1)) hk1
            refine ⟨k1, _, 0, _, rfl, rfl, SqL.of upd_same, atI_nat (j := 0) rfl, _, rfl, by show 2 ≤ sizeLine; decide, fun t2 ht2 => ⟨by show 1 ≤ sizeLine; decide, fun b2 hb2 => ?_⟩⟩
            have y2 := Evl.Ex.new (o := .tup [V.str k0, od]) ht2
            have y3 := Evl.Ex.new (o := .lst [V.ref t2]) hb2
            refine ⟨s1, b2, _, _, rfl, rfl, y3 _ _ (y2 _ _ (y1b _ _ upd_same)), upd_same, Nat.le_trans (show _ + 1 ≤ 9 by rw [List.length_map, List.length_drop]; omega) (by decide), fun c2 hc2 => ?_⟩
            have y4 := Evl.Ex.new (o := .lst ((ts.drop 1).map V.ref ++ [V.ref t2])) hc2
            refine ⟨c2, ts.drop 1 ++ [t2], tab (mr ++ [k0]) (gOne f k0 od), rfl, SqL.of (by rw [upd_same, List.map_append]; rfl), tailP hpr ((((y1.trans y1b).trans y2).trans y3).trans y4) (gOne_ne k0n) (by rw [gOne_at]; exact y4 _ _ (y3 _ _ upd_same)), fun d2 hd2 => ?_⟩
            rw [merge_one (nd_app mrn k0n)]
            have y5 := Evl.Ex.new (o := .dK (tab (mr ++ [k0]) (gOne f k0 od))) hd2
            have x6 := x1.trans ((((y1.trans y1b).trans y2).trans y3).trans y4)
            have OG2 := OG0.ex (x6.trans y5)
            have wd2 := (OG0.ex x6).wat (d := d2) y5 hd2 upd_same
            have ex2 := ex.trans (w1_ex (T := O) (wo_ex (p := p) (c := c) (T := T) (x6.trans y5)))
            have odne : od ≠ .ref d2 := fun e => by
              have h := (hPu.ext ex).ext (w1_to.trans wo_to)
              exact (Pl.ne_new h (none_of (fun o h => x6 _ _ h) hd2)) e
            have od2 := odd_dic (hs := hs) wd2 (fun z hz => by
              unfold gOne
              by_cases ez : z = k0
              · rw [if_pos ez]
                exact ⟨⟨nu, hPu.ext ex2⟩, odne, hln, hshv.ex ex2⟩
              · rw [if_neg ez]
                refine txt_ok ⟨_, rfl, frs z ?_⟩
                rcases List.mem_append.mp hz with hz | hz
                · exact hz
                · exact absurd (List.mem_singleton.mp hz) ez) (ren_name (k := k0) (by simp) (by rw [gOne_at]; exact hbad)) (by rw [List.length_append]; show _ + 1 ≤ 1000; omega)
            have OG7 := OG2.cat nO.1 nO.2.1 (ys := [V.ref d2]) (fun y hy => by rw [List.mem_singleton.mp hy]; exact od2)
            refine ⟨O, xs, _, rfl, rfl, OG2.at_, Nat.lt_of_le_of_lt (show xs.length ≤ 17 by omega) (by decide), _, _, rfl, by rw [List.length_append, List.length_singleton]; omega, OG7, ?_⟩
            rw [w1_cat]
            exact ex2
          · rintro σ H2 ⟨v11, xs, rfl, xl, OG0, _⟩
            refine ⟨fun σ H' => ∃ v11 xs, σ = σ2 v11 ∧ xs.length ≤ 20 ∧ OG mg qlN T p c O gv hs (k0 :: mr) (fun z => .str (f z)) Hx (n + 11 + 8) xs H', ?_, ?_⟩
            · have L20 := ((L.ex M20.k).ex OG0.ws.k).ex wo_to
              refine ⟨_, rfl, l, _, rfl, .inl (SqL.of L20.lat), _, _, rfl, rfl, _, rfl, ?_⟩
              refine ite2 (fun w => ?_) (fun _ => ⟨v11, xs, rfl, by omega, OG0⟩)
              have h1l : 1 < (h0 :: ht).length := by
                have w := of_decide_eq_true w
                rw [List.length_map] at w
                omega
              obtain ⟨k1, mr2, rfl⟩ : ∃ k1 mr2, mr = k1 :: mr2 := by
                cases mr with
                | nil =>
                  have := mp.length_eq
                  rw [List.length_singleton] at this
                  omega
                | cons a r => exact ⟨a, r, rfl⟩
              refine ⟨_, rfl, .inl ⟨rfl, _, SqL.of OG0.at_⟩, ?_⟩
              refine ⟨_, rfl, gv, _, rfl, wo_to _ _ (w1_to _ _ OG0.giv), fun H1 z1 ts x1 hz1 hts hzt h1 hpr => ?_⟩
              have x1 : Evl.Ex H2 H1 := x1
              have tl1 : ts.length = (k1 :: mr2).length + 1 := by rw [Paired.length hpr, tab_length]; rfl
              refine ⟨_, rfl, z1, _, rfl, SqL.of h1, fun s1 hs1 => ?_⟩
              rw [cut1 (by rw [List.length_map, tl1]; omega), ← List.map_drop]
              have y1 := Evl.Ex.new (o := .lst ((ts.drop 1).map V.ref)) hs1
              have OG1 := OG0.ex (x1.trans y1)
              refine ⟨_, rfl, gv, _, rfl, wo_to _ _ (w1_to _ _ OG1.giv), fun e1 he1 => ?_⟩
              have y1b := Evl.Ex.new (o := .lst ((tab (k0 :: k1 :: mr2) fun z => V.str (f z)).map fun kv => kV kv.1)) he1
              have OG1b := OG1.ex y1b
              refine ⟨e1, _, 0, _, rfl, rfl, SqL.of upd_same, atI_nat (j := 0) rfl, _, rfl, _, rfl, gv, _, rfl, wo_to _ _ (w1_to _ _ OG1b.giv), fun e2 he2 => ?_⟩
              have y1c := Evl.Ex.new (o := .lst ((tab (k0 :: k1 :: mr2) fun z => V.str (f z)).map fun kv => kV kv.1)) he2
              have OG1c := OG1b.ex y1c
              refine ⟨e2, _, 1, _, rfl, rfl, SqL.of upd_same, atI_nat (j := 1) rfl, gv, V.str (f k1), rfl, ?_, by show 2 ≤ sizeLine; decide, fun t2 ht2 => ⟨by show 1 ≤ sizeLine; decide, fun b2 hb2 => ?_⟩⟩
              · have := DGet.k (k := Sum.inr k1) (wo_to _ _ (w1_to _ _ OG1c.giv))
                rw [val_in (by simp)] at this
                exact this
              have y2 := Evl.Ex.new (o := .tup [V.str k0, .str (f k1)]) ht2
              have y3 := Evl.Ex.new (o := .lst [V.ref t2]) hb2
              refine ⟨s1, b2, _, _, rfl, rfl, y3 _ _ (y2 _ _ (y1c _ _ (y1b _ _ upd_same))), upd_same, Nat.le_trans (show _ + 1 ≤ 9 by rw [List.length_map, List.length_drop]; omega) (by decide), fun c2 hc2 => ?_⟩
              have y4 := Evl.Ex.new (o := .lst ((ts.drop 1).map V.ref ++ [V.ref t2])) hc2
              refine ⟨c2, ts.drop 1 ++ [t2], tab ((k1 :: mr2) ++ [k0]) (gOne f k0 (.str (f k1))), rfl, SqL.of (by rw [upd_same, List.map_append]; rfl), tailP hpr (((((y1.trans y1b).trans y1c).trans y2).trans y3).trans y4) (gOne_ne k0n) (by rw [gOne_at]; exact y4 _ _ (y3 _ _ upd_same)), fun d2 hd2 => ?_⟩
              rw [merge_one (nd_app mrn k0n)]
              have y5 := Evl.Ex.new (o := .dK (tab ((k1 :: mr2) ++ [k0]) (gOne f k0 (.str (f k1))))) hd2
              have x6 := x1.trans (((((y1.trans y1b).trans y1c).trans y2).trans y3).trans y4)
              have OG2 := OG0.ex (x6.trans y5)
              have wd2 := (OG0.ex x6).wat (d := d2) y5 hd2 upd_same
              have od2 := odd_dic (hs := hs) wd2 (fun z hz => by
                unfold gOne
                by_cases ez : z = k0
                · rw [if_pos ez]
                  exact txt_ok ⟨_, rfl, frs k1 List.mem_cons_self⟩
                · rw [if_neg ez]
                  refine txt_ok ⟨_, rfl, frs z ?_⟩
                  rcases List.mem_append.mp hz with hz | hz
                  · exact hz
                  · exact absurd (List.mem_singleton.mp hz) ez) (ren_dup fun nd => by
                rw [List.map_append, List.nodup_append] at nd
                have h1 : gOne f k0 (.str (f k1)) k1 = .str (f k1) := (gOne_ne k0n k1 List.mem_cons_self).symm
                refine nd.2.2 (gOne f k0 (.str (f k1)) k1) (List.mem_map.mpr ⟨k1, List.mem_cons_self, rfl⟩) (gOne f k0 (.str (f k1)) k0) (List.mem_map.mpr ⟨k0, by simp, rfl⟩) ?_
                rw [h1, gOne_at]) (by rw [List.length_append]; show _ + 1 ≤ 1000; omega)
              have OG7 := OG2.cat nO.1 nO.2.1 (ys := [V.ref d2]) (fun y hy => by rw [List.mem_singleton.mp hy]; exact od2)
              exact ⟨O, xs, _, rfl, rfl, OG2.at_, Nat.lt_of_le_of_lt (show xs.length ≤ 17 by omega) (by decide), v11, _, rfl, by rw [List.length_append, List.length_singleton]; omega, OG7⟩
            clear OG0 xl
            rintro σ Hb ⟨v11, xs, rfl, xl, OG0⟩
            have Lb := (L.ex M20.k).ex OG0.ws.k
            have Nb := OG0.ws.now
            have Ow := wo_at (p := p) (c := c) (T := T) OG0.at_ nO.1 nO.2.1 nO.2.2
            refine ⟨_, rfl, O, rfl, ⟨_, SqL.of OG0.at_⟩, fun LL hLL => ?_⟩
            have nLL := OG0.ws.ne hLL
            refine lc_it (walk_list (xs := xs)) (fun j H' => Ws mg qlN T p c Hb (n + 11 + 8) H' ∧ H' LL = some (.lst ((List.replicate j true).map V.bl))) ⟨Nb.ex (Evl.Ex.new hLL), upd_same⟩ (fun j H' _ hp => SqL.of (hp.1.get Ow)) (fun j y G1 G1' hj hp hy => ?_) (fun G1 hp => ?_)
            · obtain ⟨M, hl8⟩ := hp
              obtain ⟨rfl, hy⟩ := hy
              have oy := (OG0.all y (List.mem_of_getElem? hy)).ex w1_to
              refine ⟨rfl, trivial, M.tab, fun G2 g2 Tg => ?_⟩
              have M2 := M.grow g2 Tg
              have hl8 := g2 _ _ nLL.2.2 hl8
              have V2 := (Lb.ex M2.k).ex wo_to
              obtain ⟨ob, b1, b2, b3⟩ := (oy.ex (M2.k.trans wo_to)).1
              refine ⟨_, rfl, _, rfl, v, y, ob, hs, ps, m, rfl, V2.vil, L.good, b1, b2, fun _ H' d hb hd => ?_, fun kvs _ z => absurd (b3.symm.trans z) (by simp)⟩
              refine R.m6 (H1 := G2) (fun X2 r2 e2 _ hr2 => ?_) hb hd
              have M3 := M2.ex e2
              refine ⟨_, rfl, by show 2 ≤ sizeLine; decide, fun ta hta => ?_⟩
              have z1 := Evl.Ex.new (o := .tup [V.str "names", y]) hta
              have M4 := M3.ex z1
              refine ⟨_, _, rfl, .inr (.inr (.inl ⟨r2, ta, _, _, rfl, rfl, .inl (z1 _ _ hr2), upd_same, by show 2 ≤ 1000; decide, .cons (.inl ⟨rfl, rfl⟩) (.cons ((oy.ex (M4.k.trans wo_to)).2) .nil)⟩)), fun H9 x9 => ?_⟩
              have hl9 := x9 _ _ (z1 _ _ (e2 _ _ hl8))
              refine ⟨_, hl9, by rw [List.length_map, List.length_replicate]; exact Nat.lt_of_lt_of_le (show j < 21 by omega) (by decide), (M4.ex x9).mut hl9 nLL.1 nLL.2.1 hLL, ?_⟩
              rw [upd_same, List.replicate_succ', List.map_append]
              rfl
            · obtain ⟨M, hl8⟩ := hp
              refine ⟨LL, _, rfl, SqL.of hl8, ?_⟩
              have : (List.replicate xs.length true).all id = true := by simp
              rw [this]
              exact k _ ((M20.trans (OG0.ws.trans M)).mono (by omega))
end
end K07

namespace K07
open PySem PySem.Spec PyProof.Rows L2 Tr Sq Dk Dt Exs Oeq
/-! ### law -/
def w4 (p c T1 T2 T3 T4 : Addr) (H : Hp) : Hp := fun b => if b = p ∨ b = c ∨ b = T1 ∨ b = T2 ∨ b = T3 ∨ b = T4 then none else H b
section
variable {p c T1 T2 T3 T4 : Addr} {H H' : Hp}
theorem w4_to : Evl.Ex (w4 p c T1 T2 T3 T4 H) H := fun b o h => by
  unfold w4 at h
  split at h
  · cases h
  · exact h
theorem w4_at {b : Addr} {o : HO} (h : H b = some o) (n : b ≠ p ∧ b ≠ c ∧ b ≠ T1 ∧ b ≠ T2 ∧ b ≠ T3 ∧ b ≠ T4) : w4 p c T1 T2 T3 T4 H b = some o := by
  unfold w4
  obtain ⟨n1, n2, n3, n4, n5, n6⟩ := n
  rw [if_neg (fun z => by rcases z with z | z | z | z | z | z <;> contradiction)]
  exact h
theorem w4_ne {b : Addr} {o : HO} (h : w4 p c T1 T2 T3 T4 H b = some o) : b ≠ p ∧ b ≠ c ∧ b ≠ T1 ∧ b ≠ T2 ∧ b ≠ T3 ∧ b ≠ T4 := by
  unfold w4 at h
  split at h
  · cases h
  · rename_i z
    exact ⟨fun q => z (.inl q), fun q => z (.inr (.inl q)), fun q => z (.inr (.inr (.inl q))), fun q => z (.inr (.inr (.inr (.inl q)))), fun q => z (.inr (.inr (.inr (.inr (.inl q))))), fun q => z (.inr (.inr (.inr (.inr (.inr q)))))⟩
theorem w4_of (e : ∀ b o, (b ≠ p ∧ b ≠ c ∧ b ≠ T1 ∧ b ≠ T2 ∧ b ≠ T3 ∧ b ≠ T4) → H b = some o → H' b = some o) : Evl.Ex (w4 p c T1 T2 T3 T4 H) (w4 p c T1 T2 T3 T4 H') := fun b o h => w4_at (e b o (w4_ne h) (w4_to _ _ h)) (w4_ne h)
theorem w4_ex (e : Evl.Ex H H') : Evl.Ex (w4 p c T1 T2 T3 T4 H) (w4 p c T1 T2 T3 T4 H') := w4_of fun b o _ h => e b o h
theorem w4_o1 : Evl.Ex (w4 p c T1 T2 T3 T4 H) (wo p c T1 H) := fun b o h => have h1 := w4_ne h; wo_at (w4_to _ _ h) h1.1 h1.2.1 h1.2.2.1
theorem w4_o2 : Evl.Ex (w4 p c T1 T2 T3 T4 H) (wo p c T2 H) := fun b o h => have h1 := w4_ne h; wo_at (w4_to _ _ h) h1.1 h1.2.1 h1.2.2.2.1
theorem w4_o3 : Evl.Ex (w4 p c T1 T2 T3 T4 H) (wo p c T3 H) := fun b o h => have h1 := w4_ne h; wo_at (w4_to _ _ h) h1.1 h1.2.1 h1.2.2.2.2.1
theorem w4_o4 : Evl.Ex (w4 p c T1 T2 T3 T4 H) (wo p c T4 H) := fun b o h => have h1 := w4_ne h; wo_at (w4_to _ _ h) h1.1 h1.2.1 h1.2.2.2.2.2
end
theorem tab_keep {mg : Str → Option Value} {q : Str} {T T' : Addr} {H H' : Hp} (h : Lm.TabD mg [q] H T) (hT' : ∃ ps, H T' = some (.tbl ps)) (ne : T ≠ T') (e : ∀ b o, b ≠ T' → H b = some o → (∀ xs, o ≠ .lst xs) → H' b = some o) : Lm.TabD mg [q] H' T := by
  obtain ⟨ps, h1, h2, h3⟩ := h
  obtain ⟨ps', hp'⟩ := hT'
  refine ⟨ps, e _ _ ne h1 (fun xs z => by cases z), h2, fun pos cv hc => ?_⟩
  obtain ⟨c, P2, e1, e2, e3, e4, e5⟩ := h3 pos cv hc
  refine ⟨c, P2, e1, e _ _ (fun z => ?_) e2 (fun xs => codeT_nl xs), e3, True.intro, e5⟩
  rw [z, hp'] at e2
  unfold Lm.CodeT at e2
  cases e2
theorem tab_at {mg : Str → Option Value} {q : Str} {T : Addr} {H : Hp} (h : Lm.TabD mg [q] H T) : ∃ ps, H T = some (.tbl ps) := by
  obtain ⟨ps, h1, _⟩ := h
  exact ⟨ps, h1⟩
theorem str_nl {p c : Addr} {n : Nat} {H : Hp} (s : StrAt H p c n) {b : Addr} {o : HO} (h : H b = some o) (hn : ∀ xs, o ≠ .lst xs) : b ≠ p ∧ b ≠ c := by
  obtain ⟨L, cells, a, kk, m, s1, s2, r⟩ := s
  exact ⟨fun z => (by rw [z, s1] at h; exact hn _ (Option.some.inj h).symm), fun z => (by rw [z, s2] at h; exact hn _ (Option.some.inj h).symm)⟩
structure W4 (mg : Str → Option Value) (T1 T2 T3 T4 p c : Addr) (H0 : Hp) (n : Nat) (H : Hp) : Prop where
  str : StrAt H p c n
  t1 : Lm.TabD mg [qlP] H T1
  t2 : Lm.TabD mg [qlB] H T2
  t3 : Lm.TabD mg [qlJ] H T3
  t4 : Lm.TabD mg [qlN] H T4
  k : Evl.Ex (w4 p c T1 T2 T3 T4 H0) (w4 p c T1 T2 T3 T4 H)
section
variable {mg : Str → Option Value} {T1 T2 T3 T4 p c : Addr} {H0 H H' : Hp} {n n' : Nat}
theorem W4.get (M : W4 mg T1 T2 T3 T4 p c H0 n H) {b : Addr} {o : HO} (h : w4 p c T1 T2 T3 T4 H0 b = some o) : H b = some o := w4_to _ _ (M.k _ _ h)
theorem W4.ne (M : W4 mg T1 T2 T3 T4 p c H0 n H) {b : Addr} (h : H b = none) : b ≠ p ∧ b ≠ c ∧ b ≠ T1 ∧ b ≠ T2 ∧ b ≠ T3 ∧ b ≠ T4 := by
  obtain ⟨p1, e1⟩ := tab_at M.t1
  obtain ⟨p2, e2⟩ := tab_at M.t2
  obtain ⟨p3, e3⟩ := tab_at M.t3
  obtain ⟨p4, e4⟩ := tab_at M.t4
  obtain ⟨h1, h2⟩ := M.str.ne h
  exact ⟨h1, h2, fun z => (by rw [z, e1] at h; cases h), fun z => (by rw [z, e2] at h; cases h), fun z => (by rw [z, e3] at h; cases h), fun z => (by rw [z, e4] at h; cases h)⟩
theorem W4.ex (M : W4 mg T1 T2 T3 T4 p c H0 n H) (e : Evl.Ex H H') : W4 mg T1 T2 T3 T4 p c H0 n H' := ⟨M.str.keep e, tabD_kl _ M.t1 (Kl.ex e), tabD_kl _ M.t2 (Kl.ex e), tabD_kl _ M.t3 (Kl.ex e), tabD_kl _ M.t4 (Kl.ex e), M.k.trans (w4_ex e)⟩
theorem W4.kp (M : W4 mg T1 T2 T3 T4 p c H0 n H) (e : Kp p c H H') (s : StrAt H' p c n') : W4 mg T1 T2 T3 T4 p c H0 n' H' := ⟨s, tabD_kl _ M.t1 (Kl.kp M.str e), tabD_kl _ M.t2 (Kl.kp M.str e), tabD_kl _ M.t3 (Kl.kp M.str e), tabD_kl _ M.t4 (Kl.kp M.str e), M.k.trans (w4_of fun b o h1 h => e b o h h1.1 h1.2.1)⟩
theorem W4.now (M : W4 mg T1 T2 T3 T4 p c H0 n H) : W4 mg T1 T2 T3 T4 p c H n H := ⟨M.str, M.t1, M.t2, M.t3, M.t4, fun _ _ h => h⟩
theorem W4.mono (M : W4 mg T1 T2 T3 T4 p c H0 n H) (h : n ≤ n') : W4 mg T1 T2 T3 T4 p c H0 n' H := ⟨M.str.mono h, M.t1, M.t2, M.t3, M.t4, M.k⟩
theorem W4.p1 (M : W4 mg T1 T2 T3 T4 p c H0 n H) (h2 : T2 ≠ T1) (h3 : T3 ≠ T1) (h4 : T4 ≠ T1) (N : Ws mg qlP T1 p c H n' H') : W4 mg T1 T2 T3 T4 p c H0 n' H' := by
  have e : ∀ b o, b ≠ p → b ≠ c → b ≠ T1 → H b = some o → H' b = some o := fun b o h1 h2 h3 h => wo_to _ _ (N.k _ _ (wo_at h h1 h2 h3))
  exact ⟨N.str, N.tab, tab_keep M.t2 (tab_at M.t1) h2 fun b o h1 h hn => e b o (str_nl M.str h hn).1 (str_nl M.str h hn).2 h1 h, tab_keep M.t3 (tab_at M.t1) h3 fun b o h1 h hn => e b o (str_nl M.str h hn).1 (str_nl M.str h hn).2 h1 h, tab_keep M.t4 (tab_at M.t1) h4 fun b o h1 h hn => e b o (str_nl M.str h hn).1 (str_nl M.str h hn).2 h1 h, M.k.trans (w4_of fun b o h1 h => e b o h1.1 h1.2.1 h1.2.2.1 h)⟩
theorem W4.p2 (M : W4 mg T1 T2 T3 T4 p c H0 n H) (h1 : T1 ≠ T2) (h3 : T3 ≠ T2) (h4 : T4 ≠ T2) (N : Ws mg qlB T2 p c H n' H') : W4 mg T1 T2 T3 T4 p c H0 n' H' := by
  have e : ∀ b o, b ≠ p → b ≠ c → b ≠ T2 → H b = some o → H' b = some o := fun b o h1 h2 h3 h => wo_to _ _ (N.k _ _ (wo_at h h1 h2 h3))
  exact ⟨N.str, tab_keep M.t1 (tab_at M.t2) h1 fun b o h1 h hn => e b o (str_nl M.str h hn).1 (str_nl M.str h hn).2 h1 h, N.tab, tab_keep M.t3 (tab_at M.t2) h3 fun b o h1 h hn => e b o (str_nl M.str h hn).1 (str_nl M.str h hn).2 h1 h, tab_keep M.t4 (tab_at M.t2) h4 fun b o h1 h hn => e b o (str_nl M.str h hn).1 (str_nl M.str h hn).2 h1 h, M.k.trans (w4_of fun b o h1 h => e b o h1.1 h1.2.1 h1.2.2.2.1 h)⟩
theorem W4.p3 (M : W4 mg T1 T2 T3 T4 p c H0 n H) (h1 : T1 ≠ T3) (h2 : T2 ≠ T3) (h4 : T4 ≠ T3) (N : Ws mg qlJ T3 p c H n' H') : W4 mg T1 T2 T3 T4 p c H0 n' H' := by
  have e : ∀ b o, b ≠ p → b ≠ c → b ≠ T3 → H b = some o → H' b = some o := fun b o h1 h2 h3 h => wo_to _ _ (N.k _ _ (wo_at h h1 h2 h3))
  exact ⟨N.str, tab_keep M.t1 (tab_at M.t3) h1 fun b o h1 h hn => e b o (str_nl M.str h hn).1 (str_nl M.str h hn).2 h1 h, tab_keep M.t2 (tab_at M.t3) h2 fun b o h1 h hn => e b o (str_nl M.str h hn).1 (str_nl M.str h hn).2 h1 h, N.tab, tab_keep M.t4 (tab_at M.t3) h4 fun b o h1 h hn => e b o (str_nl M.str h hn).1 (str_nl M.str h hn).2 h1 h, M.k.trans (w4_of fun b o h1 h => e b o h1.1 h1.2.1 h1.2.2.2.2.1 h)⟩
theorem W4.p4 (M : W4 mg T1 T2 T3 T4 p c H0 n H) (h1 : T1 ≠ T4) (h2 : T2 ≠ T4) (h3 : T3 ≠ T4) (N : Ws mg qlN T4 p c H n' H') : W4 mg T1 T2 T3 T4 p c H0 n' H' := by
  have e : ∀ b o, b ≠ p → b ≠ c → b ≠ T4 → H b = some o → H' b = some o := fun b o h1 h2 h3 h => wo_to _ _ (N.k _ _ (wo_at h h1 h2 h3))
  exact ⟨N.str, tab_keep M.t1 (tab_at M.t4) h1 fun b o h1 h hn => e b o (str_nl M.str h hn).1 (str_nl M.str h hn).2 h1 h, tab_keep M.t2 (tab_at M.t4) h2 fun b o h1 h hn => e b o (str_nl M.str h hn).1 (str_nl M.str h hn).2 h1 h, tab_keep M.t3 (tab_at M.t4) h3 fun b o h1 h hn => e b o (str_nl M.str h hn).1 (str_nl M.str h hn).2 h1 h, N.tab, M.k.trans (w4_of fun b o h1 h => e b o h1.1 h1.2.1 h1.2.2.2.2.2 h)⟩
end
abbrev sLaw : Stmt := top 51
abbrev nmLaw : List Str := ["script", "stream", "turn", "houses", "paths", "village"]
theorem scLaw : FnScope nmLaw ["script"] (defScope sLaw) := ⟨rfl, rfl, rfl, by decide +kernel, rfl, by decide +kernel, by decide +kernel⟩
structure EnvL (P : Program) (w : World) (K : PySem.W.Frag) (mg : Str → Option Value) (base : Heap) (C T1 T2 T3 T4 : Addr) : Prop where
  start : ∃ f fd, mg "_law_start" = some (.ref f) ∧ FnOk P w K mg base CX0 1 f fd ["script"] (spStart K) ∧ PySem.W.keepIn K (.ref f) = true ∧ L2.Binds K fd ["script"] []
  vill : ∃ f fd, mg "_law_v_village" = some (.ref f) ∧ FnOk P w K mg base CX0 4 f fd ["stream", "most"] spVill ∧ PySem.W.keepIn K (.ref f) = true ∧ L2.Binds K fd ["stream", "most"] []
  parts : ∃ f fd, mg "_law_parts_right" = some (.ref f) ∧ FnOk P w K mg base CX0 10 f fd ["stream", "village", "houses", "paths"] (spPar mg C T1) ∧ PySem.W.keepIn K (.ref f) = true ∧ L2.Binds K fd ["stream", "village", "houses", "paths"] []
  built : ∃ f fd, mg "_law_built_right" = some (.ref f) ∧ FnOk P w K mg base CX0 10 f fd ["stream", "village", "houses", "paths"] (spBui mg C T2) ∧ PySem.W.keepIn K (.ref f) = true ∧ L2.Binds K fd ["stream", "village", "houses", "paths"] []
  joined : ∃ f fd, mg "_law_joined_right" = some (.ref f) ∧ FnOk P w K mg base CX0 10 f fd ["stream", "village", "houses", "paths"] (spJoi mg C T3) ∧ PySem.W.keepIn K (.ref f) = true ∧ L2.Binds K fd ["stream", "village", "houses", "paths"] []
  names : ∃ f fd, mg "_law_names_right" = some (.ref f) ∧ (∀ A : Around, Room 11 A → A.guards = some [] → Gd.OkAt P w K mg base CX0 A f fd ["stream", "village", "houses", "paths"] (spNam mg C T4)) ∧ PySem.W.keepIn K (.ref f) = true ∧ L2.Binds K fd ["stream", "village", "houses", "paths"] []
  mkv : ∃ f fd, mg "Village" = some (.ref C) ∧ Mk K C f ∧ FnOk P w K mg base CX0 4 f fd ["self", "houses", "paths"] (spInitG K) ∧ L2.Binds K fd ["self", "houses", "paths"] []
  vc : VC P w K mg base C
  gRange : mg "range" = none
def spLaw (K : PySem.W.Frag) (T1 T2 T3 T4 : Addr) : Sp := fun vs H Q _ => ∃ (a : Addr) (ns : List Int), vs = [.ref a] ∧ SqL K H a (ns.map V.int) ∧ ns.length ≤ 63 ∧ H T1 = some (.tbl #[]) ∧ H T2 = some (.tbl #[]) ∧ H T3 = some (.tbl #[]) ∧ H T4 = some (.tbl #[]) ∧ ∀ H', Q (.bl true) H'
section
variable {P : Program} {w : World} {K : PySem.W.Frag} {mg : Str → Option Value} {base : Heap}
theorem ok_law {C T1 T2 T3 T4 f cL : Addr} {fd : FuncData} {A : Around} (F : FnP K "law" sLaw f fd) (hcode : fd.code = .ref cL) (n12 : T1 ≠ T2) (n13 : T1 ≠ T3) (n14 : T1 ≠ T4) (n23 : T2 ≠ T3) (n24 : T2 ≠ T4) (n34 : T3 ≠ T4) (hr0 : Room 12 A) (hg : A.guards = some []) (D : EnvL P w K mg base C T1 T2 T3 T4) : Gd.OkAt P w K mg base CX0 A f fd ["script"] (spLaw K T1 T2 T3 T4) := by
  obtain ⟨fS, fdS, gS, GS, kS, bS⟩ := D.start
  obtain ⟨fV, fdV, gV, GV, kVl, bV⟩ := D.vill
  obtain ⟨fA, fdA, gA, GA, kA, bA⟩ := D.parts
  obtain ⟨fB, fdB, gB, GB, kB, bB⟩ := D.built
  obtain ⟨fJ, fdJ, gJ, GJ, kJ, bJ⟩ := D.joined
  obtain ⟨fN, fdN, gNa, ON, kN, bN⟩ := D.names
  obtain ⟨fI, fdI, gN, MN, GI, bI⟩ := D.mkv
  have vc := D.vc
  have gRg := D.gRange
  refine Gd.okAt_def (k := 11) F hcode scLaw hr0 (fun vs H Q E h => ?_) (fun outer s H vs Q E hr h => ?_)
  · obtain ⟨a, ns, rfl, _⟩ := h
    rfl
  · obtain ⟨a, ns, rfl, hq, hl, hT1, hT2, hT3, hT4, k⟩ := h
    refine' ⟨_, PSs.nox (pss_cons (ps_set (i := 1) scLaw.nd rfl (.inl rfl) (pe_call GS (hr.mono (by decide)) (by rfl) gS kS bS .nil pass0 (pa_cons (pv 0) pa_nil)))
      (pss_cons (ps_for PassesOwn.never rfl (pi_range1 (by rfl) gRg (pa_cons pe_int pa_nil)) (pg_name (i := 2) scLaw.nd rfl (.inl rfl))
        (pss_cons (ps_asg (pe_call GV (hr.mono (by decide)) (by rfl) gV kVl bV .nil pass0 (pa_cons (pv 1) (pa_cons pe_int pa_nil))) (pg_tup (by rfl) (pgs_cons (pg_name (i := 3) scLaw.nd rfl (.inl rfl)) (pgs_cons (pg_name (i := 4) scLaw.nd rfl (.inl rfl)) pgs_nil))))
        (pss_cons (ps_set (i := 5) scLaw.nd rfl (.inl rfl) (pe_make MN GI (hr.mono (by decide)) (by rfl) gN bI .nil pass0 (pa_cons (pv 3) (pa_cons (pv 4) pa_nil))))
        (pss_cons (ps_if (PW.pt (pw_or (pt_not (pt_val (pe_call GA (hr.mono (by decide)) (by rfl) gA kA bA .nil pass0 (pa_cons (pv 1) (pa_cons (pv 5) (pa_cons (pv 3) (pa_cons (pv 4) pa_nil))))))) (pw_or1 (pt_not (pt_val (pe_call GB (hr.mono (by decide)) (by rfl) gB kB bB .nil pass0 (pa_cons (pv 1) (pa_cons (pv 5) (pa_cons (pv 3) (pa_cons (pv 4) pa_nil)))))))))) (pss_one (ps_ret pe_bl)) pss_nil)
        (pss_cons (ps_if (pt_not (pt_val (pe_call GJ (hr.mono (by decide)) (by rfl) gJ kJ bJ .nil pass0 (pa_cons (pv 1) (pa_cons (pv 5) (pa_cons (pv 3) (pa_cons (pv 4) pa_nil))))))) (pss_one (ps_ret pe_bl)) pss_nil)
        (pss_one (ps_if (pt_not (pt_val (Gd.pe_callO (ON _ hr hg) spNam_len (by rfl) gNa kN bN pass0 (pa_cons (pv 1) (pa_cons (pv 5) (pa_cons (pv 3) (pa_cons (pv 4) pa_nil))))))) (pss_one (ps_ret pe_bl)) pss_nil)))))))
      (pss_one (ps_ret pe_bl)))), ?rd⟩
    refine ⟨_, rfl, a, ns, rfl, hq, hl, fun p c H1 hp0 hc0 e1 hS1 => ?_⟩
    have hT11 : Lm.TabD mg [qlP] H1 T1 := Lm.tabD_nil (e1 _ _ hT1)
    have hT12 : Lm.TabD mg [qlB] H1 T2 := Lm.tabD_nil (e1 _ _ hT2)
    have hT13 : Lm.TabD mg [qlJ] H1 T3 := Lm.tabD_nil (e1 _ _ hT3)
    have hT14 : Lm.TabD mg [qlN] H1 T4 := Lm.tabD_nil (e1 _ _ hT4)
    refine ⟨_, rfl, by decide, by decide, ?_⟩
    refine for_range (lo := 0) (n := 4) (fun i σ H2 => ∃ v2 v3 v4 v5, σ = [some (.ref a), some (.ref p), v2, v3, v4, v5] ∧ StrAt H2 p c (i * 1000) ∧ Lm.TabD mg [qlP] H2 T1 ∧ Lm.TabD mg [qlB] H2 T2 ∧ Lm.TabD mg [qlJ] H2 T3 ∧ Lm.TabD mg [qlN] H2 T4) ⟨none, none, none, none, rfl, by rw [Nat.zero_mul]; exact hS1, hT11, hT12, hT13, hT14⟩ ?_ ?_
    · rintro i σ H2 hi ⟨v2, v3, v4, v5, rfl, hS2, hT21, hT22, hT23, hT24⟩
      have M2 : W4 mg T1 T2 T3 T4 p c H2 (i * 1000) H2 := ⟨hS2, hT21, hT22, hT23, hT24, fun _ _ h => h⟩
      refine ⟨_, rfl, p, c, _, 8, rfl, hS2, by omega, by decide, by decide, fun t a_ b_ hs0 qs H3 ht ha hb hq0 ht3 ha3 hb3 hP Tr0 hne h8 hgd hql kp3 s3 => ?_⟩
      refine ⟨t, _, rfl, SqT.of ht3, rfl, _, _, rfl, _, _, rfl, rfl, ?_⟩
      have M3 := M2.kp kp3 s3
      have at2 : ∀ {b : Addr} {o : HO}, H2 b = none → H3 b = some o → w4 p c T1 T2 T3 T4 H3 b = some o := fun h e => w4_at e (M2.ne h)
      have ga := at2 ha ha3
      have gb := at2 hb hb3
      have gP : PrsAt (w4 p c T1 T2 T3 T4 H3) qs := fun r hr => at2 (hq0 r hr) (hP r hr)
      obtain ⟨h0, htl, rfl⟩ : ∃ h0 ht, hs0 = h0 :: ht := by
        cases hs0 with
        | nil => exact absurd rfl hne
        | cons x y => exact ⟨x, y, rfl⟩
      refine ⟨_, rfl, _, rfl, fun v dx hv hdx hne2 => mkV (tl := false) (tq := false) vc.cl vc.n1 vc.n2 vc.n3 ha3 hb3 (fun r hr => ⟨true, hP r hr⟩) Tr0 hne (by omega) (by omega) (fun h hh => good_nm (hgd h hh)) hv hdx hne2 fun H4 hs ps m x4 Vv fr hper hsor hpp hpw Tv => ⟨rfl, ?_⟩⟩
      have M4 := (M3.ex x4).now
      have e4 := w4_ex (p := p) (c := c) (T1 := T1) (T2 := T2) (T3 := T3) (T4 := T4) x4
      have at3 : ∀ {b : Addr} {o : HO}, H3 b = none → H4 b = some o → w4 p c T1 T2 T3 T4 H4 b = some o := fun h e => w4_at e (M3.ne h)
      have Vw : Vil (w4 p c T1 T2 T3 T4 H4) C v hs ps m := ⟨at3 hv Vv.at_, at3 fr.a Vv.la, at3 fr.b Vv.lb, fun t ht => at3 (fr.z t ht) (Vv.pr t ht), Vv.eq, ⟨at3 fr.d Vv.nr.1, fun x hx => at3 (fr.ad x hx) (Vv.nr.2 x hx)⟩⟩
      have LL : LV C (w4 p c T1 T2 T3 T4 H4) v a_ b_ h0 htl hs ps m qs := ⟨Vw, e4 _ _ ga, e4 _ _ gb, gP.ex e4, Tr0, h8, by omega, hgd, hper, hsor, hpp, hpw⟩
      refine ⟨_, rfl, _, rfl, _, rfl, _, rfl, p, c, v, a_, b_, _, h0, htl, hs, ps, m, qs, rfl, M4.str, by omega, M4.t1, LL.ex w4_o1, fun H5 N5 => ⟨_, rfl, iteF ?_⟩⟩
      have M5 := M4.p1 n12.symm n13.symm n14.symm N5
      refine ⟨_, rfl, _, rfl, _, rfl, _, rfl, p, c, v, a_, b_, _, h0, htl, hs, ps, m, qs, rfl, M5.str, by omega, M5.t2, (LL.ex M5.k).ex w4_o2, fun H6 N6 => ⟨_, rfl, iteF ?_⟩⟩
      have M6 := M5.p2 n12 n23.symm n24.symm N6
      refine ⟨_, rfl, _, rfl, _, rfl, _, rfl, p, c, v, a_, b_, _, h0, htl, hs, ps, m, qs, rfl, M6.str, by omega, M6.t3, (LL.ex M6.k).ex w4_o3, fun H7 N7 => ⟨_, rfl, iteF ?_⟩⟩
      have M7 := M6.p3 n13 n23 n34.symm N7
      refine ⟨_, rfl, _, rfl, _, rfl, _, rfl, rfl, p, c, v, a_, b_, _, h0, htl, hs, ps, m, qs, rfl, M7.str, by omega, M7.t4, (LL.ex M7.k).ex w4_o4, fun H8 N8 => ⟨_, rfl, iteF ?_⟩⟩
      have M8 := M7.p4 n14 n24 n34 N8
      exact ⟨_, _, _, _, rfl, M8.str.mono (by omega), M8.t1, M8.t2, M8.t3, M8.t4⟩
    · rintro σ H2 ⟨v2, v3, v4, v5, rfl, _⟩
      exact k H2
end
end K07

namespace Gd
open PySem PySem.Spec PyProof.Rows L2
/-! ### a law's call where nothing is under way -/
/-- what is tracked as the law begins: the tables of code objects, and the script where the written part has it not -/
def H02 (T : List Addr) (free : Bool) (a : Addr) (ob : Obj) (xs : List V) : Hp := fun b => if b ∈ T then some (.tbl #[]) else if b = a ∧ free = true then some (.frz ob (.lst xs)) else none
section
variable {T : List Addr} {free : Bool} {a b : Addr} {ob : Obj} {xs : List V}
theorem h02_tab (h : b ∈ T) : H02 T free a ob xs b = some (.tbl #[]) := if_pos h
theorem h02_cases {u : HO} (h : H02 T free a ob xs b = some u) : (b ∈ T ∧ u = .tbl #[]) ∨ (b ∉ T ∧ b = a ∧ free = true ∧ u = .frz ob (.lst xs)) := by
  unfold H02 at h
  by_cases h1 : b ∈ T
  · rw [if_pos h1] at h
    exact .inl ⟨h1, (Option.some.inj h).symm⟩
  · rw [if_neg h1] at h
    by_cases h2 : b = a ∧ free = true
    · rw [if_pos h2] at h
      exact .inr ⟨h1, h2.1, h2.2, (Option.some.inj h).symm⟩
    · rw [if_neg h2] at h
      cases h
end
theorem top_run2 {P : Program} {w : World} {K : PySem.W.Frag} {mg mb : Str → Option Value} {CX : CXT} {fa a : Addr} {cs : List (Addr × Addr)} {fd : FuncData} {x : Str} {sp : Sp} {st : Shared} {vs : List Value} {ns : List Int}
    (inK : K.In st.heap) (gN : st.heap.Ns mainGlobals mg) (bN : st.heap.Ns builtinsNs mb) (bB : ∀ y : Str, y ≠ "__name__" → mb y = bootBuiltins y) (nl : st.heap.NoLimit) (g0 : st.gens = #[])
    (tabs : ∀ p ∈ cs, st.heap.get? p.2 = some { cls := .none, data := .fields #[] }) (tabK : ∀ p ∈ cs, K.lookup p.2 = none) (codes : ∀ p ∈ cs, PySem.W.CodeHd st.heap p.1 p.2)
    (bm : ∃ (m : Addr) (ob : Obj), mg "__builtins__" = some (.ref m) ∧ m ≠ builtinsNs ∧ st.heap.get? m = some ob ∧ ob.cls = .type "module" ∧ ob.dict = some builtinsNs ∧ ob.data = .plain)
    (ha : st.heap.get? a = some { cls := .type "list", data := .seq vs.toArray }) (hi : IntsAre vs ns) (hz : ns.length ≤ sizeLine)
    (F : ∀ base : Heap, K.In base → base.Ns mainGlobals mg → (∀ p ∈ cs, LamX.TabB base mg p.1 p.2) → OkAt P w K mg base CX callerA fa fd [x] sp) (bind : ∀ (t : Shared) (u : Value), BindsTo t fd ⟨[u], []⟩ [(x, u)])
    (hsp : ∀ H : Hp, (∀ p ∈ cs, H p.2 = some (.tbl #[])) → SqL K H a (ns.map V.int) → sp [.ref a] H (fun v _ => v = .bl true) fun _ _ _ => False) (hCX : ∀ H e t, CX [] H st (fun _ _ _ => False) e t → False) :
    codeAny (model P w) callerA (.call (.ref fa) ⟨[.ref a], []⟩) (fun r t => r = .ok (.ret (.bool true)) ∧ OldK st.heap t.heap ∧ t.os = st.os ∧ AllBare t.gens) st := by
  have rv := vals_ints hi
  have tabAt : ∀ b ∈ cs.map (·.2), st.heap.get? b = some { cls := .none, data := .fields #[] } ∧ K.lookup b = none := fun b hb => by
    obtain ⟨p, hp, rfl⟩ := List.mem_map.mp hb
    exact ⟨tabs p hp, tabK p hp⟩
  have aT : a ∉ cs.map (·.2) := fun z => by
    have q := (tabAt a z).1
    rw [ha] at q
    exact nomatch congrArg Obj.data (Option.some.inj q)
  obtain ⟨fr, hfr⟩ : ∃ fr : Bool, fr = (K.lookup a).isNone := ⟨_, rfl⟩
  obtain ⟨H, hH⟩ : ∃ H : Hp, H = H02 (cs.map (·.2)) fr a { cls := .type "list", data := .seq vs.toArray } (ns.map V.int) := ⟨_, rfl⟩
  have cas : ∀ {b : Addr} {u : HO}, H b = some u → (b ∈ cs.map (·.2) ∧ u = .tbl #[]) ∨ (b ∉ cs.map (·.2) ∧ b = a ∧ fr = true ∧ u = .frz { cls := .type "list", data := .seq vs.toArray } (.lst (ns.map V.int))) := fun {b u} z => h02_cases (by rw [hH] at z; exact z)
  have isTab : ∀ p ∈ cs, H p.2 = some (.tbl #[]) := fun p hp => by
    rw [hH]
    exact h02_tab (List.mem_map.mpr ⟨p, hp, rfl⟩)
  -- what is neither a list nor an empty table is not tracked, nor is what the written part has
  have away : ∀ {b : Addr} {o : Obj}, st.heap.get? b = some o → (∀ l n, o.data ≠ .seq l n) → o.data ≠ .fields #[] → H b = none := fun {b o} e n1 n2 => by
    cases z : H b with
    | none => rfl
    | some u =>
      rcases cas z with ⟨hb, _⟩ | ⟨_, rfl, _, _⟩
      · rw [(tabAt b hb).1] at e
        cases e
        exact absurd rfl n2
      · rw [ha] at e
        cases e
        exact absurd rfl (n1 _ _)
  have awayK : ∀ {b : Addr} {o : Obj}, K.lookup b = some o → H b = none := fun {b o} e => by
    cases z : H b with
    | none => rfl
    | some u =>
      rcases cas z with ⟨hb, _⟩ | ⟨_, rfl, hf, _⟩
      · rw [(tabAt b hb).2] at e
        cases e
      · rw [hfr, e] at hf
        cases hf
  have script : SqL K H a (ns.map V.int) := by
    cases q : K.lookup a with
    | some o =>
      have e := inK a o q
      rw [ha] at e
      cases e
      exact .inr ⟨_, vs.toArray, _, q, rfl, rfl, rfl, by rw [List.size_toArray, hi.length]; exact hz, by simpa using rv⟩
    | none =>
      refine .inl (.inr ⟨{ cls := .type "list", data := .seq vs.toArray }, ?_⟩)
      rw [hH]
      unfold H02
      rw [if_neg aT, if_pos ⟨rfl, by rw [hfr, q]; rfl⟩]
  have ok : HOk P w H st.heap := fun b u z => by
    rcases cas z with ⟨hb, rfl⟩ | ⟨_, rfl, _, rfl⟩
    · exact (tabAt b hb).1
    · exact ⟨ha, by rw [List.length_map]; exact hz, vs, _, rv, ha⟩
  have ns_at : ∀ {b : Addr} {m : Str → Option Value}, st.heap.Ns b m → (hidT st.heap H).Ns b m := fun {b m} ⟨o, es, ep, e, d, r⟩ =>
    ⟨o, es, ep, hidT_get e (away e (fun l n y => by rw [d] at y; cases y) fun y => by rw [d] at y; cases y), d, r⟩
  have inB : K.In (hidT st.heap H) := fun b o e => hidT_get (inK b o e) (awayK e)
  have tabB : ∀ p ∈ cs, LamX.TabB (hidT st.heap H) mg p.1 p.2 := fun p hp => by
    refine ⟨?_, ?_, fun y => ?_⟩
    · obtain ⟨o, us, r0, r1, r2, r3, r4, r5, r6, e1, q1, q2, q3, q⟩ := codes p hp
      refine ⟨o, us, r0, r1, r2, r3, r4, r5, r6, hidT_get e1 (away e1 (fun l n y => by rw [q2] at y; cases y) fun y => ?_), q1, q2, q3, q⟩
      rw [q2] at y
      cases y
      simp at q3
    · obtain ⟨m, ob, b1, b2, b3, b4, b5, b6⟩ := bm
      have hm : H m = none := away b3 (fun l n y => by rw [b6] at y; cases y) fun y => by rw [b6] at y; cases y
      refine ⟨m, ob, b1, b2, fun y => ?_, fun y => ?_, hidT_get b3 hm, b4, b5, b6⟩
      · obtain ⟨o, es, ep, e, d, _⟩ := gN
        rw [y, e] at b3
        cases b3
        rw [d] at b6
        cases b6
      · rw [y, isTab p hp] at hm
        cases hm
    · obtain ⟨o, es, ep, e, d, _⟩ := gN
      rw [y, tabs p hp] at e
      cases e
      cases d
  obtain ⟨mc, l1, l2⟩ := nl
  have env0 : Env0 P w K mg (hidT st.heap H) callerA [] st H := ⟨rfl, ⟨inB, ns_at gN, ⟨mb, ns_at bN, bB⟩, ⟨mc, ns_at l1, l2⟩⟩, fun b o e => of_hidT e, Nat.le_of_eq (hidT_size _ _), trivial, fun b hb => (nomatch hb), ok, .of_eq g0⟩
  refine codeAny_mono (F _ inB (ns_at gN) tabB [] st H ⟨[.ref a], []⟩ [.ref a] [.ref a] _ _ env0 (bind st (.ref a)) (.cons rfl .nil) (hsp H isTab script)) fun r t h => ?_
  match r, h with
  | .error e, h => exact (hCX H e t h).elim
  | .ok .next, h => exact False.elim h
  | .ok .brk, h => exact False.elim h
  | .ok .cont, h => exact False.elim h
  | .ok (.ret u), ⟨v, H', o1, b1, un, ok2, rr, hv⟩ =>
    have hv : v = .bl true := hv
    subst hv
    obtain rfl : u = Value.bool true := rr
    have keep : ∀ {b : Addr} {o : Obj}, st.heap.get? b = some o → b ∉ cs.map (·.2) → t.heap.get? b = some o := fun {b o} e nb => by
      cases z : H b with
      | none => exact un.keep b o e z (fun y => nomatch y) (fun y => nomatch y)
      | some u =>
        rcases cas z with ⟨hb, _⟩ | ⟨_, rfl, _, rfl⟩
        · exact absurd hb nb
        · have y := (ok2 _ _ (un.frzs _ _ _ z)).1
          rw [ha] at e
          cases e
          exact y
    have more : ∀ p ∈ cs, ∃ m : Array Value, t.heap.get? p.2 = some { cls := .none, data := .fields m } := fun p hp => by
      obtain ⟨m, y⟩ := un.tbls _ _ (isTab p hp)
      exact ⟨_, ok2 _ _ y⟩
    refine ⟨rfl, ⟨fun b o e => ?_, fun b o e => ?_⟩, o1, b1⟩
    · by_cases hb : b ∈ cs.map (·.2)
      · obtain ⟨p, hp, rfl⟩ := List.mem_map.mp hb
        obtain ⟨m, y⟩ := more p hp
        rw [tabs p hp] at e
        cases e
        refine .inr (.inl ⟨((codes p hp).tab (tabs p hp)).isCodeTable, rfl, #[], m, rfl, ?_⟩)
        rw [Array.empty_append]
        exact y
      · exact .inl (keep e hb)
    · by_cases hb : b ∈ cs.map (·.2)
      · obtain ⟨p, hp, rfl⟩ := List.mem_map.mp hb
        exact ⟨_, (more p hp).choose_spec⟩
      · exact ⟨_, keep e hb⟩
/-- the walk of a law's row: what the head tells, then the law at its caller's -/
theorem walk_at2 {l : PySem.W.OpenLaw} {n : Nat} {q : Program} {loose : List Str} {XP : (Str → Option Value) → Heap → Prop} {YP : World → Heap → Prop} {d : DefRec} {CX : World → CXT} {x : Str} (hn : l.most = some n) (hn2 : n ≤ sizeLine) (hdf : d.params.defaults = [])
    (F : ∀ (w : World) (mg : Str → Option Value) (fa : Addr) (h : Heap), YP w h → h.Ns mainGlobals mg → mg d.name = some (.ref fa) → ∃ (K : PySem.W.Frag) (fd : FuncData) (cs : List (Addr × Addr)) (sp : Sp), K.In h ∧ (∀ p ∈ cs, h.get? p.2 = some { cls := .none, data := .fields #[] }) ∧ (∀ p ∈ cs, K.lookup p.2 = none) ∧ (∀ p ∈ cs, PySem.W.CodeHd h p.1 p.2) ∧
      (∀ (t : Shared) (u : Value), BindsTo t fd ⟨[u], []⟩ [(x, u)]) ∧ (∀ (H : Hp) (a : Addr) (ns : List Int), ns.length ≤ n → (∀ p ∈ cs, H p.2 = some (.tbl #[])) → SqL K H a (ns.map V.int) → sp [.ref a] H (fun v _ => v = .bl true) fun _ _ _ => False) ∧
      ∀ base : Heap, K.In base → base.Ns mainGlobals mg → (∀ p ∈ cs, LamX.TabB base mg p.1 p.2) → OkAt l.prog w K mg base (CX w) callerA fa fd [x] sp)
    (hCX : ∀ (w : World) (H : Hp) (s : Shared) (e : Value) (t : Shared), CX w [] H s (fun _ _ _ => False) e t → False) : PySem.W.WalkO q loose XP YP l.row.toRowW d [] (fun f vs => PySem.call f vs) := by
  refine Att.attach_callB hn hdf fun w s0 st mg mb fa o pm cd doc a vs ns G Y ho hd hcd hmg hobj hints hlen _ hg => ?_
  obtain ⟨K, fd, cs, sp, inK, tabs, tabK, codes, bind, hsp, ok⟩ := F w mg fa _ Y G.T.g hmg
  exact top_run2 inK G.T.g G.T.b G.T.builtins G.T.nolimit hg tabs tabK codes G.T.bmain hobj hints (Nat.le_trans hlen hn2) ok bind (fun H h1 h2 => hsp H a ns hlen h1 h2) fun H e t => hCX w H st e t
end Gd

namespace K07
open PySem PySem.Spec PyProof.Rows L2 Tr Sq Dk Exs K07H
theorem code_of {K : PySem.W.Frag} {p : Str × Option Str} {x qual : Str} {pa : Arguments} {bd : List Stmt} {sc : Scope} {fd : FuncData} (F : FunD K x qual pa bd sc [] [] (He.fAd K p) fd) : fd.code = .ref (He.cT K p).1 := by
  obtain ⟨oc, od, dV, kV, doc, pm, an, cdv, ct, osl, rfl, lk, hcd, _, _⟩ := F.ex
  obtain ⟨c, rfl⟩ := He.codeIn_ref hcd
  exact congrArg Value.ref (He.codeOf_eq lk rfl).symm
theorem facts {P : Program} {w : World} {K : PySem.W.Frag} {h : Heap} {mg : Str → Option Value} (X : K.In h) (G : h.Ns mainGlobals mg) (c : He.SaysX fa fn [] tf ex w h K) :
    ∃ fd : FuncData, (∀ (s : Shared) (v : Value), BindsTo s fd ⟨[v], []⟩ [("script", v)]) ∧ mg ("law" : Str) = some (.ref (He.fAd K ("law", none))) ∧ ∀ base : Heap, (∀ q ∈ tf, LamX.TabB base mg (He.cT K q).1 (He.cT K q).2) → Gd.OkAt P w K mg base CX0 callerA (He.fAd K ("law", none)) fd ["script"] (spLaw K (He.cT K ("_law_parts_right", none)).2 (He.cT K ("_law_built_right", none)).2 (He.cT K ("_law_joined_right", none)).2 (He.cT K ("_law_names_right", none)).2) := by
  have d := c.t.d
  have x0 := c.more
  unfold ex at x0
  obtain ⟨x0, y19⟩ := He.ba x0
  obtain ⟨x0, y18⟩ := He.ba x0
  obtain ⟨x0, y17⟩ := He.ba x0
  obtain ⟨x0, y16⟩ := He.ba x0
  obtain ⟨x0, y15⟩ := He.ba x0
  obtain ⟨x0, y14⟩ := He.ba x0
  obtain ⟨x0, y13⟩ := He.ba x0
  obtain ⟨x0, y12⟩ := He.ba x0
  obtain ⟨x0, y11⟩ := He.ba x0
  obtain ⟨x0, y10⟩ := He.ba x0
  obtain ⟨x0, y9⟩ := He.ba x0
  obtain ⟨x0, y8⟩ := He.ba x0
  obtain ⟨x0, y7⟩ := He.ba x0
  obtain ⟨x0, y6⟩ := He.ba x0
  obtain ⟨x0, y5⟩ := He.ba x0
  obtain ⟨x0, y4⟩ := He.ba x0
  obtain ⟨x0, y3⟩ := He.ba x0
  obtain ⟨x0, y2⟩ := He.ba x0
  obtain ⟨x0, y1⟩ := He.ba x0
  have e1 := errB_ok x0
  have e2 := errB_ok y1
  have e3 := errB_ok y2
  have e4 := errB_ok y3
  have e5 := errB_ok y4
  have e6 := errB_ok y5
  have e7 := errB_ok y6
  have e8 := errB_ok y7
  have ve1 := He.eqO_ok y8
  have ve2 := He.eqO_ok y9
  have ve3 := of_decide_eq_true y10
  have ve4 := of_decide_eq_true y11
  have ve5 := List.all_eq_true.mp y12
  have ve6 := fun n hn => of_decide_eq_true (List.all_eq_true.mp y13 n hn)
  have n12 := of_decide_eq_true y14
  have n13 := of_decide_eq_true y15
  have n14 := of_decide_eq_true y16
  have n23 := of_decide_eq_true y17
  have n24 := of_decide_eq_true y18
  have n34 := of_decide_eq_true y19
  have g_is_name : mg "is_name" = some (.ref (He.ga K "is_name")) := He.glo_ok X G (d.fact 0 (f := .glo "is_name") rfl)
  have g_is_listed : mg "is_listed" = some (.ref (He.ga K "is_listed")) := He.glo_ok X G (d.fact 1 (f := .glo "is_listed") rfl)
  have g_is_pair : mg "is_pair" = some (.ref (He.ga K "is_pair")) := He.glo_ok X G (d.fact 2 (f := .glo "is_pair") rfl)
  have g_has_just : mg "has_just" = some (.ref (He.ga K "has_just")) := He.glo_ok X G (d.fact 3 (f := .glo "has_just") rfl)
  have g_check_houses : mg "check_houses" = some (.ref (He.ga K "check_houses")) := He.glo_ok X G (d.fact 4 (f := .glo "check_houses") rfl)
  have g_checked_paths : mg "checked_paths" = some (.ref (He.ga K "checked_paths")) := He.glo_ok X G (d.fact 5 (f := .glo "checked_paths") rfl)
  have g_joined_groups : mg "joined_groups" = some (.ref (He.ga K "joined_groups")) := He.glo_ok X G (d.fact 6 (f := .glo "joined_groups") rfl)
  have g_near_houses : mg "near_houses" = some (.ref (He.ga K "near_houses")) := He.glo_ok X G (d.fact 7 (f := .glo "near_houses") rfl)
  have g_path_between : mg "path_between" = some (.ref (He.ga K "path_between")) := He.glo_ok X G (d.fact 8 (f := .glo "path_between") rfl)
  have g_is_house : mg "is_house" = some (.ref (He.ga K "is_house")) := He.glo_ok X G (d.fact 9 (f := .glo "is_house") rfl)
  have g_ask_house : mg "ask_house" = some (.ref (He.ga K "ask_house")) := He.glo_ok X G (d.fact 10 (f := .glo "ask_house") rfl)
  have g_check_some : mg "check_some" = some (.ref (He.ga K "check_some")) := He.glo_ok X G (d.fact 11 (f := .glo "check_some") rfl)
  have g_part_of : mg "part_of" = some (.ref (He.ga K "part_of")) := He.glo_ok X G (d.fact 12 (f := .glo "part_of") rfl)
  have g_built_on : mg "built_on" = some (.ref (He.ga K "built_on")) := He.glo_ok X G (d.fact 13 (f := .glo "built_on") rfl)
  have g_joined_by : mg "joined_by" = some (.ref (He.ga K "joined_by")) := He.glo_ok X G (d.fact 14 (f := .glo "joined_by") rfl)
  have g_is_renaming : mg "is_renaming" = some (.ref (He.ga K "is_renaming")) := He.glo_ok X G (d.fact 15 (f := .glo "is_renaming") rfl)
  have g_renamed : mg "renamed" = some (.ref (He.ga K "renamed")) := He.glo_ok X G (d.fact 16 (f := .glo "renamed") rfl)
  have g__law_start : mg "_law_start" = some (.ref (He.ga K "_law_start")) := He.glo_ok X G (d.fact 17 (f := .glo "_law_start") rfl)
  have g__law_draw : mg "_law_draw" = some (.ref (He.ga K "_law_draw")) := He.glo_ok X G (d.fact 18 (f := .glo "_law_draw") rfl)
  have g__law_pick : mg "_law_pick" = some (.ref (He.ga K "_law_pick")) := He.glo_ok X G (d.fact 19 (f := .glo "_law_pick") rfl)
  have g__law_mixed : mg "_law_mixed" = some (.ref (He.ga K "_law_mixed")) := He.glo_ok X G (d.fact 20 (f := .glo "_law_mixed") rfl)
  have g__law_same : mg "_law_same" = some (.ref (He.ga K "_law_same")) := He.glo_ok X G (d.fact 21 (f := .glo "_law_same") rfl)
  have g__law_v_names : mg "_law_v_names" = some (.ref (He.ga K "_law_v_names")) := He.glo_ok X G (d.fact 22 (f := .glo "_law_v_names") rfl)
  have g__law_v_paths : mg "_law_v_paths" = some (.ref (He.ga K "_law_v_paths")) := He.glo_ok X G (d.fact 23 (f := .glo "_law_v_paths") rfl)
  have g__law_v_village : mg "_law_v_village" = some (.ref (He.ga K "_law_v_village")) := He.glo_ok X G (d.fact 24 (f := .glo "_law_v_village") rfl)
  have g__law_v_beside : mg "_law_v_beside" = some (.ref (He.ga K "_law_v_beside")) := He.glo_ok X G (d.fact 25 (f := .glo "_law_v_beside") rfl)
  have g__law_v_way : mg "_law_v_way" = some (.ref (He.ga K "_law_v_way")) := He.glo_ok X G (d.fact 26 (f := .glo "_law_v_way") rfl)
  have g__law_met : mg "_law_met" = some (.ref (He.ga K "_law_met")) := He.glo_ok X G (d.fact 27 (f := .glo "_law_met") rfl)
  have g__law_parts_right : mg "_law_parts_right" = some (.ref (He.ga K "_law_parts_right")) := He.glo_ok X G (d.fact 28 (f := .glo "_law_parts_right") rfl)
  have g__law_built_right : mg "_law_built_right" = some (.ref (He.ga K "_law_built_right")) := He.glo_ok X G (d.fact 29 (f := .glo "_law_built_right") rfl)
  have g__law_joined_right : mg "_law_joined_right" = some (.ref (He.ga K "_law_joined_right")) := He.glo_ok X G (d.fact 30 (f := .glo "_law_joined_right") rfl)
  have g__law_names_right : mg "_law_names_right" = some (.ref (He.ga K "_law_names_right")) := He.glo_ok X G (d.fact 31 (f := .glo "_law_names_right") rfl)
  have g_law : mg "law" = some (.ref (He.ga K "law")) := He.glo_ok X G (d.fact 32 (f := .glo "law") rfl)
  have g_BadSome : mg "BadSome" = some (.ref (He.ga K "BadSome")) := He.glo_ok X G (d.fact 33 (f := .glo "BadSome") rfl)
  have g_NotJoined : mg "NotJoined" = some (.ref (He.ga K "NotJoined")) := He.glo_ok X G (d.fact 34 (f := .glo "NotJoined") rfl)
  have g_NoHouse : mg "NoHouse" = some (.ref (He.ga K "NoHouse")) := He.glo_ok X G (d.fact 35 (f := .glo "NoHouse") rfl)
  have g_BadName : mg "BadName" = some (.ref (He.ga K "BadName")) := He.glo_ok X G (d.fact 36 (f := .glo "BadName") rfl)
  have g_CommonHouse : mg "CommonHouse" = some (.ref (He.ga K "CommonHouse")) := He.glo_ok X G (d.fact 37 (f := .glo "CommonHouse") rfl)
  have g_BadNames : mg "BadNames" = some (.ref (He.ga K "BadNames")) := He.glo_ok X G (d.fact 38 (f := .glo "BadNames") rfl)
  have g_BadHouses : mg "BadHouses" = some (.ref (He.ga K "BadHouses")) := He.glo_ok X G (d.fact 39 (f := .glo "BadHouses") rfl)
  have g_BadPaths : mg "BadPaths" = some (.ref (He.ga K "BadPaths")) := He.glo_ok X G (d.fact 40 (f := .glo "BadPaths") rfl)
  have g_Village : mg "Village" = some (.ref (He.ga K "Village")) := He.glo_ok X G (d.fact 41 (f := .glo "Village") rfl)
  have n_int : mg "int" = none := He.free_ok X G (d.fact 42 (f := .free "int") rfl)
  have n_bool : mg "bool" = none := He.free_ok X G (d.fact 43 (f := .free "bool") rfl)
  have n_str : mg "str" = none := He.free_ok X G (d.fact 44 (f := .free "str") rfl)
  have n_isinstance : mg "isinstance" = none := He.free_ok X G (d.fact 45 (f := .free "isinstance") rfl)
  have n_list : mg "list" = none := He.free_ok X G (d.fact 46 (f := .free "list") rfl)
  have n_tuple : mg "tuple" = none := He.free_ok X G (d.fact 47 (f := .free "tuple") rfl)
  have n_len : mg "len" = none := He.free_ok X G (d.fact 48 (f := .free "len") rfl)
  have n_all : mg "all" = none := He.free_ok X G (d.fact 49 (f := .free "all") rfl)
  have n_any : mg "any" = none := He.free_ok X G (d.fact 50 (f := .free "any") rfl)
  have n_zip : mg "zip" = none := He.free_ok X G (d.fact 51 (f := .free "zip") rfl)
  have n_enumerate : mg "enumerate" = none := He.free_ok X G (d.fact 52 (f := .free "enumerate") rfl)
  have n_range : mg "range" = none := He.free_ok X G (d.fact 53 (f := .free "range") rfl)
  have n_max : mg "max" = none := He.free_ok X G (d.fact 54 (f := .free "max") rfl)
  have n_min : mg "min" = none := He.free_ok X G (d.fact 55 (f := .free "min") rfl)
  have n_sorted : mg "sorted" = none := He.free_ok X G (d.fact 56 (f := .free "sorted") rfl)
  have n_dict : mg "dict" = none := He.free_ok X G (d.fact 57 (f := .free "dict") rfl)
  have n_repr : mg "repr" = none := He.free_ok X G (d.fact 58 (f := .free "repr") rfl)
  have n_set : mg "set" = none := He.free_ok X G (d.fact 59 (f := .free "set") rfl)
  have i_ln := He.int_ok X G (d.fact 60 (f := .int "LONGEST_NAME" 12) rfl)
  have i_sm := He.str_ok X G (d.fact 61 (f := .str "SMALL_LETTERS" "abcdefghijklmnopqrstuvwxyz") rfl)
  have i_fi := He.str_ok X G (d.fact 62 (f := .str "FIGURES" "0123456789") rfl)
  have v_cl := He.cls_ok (d.fact 63 (f := .cls "Village") rfl)
  have v_n1 := He.noat_ok (d.fact 64 (f := .noat "Village" "_houses") rfl)
  have v_n2 := He.noat_ok (d.fact 65 (f := .noat "Village" "_paths") rfl)
  have v_n3 := He.noat_ok (d.fact 66 (f := .noat "Village" "_near") rfl)
  have v_m_houses := He.meth_ok (d.fact 67 (f := .meth "Village" "houses") rfl)
  have v_m_paths := He.meth_ok (d.fact 68 (f := .meth "Village" "paths") rfl)
  have v_m_near := He.meth_ok (d.fact 69 (f := .meth "Village" "near") rfl)
  have v_m___len__ := He.meth_ok (d.fact 70 (f := .meth "Village" "__len__") rfl)
  have v_m___eq__ := He.meth_ok (d.fact 71 (f := .meth "Village" "__eq__") rfl)
  have v_mk := He.mkr_ok (d.fact 72 (f := .mkr "Village") rfl)
  have no_1 := He.exm_ok (d.fact 73 (f := .exm "NotJoined" "BadSome" false) rfl)
  have no_2 := He.exm_ok (d.fact 74 (f := .exm "NoHouse" "BadSome" false) rfl)
  have no_3 := He.exm_ok (d.fact 75 (f := .exm "NoHouse" "NotJoined" false) rfl)
  have no_4 := He.exm_ok (d.fact 76 (f := .exm "BadName" "BadSome" false) rfl)
  have no_5 := He.exm_ok (d.fact 77 (f := .exm "BadName" "NotJoined" false) rfl)
  have no_6 := He.exm_ok (d.fact 78 (f := .exm "BadName" "NoHouse" false) rfl)
  have no_7 := He.exm_ok (d.fact 79 (f := .exm "CommonHouse" "BadSome" false) rfl)
  have no_8 := He.exm_ok (d.fact 80 (f := .exm "CommonHouse" "NotJoined" false) rfl)
  have no_9 := He.exm_ok (d.fact 81 (f := .exm "CommonHouse" "NoHouse" false) rfl)
  have no_10 := He.exm_ok (d.fact 82 (f := .exm "CommonHouse" "BadName" false) rfl)
  have no_11 := He.exm_ok (d.fact 83 (f := .exm "BadNames" "BadSome" false) rfl)
  have no_12 := He.exm_ok (d.fact 84 (f := .exm "BadNames" "NotJoined" false) rfl)
  have no_13 := He.exm_ok (d.fact 85 (f := .exm "BadNames" "NoHouse" false) rfl)
  have no_14 := He.exm_ok (d.fact 86 (f := .exm "BadNames" "BadName" false) rfl)
  have no_15 := He.exm_ok (d.fact 87 (f := .exm "BadNames" "CommonHouse" false) rfl)
  obtain ⟨d_is_name, F_is_name⟩ := d.def_ 0 (d := dd "is_name" 15) rfl
  obtain ⟨d_is_listed, F_is_listed⟩ := d.def_ 1 (d := dd "is_listed" 16) rfl
  obtain ⟨d_is_pair, F_is_pair⟩ := d.def_ 2 (d := dd "is_pair" 17) rfl
  obtain ⟨d_has_just, F_has_just⟩ := d.def_ 3 (d := dd "has_just" 18) rfl
  obtain ⟨d_check_houses, F_check_houses⟩ := d.def_ 4 (d := dd "check_houses" 21) rfl
  obtain ⟨d_checked_paths, F_checked_paths⟩ := d.def_ 5 (d := dd "checked_paths" 22) rfl
  obtain ⟨d_joined_groups, F_joined_groups⟩ := d.def_ 6 (d := dd "joined_groups" 23) rfl
  obtain ⟨d_near_houses, F_near_houses⟩ := d.def_ 7 (d := dd "near_houses" 24) rfl
  obtain ⟨d_path_between, F_path_between⟩ := d.def_ 8 (d := dd "path_between" 25) rfl
  obtain ⟨d_is_house, F_is_house⟩ := d.def_ 9 (d := dd "is_house" 26) rfl
  obtain ⟨d_ask_house, F_ask_house⟩ := d.def_ 10 (d := dd "ask_house" 27) rfl
  obtain ⟨d_check_some, F_check_some⟩ := d.def_ 11 (d := dd "check_some" 29) rfl
  obtain ⟨d_part_of, F_part_of⟩ := d.def_ 12 (d := dd "part_of" 30) rfl
  obtain ⟨d_built_on, F_built_on⟩ := d.def_ 13 (d := dd "built_on" 31) rfl
  obtain ⟨d_joined_by, F_joined_by⟩ := d.def_ 14 (d := dd "joined_by" 32) rfl
  obtain ⟨d_is_renaming, F_is_renaming⟩ := d.def_ 15 (d := dd "is_renaming" 33) rfl
  obtain ⟨d_renamed, F_renamed⟩ := d.def_ 16 (d := dd "renamed" 34) rfl
  obtain ⟨d__law_start, F__law_start⟩ := d.def_ 17 (d := dd "_law_start" 36) rfl
  obtain ⟨d__law_draw, F__law_draw⟩ := d.def_ 18 (d := dd "_law_draw" 37) rfl
  obtain ⟨d__law_pick, F__law_pick⟩ := d.def_ 19 (d := dd "_law_pick" 38) rfl
  obtain ⟨d__law_mixed, F__law_mixed⟩ := d.def_ 20 (d := dd "_law_mixed" 39) rfl
  obtain ⟨d__law_same, F__law_same⟩ := d.def_ 21 (d := dd "_law_same" 40) rfl
  obtain ⟨d__law_v_names, F__law_v_names⟩ := d.def_ 22 (d := dd "_law_v_names" 41) rfl
  obtain ⟨d__law_v_paths, F__law_v_paths⟩ := d.def_ 23 (d := dd "_law_v_paths" 42) rfl
  obtain ⟨d__law_v_village, F__law_v_village⟩ := d.def_ 24 (d := dd "_law_v_village" 43) rfl
  obtain ⟨d__law_v_beside, F__law_v_beside⟩ := d.def_ 25 (d := dd "_law_v_beside" 44) rfl
  obtain ⟨d__law_v_way, F__law_v_way⟩ := d.def_ 26 (d := dd "_law_v_way" 45) rfl
  obtain ⟨d__law_met, F__law_met⟩ := d.def_ 27 (d := dd "_law_met" 46) rfl
  obtain ⟨d__law_parts_right, F__law_parts_right⟩ := d.def_ 28 (d := dd "_law_parts_right" 47) rfl
  obtain ⟨d__law_built_right, F__law_built_right⟩ := d.def_ 29 (d := dd "_law_built_right" 48) rfl
  obtain ⟨d__law_joined_right, F__law_joined_right⟩ := d.def_ 30 (d := dd "_law_joined_right" 49) rfl
  obtain ⟨d__law_names_right, F__law_names_right⟩ := d.def_ 31 (d := dd "_law_names_right" 50) rfl
  obtain ⟨d_law, F_law⟩ := d.def_ 32 (d := dd "law" 51) rfl
  obtain ⟨d_e1, F_e1⟩ := d.def_ 33 (d := di "BadSome" "BadSome.__init__" 6) rfl
  obtain ⟨d_e2, F_e2⟩ := d.def_ 34 (d := di "NotJoined" "NotJoined.__init__" 9) rfl
  obtain ⟨d_e3, F_e3⟩ := d.def_ 35 (d := di "NoHouse" "NoHouse.__init__" 8) rfl
  obtain ⟨d_e4, F_e4⟩ := d.def_ 36 (d := di "BadName" "BadName.__init__" 3) rfl
  obtain ⟨d_e5, F_e5⟩ := d.def_ 37 (d := di "CommonHouse" "CommonHouse.__init__" 7) rfl
  obtain ⟨d_e6, F_e6⟩ := d.def_ 38 (d := di "BadNames" "BadNames.__init__" 4) rfl
  obtain ⟨d_e7, F_e7⟩ := d.def_ 39 (d := di "BadHouses" "BadHouses.__init__" 2) rfl
  obtain ⟨d_e8, F_e8⟩ := d.def_ 40 (d := di "BadPaths" "BadPaths.__init__" 5) rfl
  obtain ⟨d_vi, F_vi⟩ := d.def_ 41 (d := dm "__init__" "Village.__init__" 0) rfl
  obtain ⟨d_v_houses, F_v_houses⟩ := d.def_ 42 (d := dm "houses" "Village.houses" 1) rfl
  obtain ⟨d_v_paths, F_v_paths⟩ := d.def_ 43 (d := dm "paths" "Village.paths" 2) rfl
  obtain ⟨d_v_near, F_v_near⟩ := d.def_ 44 (d := dm "near" "Village.near" 3) rfl
  obtain ⟨d_v___len__, F_v___len__⟩ := d.def_ 45 (d := dm "__len__" "Village.__len__" 4) rfl
  obtain ⟨d_v___eq__, F_v___eq__⟩ := d.def_ 46 (d := dm "__eq__" "Village.__eq__" 5) rfl
  have b_is_name : L2.Binds K d_is_name ["thing"] [] := F_is_name.bindsN fun _ _ _ _ _ _ us hl => match us, hl with | [_], _ => rfl
  have b_is_listed : L2.Binds K d_is_listed ["thing"] [] := F_is_listed.bindsN fun _ _ _ _ _ _ us hl => match us, hl with | [_], _ => rfl
  have b_is_pair : L2.Binds K d_is_pair ["thing"] [] := F_is_pair.bindsN fun _ _ _ _ _ _ us hl => match us, hl with | [_], _ => rfl
  have b_has_just : L2.Binds K d_has_just ["thing", "keys"] [] := F_has_just.bindsN fun _ _ _ _ _ _ us hl => match us, hl with | [_, _], _ => rfl
  have b_check_houses : L2.Binds K d_check_houses ["houses"] [] := F_check_houses.bindsN fun _ _ _ _ _ _ us hl => match us, hl with | [_], _ => rfl
  have b_checked_paths : L2.Binds K d_checked_paths ["houses", "paths"] [] := F_checked_paths.bindsN fun _ _ _ _ _ _ us hl => match us, hl with | [_, _], _ => rfl
  have b_joined_groups : L2.Binds K d_joined_groups ["group", "one", "other"] [] := F_joined_groups.bindsN fun _ _ _ _ _ _ us hl => match us, hl with | [_, _, _], _ => rfl
  have b_near_houses : L2.Binds K d_near_houses ["houses", "paths"] [] := F_near_houses.bindsN fun _ _ _ _ _ _ us hl => match us, hl with | [_, _], _ => rfl
  have b_path_between : L2.Binds K d_path_between ["one", "other"] [] := F_path_between.bindsN fun _ _ _ _ _ _ us hl => match us, hl with | [_, _], _ => rfl
  have b_is_house : L2.Binds K d_is_house ["village", "thing"] [] := F_is_house.bindsN fun _ _ _ _ _ _ us hl => match us, hl with | [_, _], _ => rfl
  have b_ask_house : L2.Binds K d_ask_house ["village", "thing"] [] := F_ask_house.bindsN fun _ _ _ _ _ _ us hl => match us, hl with | [_, _], _ => rfl
  have b_check_some : L2.Binds K d_check_some ["village", "some"] [] := F_check_some.bindsN fun _ _ _ _ _ _ us hl => match us, hl with | [_, _], _ => rfl
  have b_part_of : L2.Binds K d_part_of ["village", "some"] [] := F_part_of.bindsN fun _ _ _ _ _ _ us hl => match us, hl with | [_, _], _ => rfl
  have b_built_on : L2.Binds K d_built_on ["village", "house", "name"] [] := F_built_on.bindsN fun _ _ _ _ _ _ us hl => match us, hl with | [_, _, _], _ => rfl
  have b_joined_by : L2.Binds K d_joined_by ["one", "other", "house", "far"] [] := F_joined_by.bindsN fun _ _ _ _ _ _ us hl => match us, hl with | [_, _, _, _], _ => rfl
  have b_is_renaming : L2.Binds K d_is_renaming ["village", "thing"] [] := F_is_renaming.bindsN fun _ _ _ _ _ _ us hl => match us, hl with | [_, _], _ => rfl
  have b_renamed : L2.Binds K d_renamed ["village", "names"] [] := F_renamed.bindsN fun _ _ _ _ _ _ us hl => match us, hl with | [_, _], _ => rfl
  have b__law_start : L2.Binds K d__law_start ["script"] [] := F__law_start.bindsN fun _ _ _ _ _ _ us hl => match us, hl with | [_], _ => rfl
  have b__law_draw : L2.Binds K d__law_draw ["stream", "many"] [] := F__law_draw.bindsN fun _ _ _ _ _ _ us hl => match us, hl with | [_, _], _ => rfl
  have b__law_pick : L2.Binds K d__law_pick ["stream", "some"] [] := F__law_pick.bindsN fun _ _ _ _ _ _ us hl => match us, hl with | [_, _], _ => rfl
  have b__law_mixed : L2.Binds K d__law_mixed ["stream", "some"] [] := F__law_mixed.bindsN fun _ _ _ _ _ _ us hl => match us, hl with | [_, _], _ => rfl
  have b__law_same : L2.Binds K d__law_same ["found", "due"] [] := F__law_same.bindsN fun _ _ _ _ _ _ us hl => match us, hl with | [_, _], _ => rfl
  have b__law_v_names : L2.Binds K d__law_v_names ["stream", "many"] [] := F__law_v_names.bindsN fun _ _ _ _ _ _ us hl => match us, hl with | [_, _], _ => rfl
  have b__law_v_paths : L2.Binds K d__law_v_paths ["stream", "houses"] [] := F__law_v_paths.bindsN fun _ _ _ _ _ _ us hl => match us, hl with | [_, _], _ => rfl
  have b__law_v_village : L2.Binds K d__law_v_village ["stream", "most"] [] := F__law_v_village.bindsN fun _ _ _ _ _ _ us hl => match us, hl with | [_, _], _ => rfl
  have b__law_v_beside : L2.Binds K d__law_v_beside ["paths", "house"] [] := F__law_v_beside.bindsN fun _ _ _ _ _ _ us hl => match us, hl with | [_, _], _ => rfl
  have b__law_v_way : L2.Binds K d__law_v_way ["paths", "one", "other"] [] := F__law_v_way.bindsN fun _ _ _ _ _ _ us hl => match us, hl with | [_, _, _], _ => rfl
  have b__law_parts_right : L2.Binds K d__law_parts_right ["stream", "village", "houses", "paths"] [] := F__law_parts_right.bindsN fun _ _ _ _ _ _ us hl => match us, hl with | [_, _, _, _], _ => rfl
  have b__law_built_right : L2.Binds K d__law_built_right ["stream", "village", "houses", "paths"] [] := F__law_built_right.bindsN fun _ _ _ _ _ _ us hl => match us, hl with | [_, _, _, _], _ => rfl
  have b__law_joined_right : L2.Binds K d__law_joined_right ["stream", "village", "houses", "paths"] [] := F__law_joined_right.bindsN fun _ _ _ _ _ _ us hl => match us, hl with | [_, _, _, _], _ => rfl
  have b__law_names_right : L2.Binds K d__law_names_right ["stream", "village", "houses", "paths"] [] := F__law_names_right.bindsN fun _ _ _ _ _ _ us hl => match us, hl with | [_, _, _, _], _ => rfl
  have bL := FunD.bindsA (ps := ["script"]) F_law fun _ _ _ _ _ _ us hl => match us, hl with | [_], _ => rfl
  refine ⟨d_law, fun s v => bL s [v] rfl, g_law, fun base TB => ?_⟩
  have b_e1 : L2.Binds K d_e1 ["self", "index"] [] := F_e1.bindsN fun _ _ _ _ _ _ us hl => match us, hl with | [_, _], _ => rfl
  have b_e2 : L2.Binds K d_e2 ["self", "house"] [] := F_e2.bindsN fun _ _ _ _ _ _ us hl => match us, hl with | [_, _], _ => rfl
  have b_e3 : L2.Binds K d_e3 ["self", "thing"] [] := F_e3.bindsN fun _ _ _ _ _ _ us hl => match us, hl with | [_, _], _ => rfl
  have b_e4 : L2.Binds K d_e4 ["self", "thing"] [] := F_e4.bindsN fun _ _ _ _ _ _ us hl => match us, hl with | [_, _], _ => rfl
  have b_e5 : L2.Binds K d_e5 ["self", "name"] [] := F_e5.bindsN fun _ _ _ _ _ _ us hl => match us, hl with | [_, _], _ => rfl
  have b_e6 : L2.Binds K d_e6 ["self", "thing"] [] := F_e6.bindsN fun _ _ _ _ _ _ us hl => match us, hl with | [_, _], _ => rfl
  have b_e7 : L2.Binds K d_e7 ["self", "index"] [] := F_e7.bindsN fun _ _ _ _ _ _ us hl => match us, hl with | [_, _], _ => rfl
  have b_e8 : L2.Binds K d_e8 ["self", "index"] [] := F_e8.bindsN fun _ _ _ _ _ _ us hl => match us, hl with | [_, _], _ => rfl
  have b_vi : L2.Binds K d_vi ["self", "houses", "paths"] [] := F_vi.bindsN fun _ _ _ _ _ _ us hl => match us, hl with | [_, _, _], _ => rfl
  have b_v_houses : L2.Binds K d_v_houses ["self"] [] := F_v_houses.bindsN fun _ _ _ _ _ _ us hl => match us, hl with | [_], _ => rfl
  have b_v_paths : L2.Binds K d_v_paths ["self"] [] := F_v_paths.bindsN fun _ _ _ _ _ _ us hl => match us, hl with | [_], _ => rfl
  have b_v_near : L2.Binds K d_v_near ["self"] [] := F_v_near.bindsN fun _ _ _ _ _ _ us hl => match us, hl with | [_], _ => rfl
  have b_v___len__ : L2.Binds K d_v___len__ ["self"] [] := F_v___len__.bindsN fun _ _ _ _ _ _ us hl => match us, hl with | [_], _ => rfl
  have b_v___eq__ : L2.Binds K d_v___eq__ ["self", "other"] [] := F_v___eq__.bindsN fun _ _ _ _ _ _ us hl => match us, hl with | [_, _], _ => rfl
  have T1 : Err P w K mg base "BadSome" "index" (He.ga K "BadSome") (He.fAd K ("BadSome", some "__init__")) := ⟨e1, g_BadSome, d_e1, Exs.ok_init e1 F_e1 rfl ⟨rfl, rfl, rfl, by decide +kernel, rfl, by decide +kernel, by decide +kernel⟩ rfl rfl (by decide) (by decide), b_e1⟩
  have T2 : Err P w K mg base "NotJoined" "house" (He.ga K "NotJoined") (He.fAd K ("NotJoined", some "__init__")) := ⟨e2, g_NotJoined, d_e2, Exs.ok_init e2 F_e2 rfl ⟨rfl, rfl, rfl, by decide +kernel, rfl, by decide +kernel, by decide +kernel⟩ rfl rfl (by decide) (by decide), b_e2⟩
  have T3 : Err P w K mg base "NoHouse" "thing" (He.ga K "NoHouse") (He.fAd K ("NoHouse", some "__init__")) := ⟨e3, g_NoHouse, d_e3, Exs.ok_init e3 F_e3 rfl ⟨rfl, rfl, rfl, by decide +kernel, rfl, by decide +kernel, by decide +kernel⟩ rfl rfl (by decide) (by decide), b_e3⟩
  have T4 : Err P w K mg base "BadName" "thing" (He.ga K "BadName") (He.fAd K ("BadName", some "__init__")) := ⟨e4, g_BadName, d_e4, Exs.ok_init e4 F_e4 rfl ⟨rfl, rfl, rfl, by decide +kernel, rfl, by decide +kernel, by decide +kernel⟩ rfl rfl (by decide) (by decide), b_e4⟩
  have T5 : Err P w K mg base "CommonHouse" "name" (He.ga K "CommonHouse") (He.fAd K ("CommonHouse", some "__init__")) := ⟨e5, g_CommonHouse, d_e5, Exs.ok_init e5 F_e5 rfl ⟨rfl, rfl, rfl, by decide +kernel, rfl, by decide +kernel, by decide +kernel⟩ rfl rfl (by decide) (by decide), b_e5⟩
  have T6 : Err P w K mg base "BadNames" "thing" (He.ga K "BadNames") (He.fAd K ("BadNames", some "__init__")) := ⟨e6, g_BadNames, d_e6, Exs.ok_init e6 F_e6 rfl ⟨rfl, rfl, rfl, by decide +kernel, rfl, by decide +kernel, by decide +kernel⟩ rfl rfl (by decide) (by decide), b_e6⟩
  have T7 : Err P w K mg base "BadHouses" "index" (He.ga K "BadHouses") (He.fAd K ("BadHouses", some "__init__")) := ⟨e7, g_BadHouses, d_e7, Exs.ok_init e7 F_e7 rfl ⟨rfl, rfl, rfl, by decide +kernel, rfl, by decide +kernel, by decide +kernel⟩ rfl rfl (by decide) (by decide), b_e7⟩
  have T8 : Err P w K mg base "BadPaths" "index" (He.ga K "BadPaths") (He.fAd K ("BadPaths", some "__init__")) := ⟨e8, g_BadPaths, d_e8, Exs.ok_init e8 F_e8 rfl ⟨rfl, rfl, rfl, by decide +kernel, rfl, by decide +kernel, by decide +kernel⟩ rfl rfl (by decide) (by decide), b_e8⟩
  have o_draw := ok_draw (P := P) (w := w) (base := base) F__law_draw n_int
  have o_pick := ok_pick (P := P) (w := w) (base := base) F__law_pick F__law_draw n_int g__law_draw n_len
  have o_mixed := ok_mixed (P := P) (w := w) (base := base) F__law_mixed F__law_draw n_int g__law_draw n_len n_list n_range
  have o_names := ok_names F__law_v_names o_mixed b__law_mixed F__law_mixed.kp g__law_mixed
  have o_paths := ok_paths F__law_v_paths o_draw b__law_draw F__law_draw.kp g__law_draw o_mixed b__law_mixed F__law_mixed.kp g__law_mixed n_range n_len n_max
  have o_vill := ok_vill F__law_v_village o_draw b__law_draw F__law_draw.kp g__law_draw o_mixed b__law_mixed F__law_mixed.kp g__law_mixed o_names b__law_v_names F__law_v_names.kp g__law_v_names o_paths b__law_v_paths F__law_v_paths.kp g__law_v_paths
  have o_bes := ok_bes (P := P) (w := w) (base := base) F__law_v_beside n_sorted
  have o_way := ok_wayG F__law_v_way o_bes b__law_v_beside F__law_v_beside.kp g__law_v_beside
  have o_lst := ok_isLst (P := P) (w := w) (base := base) F_is_listed n_list n_tuple n_isinstance
  have o_name := ok_isNameX (P := P) (w := w) (base := base) F_is_name n_isinstance n_str n_len n_all i_ln i_sm i_fi
  have o_check := ok_checkX F_check_houses T7 o_name b_is_name F_is_name.kp g_is_name o_lst b_is_listed F_is_listed.kp g_is_listed n_len n_enumerate
  have o_pairX := ok_isPairX F_is_pair o_lst b_is_listed F_is_listed.kp g_is_listed n_len
  have o_pairL := ok_isPairL F_is_pair o_lst b_is_listed F_is_listed.kp g_is_listed n_len
  have o_btw := ok_between (P := P) (w := w) (mg := mg) (base := base) F_path_between
  have o_join := ok_joined (P := P) (w := w) (mg := mg) (base := base) F_joined_groups
  have o_near := ok_near (P := P) (w := w) (mg := mg) (base := base) F_near_houses
  have o_pX := ok_pathsX F_checked_paths T8 T2 o_lst b_is_listed F_is_listed.kp g_is_listed o_pairX b_is_pair F_is_pair.kp g_is_pair o_join b_joined_groups F_joined_groups.kp g_joined_groups o_btw b_path_between F_path_between.kp g_path_between n_isinstance n_str n_enumerate n_all
  have o_pL := ok_pathsCL F_checked_paths o_lst b_is_listed F_is_listed.kp g_is_listed o_pairL b_is_pair F_is_pair.kp g_is_pair o_join b_joined_groups F_joined_groups.kp g_joined_groups o_btw b_path_between F_path_between.kp g_path_between n_isinstance n_str n_enumerate n_all n_sorted
  have o_viX := ok_initX F_vi o_check b_check_houses F_check_houses.kp g_check_houses o_pX b_checked_paths F_checked_paths.kp g_checked_paths n_sorted
  have o_viG := ok_initG F_vi o_check b_check_houses F_check_houses.kp g_check_houses o_pL b_checked_paths F_checked_paths.kp g_checked_paths o_near b_near_houses F_near_houses.kp g_near_houses n_sorted
  have o_viP := Lft.both ((Lft.lift o_viG (L2.CX P w)).mono (by decide)) o_viX
  have vc : VC P w K mg base (He.ga K "Village") := ⟨v_cl, v_n1, v_n2, v_n3, ⟨_, _, v_m_houses, ok_houses F_v_houses n_list, b_v_houses⟩, ⟨_, _, v_m_near, ok_nearM F_v_near, b_v_near⟩⟩
  have ve : VE K (He.ga K "Village") := ⟨v_cl, v_n1, v_n2, ve1, ve2, ve3, ve4, ve5, ve6⟩
  have o_ish := ok_isHouse F_is_house vc n_isinstance n_str
  have o_ah := ok_askH F_ask_house T3 o_ish b_is_house F_is_house.kp g_is_house
  have o_pm := ok_pathsM (P := P) (w := w) (mg := mg) (base := base) F_v_paths n_list
  have o_some := ok_some F_check_some T1 o_ish b_is_house F_is_house.kp g_is_house o_lst b_is_listed F_is_listed.kp g_is_listed n_len n_enumerate
  have o_part := ok_part F_part_of o_some b_check_some F_check_some.kp g_check_some vc g_Village v_mk o_viP b_vi v_m_paths o_pm b_v_paths
  have o_built := ok_built F_built_on T4 o_ah b_ask_house F_ask_house.kp g_ask_house o_name b_is_name F_is_name.kp g_is_name o_ish b_is_house F_is_house.kp g_is_house vc g_Village v_mk o_viG b_vi v_m_paths o_pm b_v_paths
  have o_joinV := ok_joinV F_joined_by T5 o_ah b_ask_house F_ask_house.kp g_ask_house o_ish b_is_house F_is_house.kp g_is_house vc g_Village v_mk o_viG b_vi v_m_paths o_pm b_v_paths
  have o_hasj := ok_hasJ (P := P) (w := w) (mg := mg) (base := base) F_has_just n_isinstance n_dict n_len n_all
  have o_isren := ok_isRen F_is_renaming vc o_hasj b_has_just F_has_just.kp g_has_just o_name b_is_name F_is_name.kp g_is_name n_list n_all n_len n_set
  have o_ren := ok_ren F_renamed T6 o_isren b_is_renaming F_is_renaming.kp g_is_renaming vc g_Village v_mk o_viG b_vi v_m_paths o_pm b_v_paths
  have o_same := ok_same (P := P) (w := w) (base := base) F__law_same g__law_same n_int n_bool n_list n_tuple n_dict n_isinstance n_len n_all n_zip
  have o_eqv := ok_eqV (P := P) (w := w) (base := base) F_v___eq__ ve g_Village n_isinstance
  have o_len := ok_lenV (P := P) (w := w) (mg := mg) (base := base) F_v___len__ n_len
  have er : Ers P w K mg base (He.ga K "BadSome") (He.ga K "NotJoined") (He.ga K "NoHouse") (He.ga K "BadName") (He.ga K "CommonHouse") (He.ga K "BadNames") := ⟨⟨_, T1⟩, ⟨_, T2⟩, ⟨_, T3⟩, ⟨_, T4⟩, ⟨_, T5⟩, ⟨_, T6⟩, no_1, no_2, no_3, no_4, no_5, no_6, no_7, no_8, no_9, no_10, no_11, no_12, no_13, no_14, no_15⟩
  have mt : ∃ f fd, mg "_law_met" = some (.ref f) ∧ FnP K "_law_met" sMet f fd := ⟨_, _, g__law_met, F__law_met⟩
  have eqv : ∃ f fd, FnOk P w K mg base CX0 2 f fd ["self", "other"] (spEqV (He.ga K "Village")) ∧ PySem.W.findIn K (.ref (He.ga K "Village")) "__eq__" = some (some (.ref f)) ∧ PySem.W.isFn K (.ref f) = true ∧ L2.Binds K fd ["self", "other"] [] := ⟨_, _, o_eqv, v_m___eq__.at_, v_m___eq__.fn, b_v___eq__⟩
  have vil : ∃ f fd, mg "Village" = some (.ref (He.ga K "Village")) ∧ Mk K (He.ga K "Village") f ∧ FnOk P w K mg base CX0 4 f fd ["self", "houses", "paths"] (spInitG K) ∧ L2.Binds K fd ["self", "houses", "paths"] [] := ⟨_, _, g_Village, v_mk, o_viG, b_vi⟩
  have o_P := ok_par F__law_parts_right (code_of F__law_parts_right) (TB (("_law_parts_right" : Str), none) (by simp [tf])) { draw := ⟨_, _, g__law_draw, o_draw, F__law_draw.kp, b__law_draw⟩, pick := ⟨_, _, g__law_pick, o_pick, F__law_pick.kp, b__law_pick⟩, mixed := ⟨_, _, g__law_mixed, o_mixed, F__law_mixed.kp, b__law_mixed⟩, way := ⟨_, _, g__law_v_way, o_way, F__law_v_way.kp, b__law_v_way⟩, same := ⟨_, _, g__law_same, o_same, F__law_same.kp, b__law_same⟩, met := mt, part := ⟨_, _, g_part_of, o_part, F_part_of.kp, b_part_of⟩, vil := vil, eqv := eqv, ve := ve, n3 := v_n3, gLen := n_len, gAll := n_all, gLi := n_list, gTpl := n_tuple, gSo := n_sorted, gMi := n_min } er
  have o_B := ok_bui F__law_built_right (code_of F__law_built_right) (TB (("_law_built_right" : Str), none) (by simp [tf])) { pick := ⟨_, _, g__law_pick, o_pick, F__law_pick.kp, b__law_pick⟩, same := ⟨_, _, g__law_same, o_same, F__law_same.kp, b__law_same⟩, met := mt, built := ⟨_, _, g_built_on, o_built, F_built_on.kp, b_built_on⟩, vil := vil, eqv := eqv, len_ := ⟨_, _, o_len, v_m___len__.at_, v_m___len__.fn, b_v___len__⟩, ve := ve, n3 := v_n3, gLen := n_len } er
  have o_J := ok_joi F__law_joined_right (code_of F__law_joined_right) (TB (("_law_joined_right" : Str), none) (by simp [tf])) { vill := ⟨_, _, g__law_v_village, o_vill, F__law_v_village.kp, b__law_v_village⟩, pick := ⟨_, _, g__law_pick, o_pick, F__law_pick.kp, b__law_pick⟩, same := ⟨_, _, g__law_same, o_same, F__law_same.kp, b__law_same⟩, met := mt, join := ⟨_, _, g_joined_by, o_joinV, F_joined_by.kp, b_joined_by⟩, ren := ⟨_, _, g_renamed, o_ren, F_renamed.kp, b_renamed⟩, vil := vil, eqv := eqv, pts := ⟨_, _, v_m_paths, o_pm, b_v_paths⟩, vc := vc, ve := ve, gSo := n_sorted, gDict := n_dict, gEn := n_enumerate, gStr := n_str } er
  have o_N : ∀ A : Around, Room 11 A → A.guards = some [] → Gd.OkAt P w K mg base CX0 A (He.fAd K ("_law_names_right", none)) d__law_names_right ["stream", "village", "houses", "paths"] (spNam mg (He.ga K "Village") (He.cT K ("_law_names_right", none)).2) := fun A h1 h2 => ok_nam F__law_names_right (code_of F__law_names_right) (TB (("_law_names_right" : Str), none) (by simp [tf])) h1 h2 { mixed := ⟨_, _, g__law_mixed, o_mixed, F__law_mixed.kp, b__law_mixed⟩, same := ⟨_, _, g__law_same, o_same, F__law_same.kp, b__law_same⟩, met := mt, ren := ⟨_, _, g_renamed, o_ren, F_renamed.kp, b_renamed⟩, vil := vil, eqv := eqv, ve := ve, n3 := v_n3, gLen := n_len, gAll := n_all, gLi := n_list, gDict := n_dict, gZip := n_zip, gRepr := n_repr } er
  exact ok_law F_law (code_of F_law) n12 n13 n14 n23 n24 n34 ⟨rfl, by decide, by decide⟩ rfl {
    start := ⟨_, _, g__law_start, ok_start F__law_start n_list, F__law_start.kp, b__law_start⟩
    vill := ⟨_, _, g__law_v_village, o_vill, F__law_v_village.kp, b__law_v_village⟩
    parts := ⟨_, _, g__law_parts_right, o_P, F__law_parts_right.kp, b__law_parts_right⟩
    built := ⟨_, _, g__law_built_right, o_B, F__law_built_right.kp, b__law_built_right⟩
    joined := ⟨_, _, g__law_joined_right, o_J, F__law_joined_right.kp, b__law_joined_right⟩
    names := ⟨_, _, g__law_names_right, o_N, F__law_names_right.kp, b__law_names_right⟩
    mkv := vil
    vc := vc
    gRange := n_range }
end K07
open PySem PySem.W PySem.Calls PyProof.Rows
theorem PySem.Challenge.cw_letterround_k07_villages_of_villages_holds : PySem.Challenge.rw_letterround_k07_villages_of_villages.Holds := by
  w_on; o_law
  refine HandSHeadRun.head_any (r := OpenLaw.row PySem.Challenge.rw_letterround_k07_villages_of_villages) (q := view (OpenLaw.row PySem.Challenge.rw_letterround_k07_villages_of_villages).prog [51]) (H := K07H.hk) (ob := K07H.ob) (M := 40000) (loose := K07H.loose) (d := HandSHeadRun.topDef (OpenLaw.row PySem.Challenge.rw_letterround_k07_villages_of_villages).prog 51) (kwd := []) K07H.ob_eq
    ?op ?fe K07H.run (by kernel_rfl) (by kernel_rfl) (by kernel_rfl) (by rfl) (by first | assumption | decide +kernel) (by decide +kernel) ⟨rfl, rfl, rfl, rfl, rfl, by decide +kernel⟩ ?hw ?hc
  case op => kernel_rfl
  case fe =>
    intro s
    rfl
  case hw => w_witness2
  case hc =>
    refine Gd.walk_at2 (l := PySem.Challenge.rw_letterround_k07_villages_of_villages) (n := 63) (x := "script") (CX := fun _ => L2.CX0) rfl (by decide) (by kernel_rfl) ?F (fun _ _ _ _ _ z => z)
    intro w mg fa h Y G hmg0
    obtain ⟨K, KX, c⟩ := Y
    have hmg : mg ("law" : PySem.Str) = some (.ref fa) := by
      have e : (HandSHeadRun.topDef (OpenLaw.row PySem.Challenge.rw_letterround_k07_villages_of_villages).prog 51).name = ("law" : PySem.Str) := by kernel_rfl
      rw [← e]
      exact hmg0
    obtain ⟨fd, hb, hl, hF⟩ := K07.facts (P := (PySem.Challenge.rw_letterround_k07_villages_of_villages).prog) (w := w) KX G c
    have e := hmg.symm.trans hl
    cases e
    have tm : ∀ p ∈ K07H.tf.map (He.cT K), ∃ q ∈ K07H.tf, p = He.cT K q := fun p hp => by
      obtain ⟨q, hq, rfl⟩ := List.mem_map.mp hp
      exact ⟨q, hq, rfl⟩
    refine ⟨K, fd, K07H.tf.map (He.cT K), K07.spLaw K (He.cT K ("_law_parts_right", none)).2 (He.cT K ("_law_built_right", none)).2 (He.cT K ("_law_joined_right", none)).2 (He.cT K ("_law_names_right", none)).2, KX, fun p hp => ?_, fun p hp => ?_, fun p hp => ?_, hb, fun H a ns hl hH hS => ⟨a, ns, rfl, hS, hl, ?_, ?_, ?_, ?_, fun _ => rfl⟩, fun base _ _ hT => hF base fun q hq => hT _ (List.mem_map.mpr ⟨q, hq, rfl⟩)⟩
    · obtain ⟨q, hq, rfl⟩ := tm p hp
      exact c.empty _ hq
    · obtain ⟨q, hq, rfl⟩ := tm p hp
      exact c.out _ hq
    · obtain ⟨q, hq, rfl⟩ := tm p hp
      exact codeHd_of_K KX (c.hd _ hq)
    · exact hH _ (List.mem_map.mpr ⟨("_law_parts_right", none), by simp [K07H.tf], rfl⟩)
    · exact hH _ (List.mem_map.mpr ⟨("_law_built_right", none), by simp [K07H.tf], rfl⟩)
    · exact hH _ (List.mem_map.mpr ⟨("_law_joined_right", none), by simp [K07H.tf], rfl⟩)
    · exact hH _ (List.mem_map.mpr ⟨("_law_names_right", none), by simp [K07H.tf], rfl⟩)

