import PyProof.Rows.All
import Wide.All
import OpenK.AllK
import Wide.FinOn
import KE.KStateDown
import KE.GoesEnum
import KE.GoesZip
import KE.GoesMore
import HandS.ForMost
import HandS.Walk
import HandS.ExcInit
import HandS.ExcField
import HandS.TryMany
import HandS.Lambda
import HandS.Defaults
import HandS.HeadHook1
import HandS.Gcd
import HandS.Star
import HandS.SetFor
import KE.KMathGC
import KE.KTupSum
import KE.KDictKeyed
import KE.KeyNested
import HandS.Dict
import HandS.Evl
import PyProof.Rows.TupTab
import KE.KLam
import HandS.HeadWalk
import HandS.Head2
import HandS.HeadHook4
import HandS.Style
import HandS.IsInst
import HandS.WordsExc
import HandS.ExcOwn
import HandS.NoneIn
import HandS.DictComp
import HandS.ListItems
import KE.KNestM
import HandS.Head3
import HandS.Codes
import PySem.Challenge.RW_letterround_k14_whole_words
set_option Elab.async false
set_option linter.all false
set_option maxRecDepth 100000
set_option maxHeartbeats 0
namespace Sq
open PySem PySem.Spec PyProof.Rows L2
/-! ### a list or a tuple, by a flag: t true for a tuple -/
def SqK (K : PySem.W.Frag) (H : Hp) (t : Bool) (a : Addr) (xs : List V) : Prop := match t with
  | true => SqT K H a xs
  | false => SqL K H a xs
def IsSq (t : Bool) (h : Heap) (a : Addr) (its : Array Value) : Prop := match t with
  | true => h.IsTuple a its
  | false => h.IsList a its
def IsIt (t : Bool) (h : Heap) (it a : Addr) (i : Nat) : Prop := match t with
  | true => h.IsTupleIter it a i
  | false => h.IsListIter it a i
def itObj (t : Bool) (a : Addr) : Obj := match t with
  | true => { cls := .type "tuple_iterator", data := .fields #[.ref a, .int 0 0] }
  | false => { cls := .type "list_iterator", data := .fields #[.ref a, .int 0 0] }
theorem itObj_it {t : Bool} {h : Heap} {it a : Addr} (e : h.get? it = some (itObj t a)) : IsIt t h it a 0 := by
  cases t <;> exact ⟨_, e, rfl, rfl⟩
theorem IsIt.at_ {t : Bool} {h h' : Heap} {it a : Addr} {i : Nat} (x : IsIt t h it a i) (k : ∀ o, h.get? it = some o → h'.get? it = some o) : IsIt t h' it a i := by
  cases t with
  | true => exact Heap.IsTupleIter.at x k
  | false => exact Heap.IsListIter.at x k
theorem IsIt.obj {t : Bool} {h : Heap} {it a : Addr} {i : Nat} (x : IsIt t h it a i) : ∃ o, h.get? it = some o ∧ ∀ v, o.data ≠ .cell v := by
  cases t <;> (obtain ⟨o, h1, _, h2⟩ := x; exact ⟨o, h1, fun v q => by rw [h2] at q; cases q⟩)
theorem draws {t : Bool} {prog : Program} {w : World} {A : Around} (hh : A.handled = none) (it a : Addr) (hne : a ≠ it) (its : Array Value) :
    Draws prog w A it [it, a] its.size (fun i v => its[i]? = some v) (fun i h => IsIt t h it a i ∧ IsSq t h a its) := by
  cases t with
  | true => exact Draws.tuple hh it a hne its
  | false => exact Draws.list hh it a hne its
theorem begins (t : Bool) (a : Addr) (its : Array Value) : Begins (.ref a) (itObj t a) fun h => IsSq t h a its := by
  cases t with
  | true => exact begins_tuple a its
  | false => exact begins_list a its
section
variable {X : Cx} {pins : List (Addr × Obj)} {σ : L2.St} {H : Hp} {s : Shared} {a : Addr} {xs ys : List V} {t : Bool}
theorem sq_get (I : Inv X pins σ H s) (h : SqK X.K H t a xs) : ∃ its : List Value, Vals xs its ∧ IsSq t s.heap a its.toArray := by
  cases t with
  | true =>
    obtain ⟨its, r, p, _⟩ := I.tuple h
    exact ⟨its, r, p⟩
  | false =>
    obtain ⟨its, r, p, _⟩ := I.list h
    exact ⟨its, r, p.isList⟩
theorem sq_inj (I : Inv X pins σ H s) (h : SqK X.K H t a xs) (h' : SqK X.K H t a ys) : xs = ys := by
  cases t with
  | true => exact I.tuple_inj h h'
  | false => exact I.list_inj h h'
theorem sq_live (I : Inv X pins σ H s) (h : SqK X.K H t a xs) : a < s.heap.objs.size := by
  obtain ⟨its, _, q⟩ := sq_get I h
  cases t <;> (obtain ⟨o, e, _⟩ := q; exact Heap.lt_size e)
end
theorem keepSq {t : Bool} {h h' : Heap} {a : Addr} {its : Array Value} (x : IsSq t h a its) (k : ∀ o, h.get? a = some o → h'.get? a = some o) : IsSq t h' a its := by
  cases t with
  | true =>
    obtain ⟨o, e, r⟩ := x
    exact ⟨o, k o e, r⟩
  | false =>
    obtain ⟨o, e, r⟩ := x
    exact ⟨o, k o e, r⟩
/-! ### enumerate of either -/
def ItE (K : PySem.W.Frag) (t : Bool) (a : Addr) : It :=
  ⟨fun i H => ∃ (xs : List V) (x : V), SqK K H t a xs ∧ xs[i]? = some x, fun i H v H' => ∃ T x, v = .ref T ∧ H T = none ∧ H' = upd H T (.tup [.int (i : Nat), x]) ∧ ∀ xs, SqK K H t a xs → xs[i]? = some x, fun i H => ∃ xs : List V, SqK K H t a xs ∧ xs.length = i⟩
theorem turnE {P : Program} {w : World} {K : PySem.W.Frag} {elts : List Expr} {kk : Nat} {tpos : Pos} (t : Bool) (a e it : Addr) (hne : e ≠ it) (hea : e ≠ a) (hia : a ≠ it) :
    Turn P w K (.Tuple elts kk tpos) (ItE K t a) [e, it] e (fun i h => (∃ old, IsEnum h e it (0 + (i : Int)) old) ∧ IsIt t h it a i) where
  mem := by simp
  obj := fun i h st b hb => by
    obtain ⟨⟨old, he⟩, hi⟩ := st
    rcases List.mem_cons.mp hb with z | z
    · rw [z]
      exact ⟨_, he, fun v q => nomatch q⟩
    · rw [List.mem_singleton.mp z]
      exact hi.obj
  keep := fun i h h' st k => by
    obtain ⟨⟨old, he⟩, hi⟩ := st
    exact ⟨⟨old, k e (by simp) _ he⟩, hi.at_ fun o q => k it (by simp) o q⟩
  item := by
    intro X hP hw hK hc i pins s σ H E I hf st hg
    subst hP hw hK
    obtain ⟨he, hi⟩ := st
    obtain ⟨xs, x, hq, hx⟩ := hg
    obtain ⟨its, rv, hsq⟩ := sq_get I hq
    obtain ⟨u, hu, ru⟩ := rv.get hx
    have hlt : i < its.toArray.size := by simpa using (List.getElem?_eq_some_iff.mp hu).1
    have hal := sq_live I hq
    have WT := WalksT.enumFrom (prog := X.prog) (w := X.w) (A := X.A) 0 (draws (t := t) (A := X.A.in1) (I.ok.hd hc) it a hia its.toArray) e hne (by simp [hne, hea]) (by simp)
    refine WT.item i s _ _ hlt ⟨he, hi, hsq⟩ fun T vals h' tk hv hT htup hmid hk => ?_
    refine ⟨_, rfl, WT.go elts kk tpos i T _ _ _ hmid fun h'' st' hk2 => ?_⟩
    obtain ⟨tok, y, hy, rfl⟩ := hv
    have ey : y = u := by
      have q : its.toArray[i]? = some u := by simpa using hu
      exact Option.some.inj (hy.symm.trans q)
    subst ey
    have tw := WT.apart i T _ hmid
    have new : ObjOk X.prog X.w (upd H T (.tup [.int (i : Nat), x])) h'' T (.tup [.int (i : Nat), x]) := by
      obtain ⟨o, ho, hcl, n, hd⟩ := htup
      refine ⟨by show 2 ≤ sizeLine; decide, [.int (0 + (i : Int)) tok, y], .cons ⟨tok, by rw [Int.zero_add]⟩ (.cons ru .nil), ⟨o, hk2 T o tw ho, hcl, n, hd⟩⟩
    have I1 : Inv X pins σ (upd H T (.tup [.int (i : Nat), x])) { s with heap := h'', toks := tk } := I.turnedNew (ch := [e, it]) (fun b o hb q => hk2 b o hb (hk b o hb q)) hf hT new
    have hn : H T = none := I.hok.fresh hT
    refine ⟨.ref T, _, I1, rfl, ⟨T, x, rfl, hn, rfl, fun zs hz => by rw [sq_inj I hz hq]; exact hx⟩, ⟨?_, st'.2.1⟩, fun b hb => ?_⟩
    · exact st'.1
    · have hbs : b < s.heap.objs.size := by
        rcases List.mem_cons.mp hb with z | z
        · obtain ⟨old, q⟩ := he
          rw [z]
          exact Heap.lt_size q
        · obtain ⟨o, q, _⟩ := hi.obj
          rw [List.mem_singleton.mp z]
          exact Heap.lt_size q
      rw [upd_ne (Nat.ne_of_lt (Nat.lt_of_lt_of_le hbs hT))]
      exact (hf b hb).1
  done := by
    intro X hP hw hK hc i pins s σ H E I hf st hg
    subst hP hw hK
    obtain ⟨he, hi⟩ := st
    obtain ⟨xs, hq, hx⟩ := hg
    obtain ⟨its, rv, hsq⟩ := sq_get I hq
    have hl := rv.length
    have en : its.toArray.size = i := by
      rw [List.size_toArray]
      omega
    have WT := WalksT.enumFrom (prog := X.prog) (w := X.w) (A := X.A) 0 (draws (t := t) (A := X.A.in1) (I.ok.hd hc) it a hia its.toArray) e hne (by simp [hne, hea]) (by simp)
    refine WT.done s _ _ (by rw [en]; exact ⟨he, hi, hsq⟩) fun h' tk hk => ⟨rfl, I.turnedL (ch := [e, it]) (fun b o hb q => hk b o hb q) hf⟩
  self := fun A i s Q E st h => let ⟨⟨_, he⟩, _⟩ := st; wpAny_pyIter_enum he h
set_option maxHeartbeats 4000000 in
theorem meets_enum {v : Value} {o : Obj} {H : Heap → Prop} (B : Begins v o H) :
    Meets (Builtin.«enumerate.__new__» ⟨[.type "enumerate", v], []⟩) (fun _ R s => H s.heap ∧
      R (.ok (.ret (.ref (s.heap.push o).objs.size))) { s with heap := (s.heap.push o).push { cls := .type "enumerate", data := .fields #[.none, .bool false, .ref s.heap.objs.size, rawInt 0, .none, .none] } }) :=
  .of_wp fun prog w A R s h => by
    obtain ⟨hp, g, d, tk, os⟩ := s
    obtain ⟨h1, h2⟩ := h
    have sub := sub_enumerate
    have it1 : ∀ {A' : Around} {E : Value → Shared → Prop} {Q : Value → Shared → Prop}, Q (.ref hp.objs.size) ⟨hp.push o, g, d, tk, os⟩ → wpAny (model prog w) A' (pyIter v) Q E ⟨hp, g, d, tk, os⟩ :=
      fun q => B.iter prog w _ _ ⟨hp, g, d, tk, os⟩ _ h1 q
    wp_walk using it1
    refine wpAny_stack_any fun st => wpAny_pure ?_
    split
    · rename_i c _ _ _ _ _
      cases (c == Value.type "enumerate") <;> (wp_walk using it1; exact ⟨_, rfl, h2⟩)
    · wp_walk using it1
      exact ⟨_, rfl, h2⟩
theorem call_enum {prog : Program} {w : World} {A : Around} {E : Value → Shared → Prop} {s : Shared} {v : Value} {o : Obj} {H : Heap → Prop} {Q : Value → Shared → Prop} (B : Begins v o H) (h1 : H s.heap)
    (h : ∀ h', IsEnum h' (s.heap.objs.size + 1) s.heap.objs.size 0 .none → h'.get? s.heap.objs.size = some o → (∀ b u, s.heap.get? b = some u → h'.get? b = some u) → Q (.ref (s.heap.objs.size + 1)) { s with heap := h' }) :
    wpAny (model prog w) A (call (.type "enumerate") [v]) Q E s := by
  refine callType_new F.called_enumerate (by decide) (F.typeCall_enumerate_1 _) (F.newCall_enumerate_1 _) (fun obj => F.args_object_init_2 obj _) F.entry_enumerate_new (meets_enum B) ⟨h1, ?_⟩
  have hz : (s.heap.push o).objs.size = s.heap.objs.size + 1 := Heap.size_push ..
  rw [hz]
  have he : IsEnum ((s.heap.push o).push { cls := .type "enumerate", data := .fields #[.none, .bool false, .ref s.heap.objs.size, rawInt 0, .none, .none] }) (s.heap.objs.size + 1) s.heap.objs.size 0 .none := by
    have q := Heap.get?_push_size (s.heap.push o) (o := { cls := .type "enumerate", data := .fields #[.none, .bool false, .ref s.heap.objs.size, rawInt 0, .none, .none] }) rfl
    rw [hz] at q
    exact q
  exact ⟨⟨_, he, rfl⟩, h _ he (Heap.get?_push_of_some _ (Heap.get?_push_size _ B.free)) fun b u x => Heap.get?_push_of_some _ (Heap.get?_push_of_some _ x)⟩
/-- enumerate(e), e a list or a tuple -/
def iEnumA (K : PySem.W.Frag) (ta : TA) : TI := fun σ H R => ta σ H fun vs H1 => ∃ t a xs, vs = [.ref a] ∧ SqK K H1 t a xs ∧ R (ItE K t a) H1
theorem pi_enumA {X : Cx} {e : Expr} {ta : TA} {p pos tpos : Pos} {elts : List Expr} {kk : Nat} (hg : Gl X "enumerate") (hm : X.mg "enumerate" = none) (ha : PA X [e] ta) (hs : starEach [e] X.env = [(false, eval e X.env)] := by rfl) :
    PI X (.Tuple elts kk tpos) (.Call (.Name "enumerate" p) [e] [] pos) (iEnumA X.K ta) := by
  refine ⟨fun pins s σ H R I h => ?_⟩
  refine Call_ (ld_blt I hg hm boot_enumerate (PyProof.Rows.callWith_type1 (thn (ha.run pos pins s σ H _ I h) fun us s1 hh => ?_) hs rfl))
  obtain ⟨vs, H1, I1, r1, t, a, xs, rfl, hq, q⟩ := hh
  cases r1 with
  | cons r rr =>
    cases rr
    cases r
    obtain ⟨its, rv, hsq⟩ := sq_get I1 hq
    have hal := sq_live I1 hq
    refine call_enum (begins t a its.toArray) hsq fun h' he hit hk => wpAny_pyIter_enum he ?_
    have I2 : Inv X pins σ H1 { s1 with heap := h' } := I1.kept (t' := s1.toks) hk
    have n1 : s1.heap.objs.size + 1 ≠ s1.heap.objs.size := Nat.succ_ne_self _
    have n2 : s1.heap.objs.size + 1 ≠ a := Nat.ne_of_gt (Nat.lt_succ_of_lt hal)
    refine ⟨s1.heap.objs.size + 1, _, _, _, H1, rfl, I2, turnE t a (s1.heap.objs.size + 1) s1.heap.objs.size n1 n2 (Nat.ne_of_lt hal), ⟨⟨.none, he⟩, itObj_it hit⟩, fun b hb => ?_, q⟩
    have hle : s1.heap.objs.size ≤ b := by
      rcases List.mem_cons.mp hb with z | z
      · rw [z]
        exact Nat.le_succ _
      · rw [List.mem_singleton.mp z]
        exact Nat.le_refl _
    exact I1.fpOk hle (I1.hok.fresh hle)
theorem walk_enumA {K : PySem.W.Frag} {t : Bool} {a : Addr} {xs : List V} : Walk (ItE K t a) xs.length (fun H => SqK K H t a xs) (YPair (fun i => some (.int (i : Nat))) (fun i => xs[i]?)) where
  goes := fun i _ hi q => ⟨xs, xs[i], q, by simp [hi]⟩
  stops := fun _ q => ⟨xs, q, rfl⟩
  yields := fun i H v H' _ q y => by
    obtain ⟨T, x, h1, h2, h3, h4⟩ := y
    exact ⟨T, .int (i : Nat), x, h1, h2, h3, rfl, h4 xs q⟩
/-! ### zip of two, each a list or a tuple -/
def ItZ (K : PySem.W.Frag) (t1 t2 : Bool) (a b : Addr) : It :=
  ⟨fun i H => ∃ (xs ys : List V) (x y : V), SqK K H t1 a xs ∧ SqK K H t2 b ys ∧ xs[i]? = some x ∧ ys[i]? = some y,
   fun i H v H' => ∃ T x y, v = .ref T ∧ H T = none ∧ H' = upd H T (.tup [x, y]) ∧ (∀ xs, SqK K H t1 a xs → xs[i]? = some x) ∧ ∀ ys, SqK K H t2 b ys → ys[i]? = some y,
   fun i H => ∃ xs ys : List V, SqK K H t1 a xs ∧ SqK K H t2 b ys ∧ min xs.length ys.length = i⟩
def stZ (t1 t2 : Bool) (z TI TO i1 i2 a b : Addr) (i : Nat) (h : Heap) : Prop :=
  IsZip h z TI TO .none ∧ IsTupOf2 h TI (.ref i1) (.ref i2) ∧ (∃ a1 a2, IsTupOf2 h TO a1 a2) ∧ IsIt t1 h i1 a i ∧ IsIt t2 h i2 b i
theorem turnZ {P : Program} {w : World} {K : PySem.W.Frag} {elts : List Expr} {kk : Nat} {tpos : Pos} {t1 t2 : Bool} {z TI TO i1 i2 a b : Addr} (S : ZipSep2 z TI TO i1 i2 [i1, a] [i2, b]) (h1a : a ≠ i1) (h2b : b ≠ i2) (hTa : TI ≠ a) (hTb : TI ≠ b) :
    Turn P w K (.Tuple elts kk tpos) (ItZ K t1 t2 a b) [z, TI, TO, i1, i2] z (stZ t1 t2 z TI TO i1 i2 a b) where
  mem := by simp
  obj := fun i h st c hc => by
    obtain ⟨hz, hTI, ⟨x, y, hTO⟩, d1, d2⟩ := st
    simp only [List.mem_cons, List.not_mem_nil, or_false] at hc
    rcases hc with q | q | q | q | q
    · rw [q]
      exact ⟨_, hz, fun v q => nomatch q⟩
    · rw [q]
      exact ⟨_, hTI, fun v q => nomatch q⟩
    · rw [q]
      exact ⟨_, hTO, fun v q => nomatch q⟩
    · rw [q]
      exact d1.obj
    · rw [q]
      exact d2.obj
  keep := fun i h h' st k => by
    obtain ⟨hz, hTI, ⟨x, y, hTO⟩, d1, d2⟩ := st
    exact ⟨k z (by simp) _ hz, k TI (by simp) _ hTI, ⟨x, y, k TO (by simp) _ hTO⟩, d1.at_ fun o q => k i1 (by simp) o q, d2.at_ fun o q => k i2 (by simp) o q⟩
  item := by
    intro X hP hw hK hc i pins s σ H E I hf st hg
    subst hP hw hK
    obtain ⟨xs, ys, x, y, hqx, hqy, hx, hy⟩ := hg
    obtain ⟨its, rv, hsq⟩ := sq_get I hqx
    obtain ⟨jts, rw', hsr⟩ := sq_get I hqy
    obtain ⟨u, hu, ru⟩ := rv.get hx
    obtain ⟨v, hv, rv2⟩ := rw'.get hy
    have hu' : its.toArray[i]? = some u := by simpa using hu
    have hv' : jts.toArray[i]? = some v := by simpa using hv
    have hlt : i < min its.toArray.size jts.toArray.size := by
      have q1 := (Array.getElem?_eq_some_iff.mp hu').1
      have q2 := (Array.getElem?_eq_some_iff.mp hv').1
      omega
    have WT := WalksT.zipD2 (prog := X.prog) (w := X.w) (A := X.A) S (draws (t := t1) (A := X.A.in1) (I.ok.hd hc) i1 a h1a its.toArray) (draws (t := t2) (A := X.A.in1) (I.ok.hd hc) i2 b h2b jts.toArray)
    obtain ⟨s1, s2, s3, s4, s5⟩ := id st
    refine WT.item i s _ _ hlt ⟨s1, s2, s3, ⟨s4, hsq⟩, ⟨s5, hsr⟩⟩ fun T vals h' tk hvals hT htup hmid hk => ?_
    refine ⟨_, rfl, WT.go elts kk tpos i T _ _ _ hmid fun h'' st' hk2 => ?_⟩
    obtain ⟨x1, y1, e1, e2, rfl⟩ := hvals
    have ex1 : x1 = u := Option.some.inj (e1.symm.trans hu')
    have ey1 : y1 = v := Option.some.inj (e2.symm.trans hv')
    subst ex1 ey1
    have tw := WT.apart i T _ hmid
    have new : ObjOk X.prog X.w (upd H T (.tup [x, y])) h'' T (.tup [x, y]) := by
      obtain ⟨o, ho, hcl, n, hd⟩ := htup
      exact ⟨by show 2 ≤ sizeLine; decide, [x1, y1], .cons ru (.cons rv2 .nil), ⟨o, hk2 T o tw ho, hcl, n, hd⟩⟩
    have sub : ∀ c, c ∈ [z, TO, i1, i2] → c ∈ [z, TI, TO, i1, i2] := fun c hc => by
      simp only [List.mem_cons, List.not_mem_nil, or_false] at hc ⊢
      rcases hc with q | q | q | q
      · exact .inl q
      · exact .inr (.inr (.inl q))
      · exact .inr (.inr (.inr (.inl q)))
      · exact .inr (.inr (.inr (.inr q)))
    have I1 : Inv X pins σ (upd H T (.tup [x, y])) { s with heap := h'', toks := tk } := I.turnedNew (ch := [z, TI, TO, i1, i2]) (fun c o hc q => hk2 c o (fun m => hc (sub c m)) (hk c o (fun m => hc (sub c m)) q)) hf hT new
    have hn : H T = none := I.hok.fresh hT
    obtain ⟨r1, r2, r3, ⟨r4, _⟩, ⟨r5, _⟩⟩ := st'
    refine ⟨.ref T, _, I1, rfl, ⟨T, x, y, rfl, hn, rfl, fun zs hz => by rw [sq_inj I hz hqx]; exact hx, fun zs hz => by rw [sq_inj I hz hqy]; exact hy⟩, ⟨r1, r2, r3, r4, r5⟩, fun c hc => ?_⟩
    have hcs : c < s.heap.objs.size := by
      obtain ⟨a1, a2, s3⟩ := s3
      obtain ⟨o4, q4, _⟩ := s4.obj
      obtain ⟨o5, q5, _⟩ := s5.obj
      simp only [List.mem_cons, List.not_mem_nil, or_false] at hc
      rcases hc with q | q | q | q | q <;> rw [q]
      · exact Heap.lt_size s1
      · exact Heap.lt_size s2
      · exact Heap.lt_size s3
      · exact Heap.lt_size q4
      · exact Heap.lt_size q5
    rw [upd_ne (Nat.ne_of_lt (Nat.lt_of_lt_of_le hcs hT))]
    exact (hf c hc).1
  done := by
    intro X hP hw hK hc i pins s σ H E I hf st hg
    subst hP hw hK
    obtain ⟨xs, ys, hqx, hqy, hend⟩ := hg
    obtain ⟨its, rv, hsq⟩ := sq_get I hqx
    obtain ⟨jts, rw', hsr⟩ := sq_get I hqy
    have l1 := rv.length
    have l2 := rw'.length
    have en : min its.toArray.size jts.toArray.size = i := by
      rw [List.size_toArray, List.size_toArray, ← l1, ← l2]
      exact hend
    have WT := WalksT.zipD2 (prog := X.prog) (w := X.w) (A := X.A) S (draws (t := t1) (A := X.A.in1) (I.ok.hd hc) i1 a h1a its.toArray) (draws (t := t2) (A := X.A.in1) (I.ok.hd hc) i2 b h2b jts.toArray)
    obtain ⟨s1, s2, s3, s4, s5⟩ := id st
    refine WT.done s _ _ (by rw [en]; exact ⟨s1, s2, s3, ⟨s4, hsq⟩, ⟨s5, hsr⟩⟩) fun h' tk hk => ⟨rfl, I.turnedL (ch := [z, TI, TO, i1, i2]) (fun c o hb q => hk c o (fun m => hb ?_) q) hf⟩
    simp only [List.mem_cons, List.not_mem_nil, or_false] at m ⊢
    rcases m with q | q | q | q
    · exact .inl q
    · exact .inr (.inr (.inl q))
    · exact .inr (.inr (.inr (.inl q)))
    · exact .inr (.inr (.inr (.inr q)))
  self := fun A i s Q E st h => wpAny_pyIter_zip st.1 h
/-- zip(e, f), each a list or a tuple -/
def iZip2 (K : PySem.W.Frag) (ta : TA) : TI := fun σ H R => ta σ H fun vs H1 => ∃ t1 t2 a b xs ys, vs = [.ref a, .ref b] ∧ SqK K H1 t1 a xs ∧ SqK K H1 t2 b ys ∧ R (ItZ K t1 t2 a b) H1
theorem pi_zip2 {X : Cx} {e f : Expr} {ta : TA} {p pos tpos : Pos} {elts : List Expr} {kk : Nat} (hg : Gl X "zip") (hm : X.mg "zip" = none) (ha : PA X [e, f] ta) (hs : starEach [e, f] X.env = (false, eval e X.env) :: starEach [f] X.env := by rfl) (hp2 : (backTo pos (starEach [f] X.env)).any (·.1) = false := by rfl) :
    PI X (.Tuple elts kk tpos) (.Call (.Name "zip" p) [e, f] [] pos) (iZip2 X.K ta) := by
  refine ⟨fun pins s σ H R I h => ?_⟩
  refine Call_ (ld_blt I hg hm PyProof.Rows.boot_zip (PyProof.Rows.callWith_type1 (thn (ha.run pos pins s σ H _ I h) fun us s1 hh => ?_) hs hp2))
  obtain ⟨vs, H1, I1, r1, t1, t2, a, b, xs, ys, rfl, hqx, hqy, q⟩ := hh
  cases r1 with
  | cons r rr =>
    cases rr with
    | cons r' rr =>
      cases rr
      cases r
      cases r'
      obtain ⟨its, rv, p1⟩ := sq_get I1 hqx
      obtain ⟨jts, rw', p2⟩ := sq_get I1 hqy
      have la := sq_live I1 hqx
      have lb := sq_live I1 hqy
      refine zip_begins2 (begins t1 a its.toArray) (begins t2 b jts.toArray) p1 p2 fun h' hz hTI hTO d1 d2 hsz hk => wpAny_pyIter_zip hz ?_
      have I2 : Inv X pins σ H1 { s1 with heap := h' } := I1.kept (t' := s1.toks) hk
      refine ⟨s1.heap.objs.size + 4, _, _, _, H1, rfl, I2, turnZ (t1 := t1) (t2 := t2) (TI := s1.heap.objs.size + 2) (TO := s1.heap.objs.size + 3) (i1 := s1.heap.objs.size) (i2 := s1.heap.objs.size + 1) (a := a) (b := b)
        (zip_sep2 (fun c hc => by rw [List.mem_singleton.mp hc]; exact la) (fun c hc => by rw [List.mem_singleton.mp hc]; exact lb)) (Nat.ne_of_lt la) (Nat.ne_of_lt (Nat.lt_succ_of_lt lb)) (Nat.ne_of_gt (Nat.lt_of_lt_of_le la (Nat.le_add_right _ _))) (Nat.ne_of_gt (Nat.lt_of_lt_of_le lb (Nat.le_add_right _ _))),
        ⟨hz, hTI, ⟨_, _, hTO⟩, itObj_it d1, itObj_it d2⟩, fun c hc => ?_, q⟩
      have hle : s1.heap.objs.size ≤ c := by
        simp only [List.mem_cons, List.not_mem_nil, or_false] at hc
        rcases hc with z | z | z | z | z <;> rw [z] <;> first | exact Nat.le_refl _ | exact Nat.le_add_right _ _
      exact I1.fpOk hle (I1.hok.fresh hle)
theorem walk_zip2 {K : PySem.W.Frag} {t1 t2 : Bool} {a b : Addr} {xs ys : List V} {n : Nat} (hn : n = min xs.length ys.length) : Walk (ItZ K t1 t2 a b) n (fun H => SqK K H t1 a xs ∧ SqK K H t2 b ys) (YPair (fun i => xs[i]?) (fun i => ys[i]?)) where
  goes := fun i _ hi q => ⟨xs, ys, xs[i]'(by omega), ys[i]'(by omega), q.1, q.2, by simp, by simp⟩
  stops := fun _ q => ⟨xs, ys, q.1, q.2, hn.symm⟩
  yields := fun i H v H' _ q y => by
    obtain ⟨T, x, y, h1, h2, h3, h4, h5⟩ := y
    exact ⟨T, x, y, h1, h2, h3, h4 xs q.1, h5 ys q.2⟩
end Sq
namespace Exs
open PySem PySem.Spec PyProof.Rows L2
/-! ### an own error class beneath ValueError, whose __init__ keeps one thing -/
def clsB (K : PySem.W.Frag) (C : Addr) : Bool := match K.lookup C with
  | some ⟨.type t, _, .cls cd, sl⟩ => (match cd.mro, sl.toList with
    | .ref D :: bm, [_, _, _, _, some (.builtin n), _] => decide (t = "type") && (decide (D = C) && (decide (n = "ValueError.__new__") && (!cd.hasDel && (cd.hasDict && PySem.HandSPX.refsVE bm))))
    | _, _ => false)
  | _ => false
theorem clsB_ok {K : PySem.W.Frag} {C : Addr} (h : clsB K C = true) :
    ∃ nm q N bs bm sn sub ab col dd k0 k1 k2 k3 k5, K.lookup C = some (excClassObj nm q C N bs bm true sn sub ab col dd k0 k1 k2 k3 k5 "ValueError.__new__") ∧ PySem.HandSPX.refsVE bm = true := by
  unfold clsB at h
  split at h
  · rename_i t dd cd sl hl
    split at h
    · rename_i D bm k0 k1 k2 k3 n k5 hm hs
      simp only [Bool.and_eq_true, decide_eq_true_eq, Bool.not_eq_true'] at h
      obtain ⟨rfl, rfl, rfl, h1, h2, h3⟩ := h
      obtain ⟨nm, bs, mro, ns, qn, hd, sn, sub, ab, col, del⟩ := cd
      dsimp only at hm h1 h2
      subst hm h1 h2
      have es : sl = #[k0, k1, k2, k3, some (.builtin "ValueError.__new__"), k5] := by
        obtain ⟨l⟩ := sl
        dsimp only at hs
        rw [hs]
      subst es
      exact ⟨nm, qn, ns, bs, bm, sn, sub, ab, col, dd, k0, k1, k2, k3, k5, hl, h3⟩
    · cases h
  · cases h
def errB (K : PySem.W.Frag) (C fI : Addr) (f : Str) : Bool := clsB K C && (He.eqO (PySem.W.findIn K (.ref C) "__setattr__") (some (some (.builtin "object.__setattr__"))) && (decide (PySem.W.subIn K (.ref C) (.type "BaseException") = some true) &&
  (decide (PySem.W.typeIn K (.ref C) = some (.type "type")) && (PySem.W.keepIn K (.ref C) && (xfB K C && (He.eqO (PySem.W.findIn K (.ref C) f) (some none) && (He.eqO (PySem.W.findIn K (.ref C) "__init__") (some (some (.ref fI))) &&
  (decide (PySem.W.typeIn K (.ref fI) = some (.type "function")) && decide (PySem.W.exmOne K (.ref C) (.ref C) = some true)))))))))
structure ErrC (K : PySem.W.Frag) (C fI : Addr) (f : Str) : Prop where
  oc : OexC K C
  xf : XfC K C
  no : PySem.W.findIn K (.ref C) f = some none
  iC : PySem.W.findIn K (.ref C) "__init__" = some (some (.ref fI))
  tI : PySem.W.typeIn K (.ref fI) = some (.type "function")
  me : PySem.W.exmOne K (.ref C) (.ref C) = some true
theorem errB_ok {K : PySem.W.Frag} {C fI : Addr} {f : Str} (h : errB K C fI f = true) : ErrC K C fI f := by
  obtain ⟨h1, h⟩ := He.ba h
  obtain ⟨h2, h⟩ := He.ba h
  obtain ⟨h3, h⟩ := He.ba h
  obtain ⟨h4, h⟩ := He.ba h
  obtain ⟨h5, h⟩ := He.ba h
  obtain ⟨h6, h⟩ := He.ba h
  obtain ⟨h7, h⟩ := He.ba h
  obtain ⟨h8, h⟩ := He.ba h
  obtain ⟨h9, h0⟩ := He.ba h
  exact ⟨⟨clsB_ok h1, He.eqO_ok h2, of_decide_eq_true h3, of_decide_eq_true h4, h5⟩, xfB_ok h6, He.eqO_ok h7, He.eqO_ok h8, of_decide_eq_true h9, of_decide_eq_true h0⟩
/-- what __init__ does: the thing under its name -/
def spInit (C : Addr) (f : Str) : Sp := fun vs H Q _ => ∃ (a : Addr) (v : V), vs = [.ref a, v] ∧ H a = some (exo a C none) ∧ ∀ dx, H dx = none → dx ≠ a → Q .non (upd (upd H dx (exd dx [(f, v)])) a (exo a C (some dx)))
/-- self.f = f, the block of such an __init__, wherever it stands -/
abbrev initB (f : Str) (p1 p2 p3 p4 : Pos) : List Stmt := [.Assign [.Attribute (.Name "self" p1) f p2] (.Name f p3) p4]
section
variable {P : Program} {w : World} {K : PySem.W.Frag} {mg : Str → Option Value} {base : Heap}
theorem ok_init {x f : Str} {C fI : Addr} {fd : FuncData} {pa : Arguments} {bd : List Stmt} {sc : Scope} {p1 p2 p3 p4 : Pos} (T : ErrC K C fI f) (F : FunD K "__init__" x pa bd sc [] [] fI fd) (hb : bd = initB f p1 p2 p3 p4)
    (S : FnScope ["self", f] ["self", f] sc) (v0 : sc.names.lookup ("self" : Str) = some NameKind.local) (v1 : sc.names.lookup f = some NameKind.local) (hd : (f == ("__debug__" : Str)) = false) (hc : (f == ("__classdict__" : Str)) = false) :
    FnOk P w K mg base CX0 1 fI fd ["self", f] (spInit C f) := by
  subst hb
  refine F.ok S (fun vs H Q E h => ?_) (fun cdv A outer s H vs Q E hr h => ?_)
  · obtain ⟨a, v, rfl, _⟩ := h
    rfl
  · obtain ⟨a, v, rfl, ha, k⟩ := h
    refine ⟨_, PSs.nox (pss_one (ps_ost (pe_var (i := 0) rfl (.inl v0)) (pe_var (i := 1) rfl (.inl v1) hd hc))), ?_⟩
    exact ⟨_, rfl, _, rfl, a, C, rfl, T.oc, T.no, .inl ⟨ha, fun dx n ne => k dx n ne⟩⟩
/-- all that a raise of such an error asks -/
structure Err (P : Program) (w : World) (K : PySem.W.Frag) (mg : Str → Option Value) (base : Heap) (x f : Str) (C fI : Addr) : Prop where
  c : ErrC K C fI f
  g : mg x = some (.ref C)
  fn : ∃ fd, FnOk P w K mg base CX0 1 fI fd ["self", f] (spInit C f) ∧ L2.Binds K fd ["self", f] []
end
/-- what the making of such an error of v asks -/
def RaiseP (C : Addr) (f : Str) (W : XK) (v : V) (H1 : Hp) : Prop := [v].length ≤ 1000 ∧ ∀ a, H1 a = none → spInit C f (.ref a :: ([v] ++ [])) (upd H1 a (exo a C none))
  (fun u H2 => u = .non ∧ ∃ (d : Addr) (fs : List (Str × V)), H2 a = some (exo a C (some d)) ∧ H2 d = some (exd d fs) ∧ H1 d = none ∧ W (.ref C) (some d) (upd (del H2 a) d (.xd fs))) (fun _ _ _ => False)
theorem raiseP {C : Addr} {f : Str} {W : XK} {v : V} {H1 : Hp} (h : ∀ d, H1 d = none → W (.ref C) (some d) (upd H1 d (.xd [(f, v)]))) : RaiseP C f W v H1 := by
  refine ⟨by show 1 ≤ 1000; decide, fun a ha => ⟨a, v, rfl, upd_same, fun dx hdx ne => ⟨rfl, dx, [(f, v)], upd_same, ?_, ?_, ?_⟩⟩⟩
  · rw [upd_ne ne]
    exact upd_same
  · rw [upd_ne ne] at hdx
    exact hdx
  · have hd1 : H1 dx = none := by
      rw [upd_ne ne] at hdx
      exact hdx
    have e : upd (del (upd (upd (upd H1 a (exo a C none)) dx (exd dx [(f, v)])) a (exo a C (some dx))) a) dx (.xd [(f, v)]) = upd H1 dx (.xd [(f, v)]) := by
      funext b
      by_cases hb : b = dx
      · rw [hb, upd_same, upd_same]
      · rw [upd_ne hb, upd_ne hb]
        by_cases hba : b = a
        · rw [hba, del_same, ha]
        · rw [del_ne hba, upd_ne hba, upd_ne hb, upd_ne hba]
    rw [e]
    exact h dx hd1
/-- raise x(e) -/
def tRaise1 (C : Addr) (f : Str) (W : WX) (te : TE) : TS := fun _ σ H => te σ H fun v H1 => RaiseP C f (fun cls d H' => W cls d σ H') v H1
section
variable {X : Cx}
theorem ps_raise1 {x f : Str} {C fI : Addr} {e : Expr} {te : TE} {W : WX} {p pos pos2 : Pos} (hc : X.calm = true) (T : Err X.prog X.w X.K X.mg X.base x f C fI) (hr : Room 2 X.A) (tk : Takes X W) (hg : Gl X x) (he : PE X e te)
    (hdb : (x == ("__debug__" : Str)) = false := by decide) (hs : starEach [e] X.env = (false, eval e X.env) :: starEach [] X.env := by rfl) (hpl : (backTo pos (starEach [] X.env)).any (·.1) = false := by rfl) :
    PS X (.Raise (some (.Call (.Name x p) [e] [] pos)) none pos2) (tRaise1 C f W te) := by
  obtain ⟨fd, F, b⟩ := T.fn
  have base := ps_raise (pos := pos2) hc tk (pmk_oex (p := p) (pos := pos) T.c.oc T.c.iC T.c.tI F hr b .nil pass0 hg T.g (pa_cons he pa_nil hs) hdb hs hpl)
  exact ⟨fun pins s σ H D I h => base.run pins s σ H D I h⟩
end
end Exs
namespace Exs
open PySem PySem.Spec PyProof.Rows L2
/-! ### try with several clauses, each «except X as n» -/
abbrev Suite : Type := Addr → Value → Option Addr → TS
/-- behind a suite its name's slot i is empty -/
def EndsAs (i : Nat) (D : Ends) : Ends := { nx := fun σ H => D.nx (σ.set i none) H, rt := D.rt, bk := fun σ H => D.bk (σ.set i none) H, ct := fun σ H => D.ct (σ.set i none) H }
def wClauses (K : PySem.W.Frag) (nN : Nat) (Wout : WX) (D : Ends) : List (Value × Nat × Suite) → WX
  | [] => Wout
  | (c, i, ts) :: r => fun cls d σ H => ∃ b, PySem.W.exmOne K cls c = some b ∧ (b = true → ∀ a, H a = none → σ.length = nN → ts a cls d (EndsAs i D) (σ.set i (some (.ref a))) H) ∧ (b = false → wClauses K nN Wout D r cls d σ H)
inductive Clauses (X : Cx) : List ExceptHandler → List (Value × Nat × Suite) → Prop
  | nil : Clauses X [] []
  | cons {x n : Str} {c : Value} {i : Nat} {ts : Suite} {st : Stmt} {sts : List Stmt} {p1 p2 : Pos} {hs : List ExceptHandler} {l : List (Value × Nat × Suite)} (hc : Names X x c) (hi : X.N[i]? = some n) (hn : X.env.kindOf n = some .local)
      (go : ∀ (a : Addr) (oe : Obj) (cls : Value) (d : Option Addr) (pn : List (Addr × Obj)), Zc cls d oe → (∃ vs, oe.data = .fields vs) → PSs (X.suite a ((a, oe) :: pn)) (st :: sts) (ts a cls d)) (r : Clauses X hs l) :
      Clauses X (.ExceptHandler (some (.Name x p1)) (some n) (st :: sts) p2 :: hs) ((c, i, ts) :: l)
section
variable {X : Cx} {body : List Stmt} {h0 : ExceptHandler} {hs : List ExceptHandler} {l : List (Value × Nat × Suite)} {pos : Pos} {tb : WX → TS} {Wout : WX}
theorem ps_try_clauses (es : X.stack = X.env :: X.outer) (ef : X.env.frame = some X.env.locals) (hN : X.N.Nodup) (tk : Takes X Wout)
    (hb : ∀ (W : WX) (pn : List (Addr × Obj)) (xe : Value → Shared → Prop), Takes (X.tr pn xe) W → PassesOwn (model X.prog X.w) X.A X.env xe → PSs (X.tr pn xe) body (tb W))
    (cl : Clauses X (h0 :: hs) l) : PS X (.Try body (h0 :: hs) [] [] pos) (fun D σ H => tb (wClauses X.K X.N.length Wout D l) D σ H) := by
  refine ⟨fun pins s σ H D I h => ?_⟩
  have ok := I.ok
  have frs0 : X.A.frames = some (X.env :: X.outer) := by rw [ok.frames, es]
  refine wpAny_Try_except ?_
  refine wpAny_mono ((hb (wClauses X.K X.N.length Wout D l) (X.pn ++ pins) (fun e s1 => wpAny (model X.prog X.w) X.A (noteFrame e X.env) (fun _ s2 => wpAny (model X.prog X.w) X.A (setFlight e none) (fun _ s3 =>
    wpAny (model X.prog X.w) X.A (handleBy e X.env (h0 :: hs)) (SP X pins D) X.xe s3) X.xe s2) X.xe s1) (fun u s' xx => ?_) PassesOwn.looking).run [] s σ H D (I.toTry _) h) (fun f s1 q => ?_) (fun e s1 q => q)
  · obtain ⟨a, B, sI, pins1, σ1, H1, cls, d, rfl, J0, nb, up, sky, na, os, ag, wish⟩ := xx
    have J : Inv X pins σ1 H1 sI := J0.ofTry ok
    rw [es] at sky
    refine (show wpAny (model X.prog X.w) X.A (noteFrame (.ref a) X.env) _ _ _ from Sky.land Zc.steady frs0 ef sky fun h3 fl3 up3 => ?_)
    have J3 : Inv X pins σ1 H1 { s' with heap := h3 } := J.landed nb fl3.1 (up.trans up3) os ag
    obtain ⟨oe3, vs3, he3, hz3, hd3⟩ := fl3.there
    have apart : a ∉ frs (X.env :: X.outer) := fun hm => by
      obtain ⟨_, o2, e2, no⟩ := fl3.2.2.1.mem hm
      rw [he3] at e2
      cases e2
      exact no _ hd3
    have aL : a ≠ X.env.locals := fun z => apart (List.mem_filterMap.mpr ⟨X.env, List.mem_cons_self, by rw [ef, z]⟩)
    have aF : a ∉ X.fs := fun hm => by
      obtain ⟨e, he, q⟩ := List.mem_filterMap.mp hm
      exact apart (List.mem_filterMap.mpr ⟨e, List.mem_cons_of_mem _ he, q⟩)
    have S3 := J3.suite he3 hd3 na aL aF
    have steps : ∀ {hs2 : List ExceptHandler} {l2 : List (Value × Nat × Suite)}, Clauses X hs2 l2 → wClauses X.K X.N.length Wout D l2 cls d σ1 H1 →
        wpAny (model X.prog X.w) X.A (handleBy (.ref a) X.env hs2) (SP X pins D) X.xe { s' with heap := h3 } := by
      intro hs2 l2 hk
      induction hk with
      | nil =>
        intro wish2
        refine wpAny_handleBy_nil ?_
        obtain ⟨k1, k2, k3, oe, vs, T, oT, ts2, he, hz, hd, f1, hr⟩ := id fl3
        unfold PySem.passOn
        refine wpAny_bind (wpAny_field he hd f1 ?_)
        have isT : ¬ ((Value.ref T == Value.none) = true) := by simp
        rw [if_neg isT]
        have out : wpAny (model X.prog X.w) X.A (setFlight (.ref a) X.env.frame) (fun _ s4 => wpAny (model X.prog X.w) X.A (throw (.ref a) : Sem Flow) (SP X pins D) X.xe s4) X.xe { s' with heap := h3 } := by
          rw [ef]
          refine HandSPX.setFlight_upZ fl3 fun h4 held up4 => wpAny_throw (tk _ _ ⟨a, B, sI, pins, σ1, H1, cls, d, rfl, J, nb, (up.trans up3).trans up4, ?_, na, os, ag, wish2⟩)
          rw [es]
          exact .inr (.inr held)
        first | exact wpAny_bind (wpAny_pure (wpAny_bind out)) | exact wpAny_bind out
      | @cons x n c i ts st sts p1 p2 hs3 l3 hc hi hn go r ih =>
        intro wish2
        obtain ⟨b, hb1, yes, no⟩ := wish2
        have hloc : Loc X.env.scope n := .inl hn
        refine wpAny_handleBy_cons (codeAny_handlers_test ?_) (by intro q; cases q)
        have ofCls : PySem.W.Looks (model X.prog X.w) h3 (typeOf (.ref a)) cls := fun A Q E s k q => wpAny_typeOf_ref (k _ _ he3) (by rw [hz3.1]; exact q)
        have meets := PySem.W.exm_one (M := model X.prog X.w) J3.kIn ofCls hb1
        have asks : ∀ {Q : Value → Shared → Prop} {E : Value → Shared → Prop}, Q c { s' with heap := h3 } → wpAny (model X.prog X.w) (X.A.mark (some (.ref a))) (eval (.Name x p1) X.env) Q E { s' with heap := h3 } := fun {Q E} q => by
          obtain ⟨g1, g2, g3 | ⟨g3, g4, g5⟩⟩ := hc
          · exact ld_glob (X := X.suite a ((a, oe3) :: (X.pn ++ pins))) S3 g1 g3 q g2
          · exact ld_blt (X := X.suite a ((a, oe3) :: (X.pn ++ pins))) S3 g1 g3 g4 q g5 g2
        refine asks (meets.here ?_)
        cases b with
        | true =>
          refine codeAny_handlers_suite_as (HandSPX.lands_againZ fl3 fun h4 fl4 up4 => ?_)
          have J4 : Inv X pins σ1 H1 { s' with heap := h4 } := J.landed nb fl4.1 ((up.trans up3).trans up4) os ag
          obtain ⟨oe4, vs4, he4, hz4, hd4⟩ := fl4.there
          refine store_ok (X := X.suite a ((a, oe4) :: (X.pn ++ pins))) (v := .ref a) (J4.suite he4 hd4 na aL aF) hN hi hloc rfl (fun s5 S5 => ?_) (.inr hn)
          refine wpAny_mono ((go a oe4 cls d (X.pn ++ pins) hz4 ⟨_, hd4⟩).run [] s5 _ H1 _ S5 (yes rfl a na J.len)) (fun f s6 q6 => ?_) (fun _ _ z => False.elim z)
          have away : ∀ {σ6 : L2.St} {H6 : Hp} {Q : Shared → Prop}, Inv (X.suite a ((a, oe4) :: (X.pn ++ pins))) [] σ6 H6 s6 → (∀ s7, Inv X pins (σ6.set i none) H6 s7 → Q s7) →
              wpAny (model X.prog X.w) X.A (do bindName X.env n .none; unbindBehindTheSuite X.env n p2) (fun _ s7 => Q s7) X.xe s6 := fun S6 q => gone_ok (S6.unsuite ok) hN hi hn q
          cases f with
          | next =>
            obtain ⟨σ6, H6, S6, q7⟩ := q6
            exact away S6 fun s7 J7 => ⟨_, _, J7, q7⟩
          | brk =>
            obtain ⟨σ6, H6, S6, q7⟩ := q6
            exact away S6 fun s7 J7 => ⟨_, _, J7, q7⟩
          | cont =>
            obtain ⟨σ6, H6, S6, q7⟩ := q6
            exact away S6 fun s7 J7 => ⟨_, _, J7, q7⟩
          | ret u =>
            obtain ⟨v6, σ6, H6, S6, r6, q7⟩ := q6
            exact away S6 fun s7 J7 => ⟨_, _, _, J7, r6, q7⟩
        | false => exact (show wpAny _ X.A (handleBy (.ref a) X.env hs3) _ _ _ from ih (no rfl))
    exact steps cl wish
  · cases f with
    | next =>
      obtain ⟨σ2, H2, J2, q2⟩ := q
      exact wpAny_execs_nil ⟨σ2, H2, J2.ofTry ok, q2⟩
    | brk =>
      obtain ⟨σ2, H2, J2, q2⟩ := q
      exact ⟨σ2, H2, J2.ofTry ok, q2⟩
    | cont =>
      obtain ⟨σ2, H2, J2, q2⟩ := q
      exact ⟨σ2, H2, J2.ofTry ok, q2⟩
    | ret u =>
      obtain ⟨v, σ2, H2, J2, r2, q2⟩ := q
      exact ⟨v, σ2, H2, J2.ofTry ok, r2, q2⟩
end
end Exs
namespace Sq
open PySem PySem.Spec PyProof.Rows L2
section
variable {X : Cx}
/-! ### sum of a list or a tuple; comb; xs[i] op= -/
def rSumK (K : PySem.W.Frag) : List V → Hp → VK → Prop := fun vs H Q => ∃ (t : Bool) (a : Addr) (ns : List Int), vs = [V.ref a] ∧ SqK K H t a (ns.map V.int) ∧ Q (.int ns.sum) H
theorem cr_sumK (hc : X.calm = true) : CallR X (.builtin "sum") (rSumK X.K) := by
  intro pins s σ H vs us Q I r h
  obtain ⟨t, a, ns, rfl, hs, q⟩ := h
  rw [Vals.ref1 r]
  cases t with
  | false =>
    obtain ⟨its, rv, hl, _⟩ := I.list hs
    exact sum_raw (I.ok.hd hc) hl.isList rv.ints fun h' tk t' hk => ⟨.int _, H, I.kept hk, ⟨_, rfl⟩, q⟩
  | true =>
    obtain ⟨its, rv, hl, _⟩ := I.tuple hs
    have hi := rv.ints
    obtain ⟨xs, e⟩ := hi.allInts.items
    have hn : numsOf (intItems xs).toList = ns := by rw [← e]; exact hi.numsOf
    rw [nums_intItems] at hn
    rw [e] at hl
    refine PySem.W.ktm_sumG (I.ok.hd hc) hl fun h' tk t' hk => ?_
    refine ⟨.int _, H, I.kept hk, ⟨_, rfl⟩, ?_⟩
    rw [preSum_eq, List.take_of_length_le (by simp), hn]
    exact q
def rComb : List V → Hp → VK → Prop := fun vs H Q => ∃ a b : Int, vs = [.int a, .int b] ∧ 0 ≤ a ∧ a ≤ 18000 ∧ 0 ≤ b ∧ Q (.int (PySem.W.mcComb a b)) H
theorem cr_comb : CallR X (.builtin "math.comb") rComb := by
  intro pins s σ H vs us Q I r h
  obtain ⟨a, b, rfl, h0, h1, h2, q⟩ := h
  obtain ⟨t, u, rfl⟩ := Vals.int2 r
  have g := PySem.W.mc_gives_comb (a := a) (b := b) t u h0 h2 (by omega) (.inr h1)
  exact call_function_meets PySem.W.MGF.kind_comb PySem.W.MGF.plain_comb PySem.W.MGF.entry_comb (PySem.W.MGF.args_comb _ _) g.meets ⟨.int _, H, I.tok _, ⟨_, rfl⟩, q⟩
def rGetL (K : PySem.W.Frag) : V → V → Hp → VK → Prop := fun o i H Q => ∃ (p : Addr) (xs : List V) (j : Nat) (v : V), o = .ref p ∧ i = .int (j : Nat) ∧ SqL K H p xs ∧ xs[j]? = some v ∧ Q v H
theorem get_list : PGet X (rGetL X.K) := by
  intro pins s σ H o i ov iv Q I ro ri h
  obtain ⟨p, xs, j, v, rfl, rfl, hq, hv, q⟩ := h
  cases ro
  obtain ⟨t, rfl⟩ := ri
  obtain ⟨its, r, pl, hz⟩ := I.list hq
  obtain ⟨w, ew, rw'⟩ := r.get hv
  have hj : j < its.length := (List.getElem?_eq_some_iff.mp ew).1
  have hn := line63
  have hl := r.length
  refine wpAny_getItem_list pl.isList (by omega) ?_ (by simpa using ew) ⟨v, H, I, rw', q⟩
  omega
end
end Sq
namespace Nk
open PySem PySem.Spec PyProof.Rows L2
/-! ### dicts whose keys are tuples of ints, None, and such tuples -/
mutual
inductive KAt (H : Hp) : NestedKey → V → Prop
  | non : KAt H .none .non
  | int (i : Int) : KAt H (.num i) (.int i)
  | tup {a : Addr} {vs : List V} {ks : List NestedKey} (h : H a = some (.tup vs)) (r : KAll H ks vs) : KAt H (.tup ks) (.ref a)
inductive KAll (H : Hp) : List NestedKey → List V → Prop
  | nil : KAll H [] []
  | cons {k : NestedKey} {v : V} {ks : List NestedKey} {vs : List V} (h : KAt H k v) (r : KAll H ks vs) : KAll H (k :: ks) (v :: vs)
end
def TupStay (H H' : Hp) : Prop := ∀ b xs, H b = some (.tup xs) → H' b = some (.tup xs)
mutual
theorem KAt.stay {H H' : Hp} (e : TupStay H H') : ∀ (k : NestedKey) (v : V), KAt H k v → KAt H' k v
  | _, _, .non => .non
  | _, _, .int i => .int i
  | _, _, .tup h r => .tup (e _ _ h) (KAll.stay e _ _ r)
theorem KAll.stay {H H' : Hp} (e : TupStay H H') : ∀ (ks : List NestedKey) (vs : List V), KAll H ks vs → KAll H' ks vs
  | _, _, .nil => .nil
  | _, _, .cons h r => .cons (KAt.stay e _ _ h) (KAll.stay e _ _ r)
end
section
variable {P : Program} {w : World} {H : Hp} {h : Heap}
mutual
theorem KAt.is (ok : HOk P w H h) : ∀ (k : NestedKey) (v : V) (u : Value), KAt H k v → RelV v u → NestedIs h k u
  | _, _, u, .non, r => by
    cases r
    exact .none
  | _, _, u, .int i, r => by
    obtain ⟨t, rfl⟩ := r
    exact .int i t
  | _, _, u, @KAt.tup _ a vs ks e rs, r => by
    cases r
    obtain ⟨_, its, rv, o, h1, h2, n, h3⟩ := (show ObjOk P w H h a (.tup vs) from ok a _ e)
    exact .tup h1 h2 h3 (by simpa using KAll.is ok ks vs its rs rv)
theorem KAll.is (ok : HOk P w H h) : ∀ (ks : List NestedKey) (vs : List V) (us : List Value), KAll H ks vs → Vals vs us → NestedAll h ks us
  | _, _, us, .nil, r => by
    cases r
    exact .nil
  | _, _, us, .cons e rs, r => by
    cases r with
    | cons r1 r2 => exact .cons (KAt.is ok _ _ _ e r1) (KAll.is ok _ _ _ rs r2)
end
end
abbrev KD (P : Program) (w : World) := nestedKind P w
/-- the dict's object at d -/
def DObj (P : Program) (w : World) (d : Addr) (xs : List (NestedKey × Addr × Value)) : HO := .ext fun h => ∃ (o : Obj) (es : Array DictEntry) (ep : Nat), h.get? d = some o ∧ o.ExactDict ∧ o.data = .dict es ep ∧ es.toList = xs.map (entryOfKey (nestedKind P w)) ∧ (xs.map (·.1)).Nodup
abbrev NK (H : Hp) : List (NestedKey × V) → List (NestedKey × Addr × Value) → Prop := Paired fun p q => p.1 = q.1 ∧ (KAt H p.1 (.ref q.2.1) ∧ p.1.depth ≤ 8) ∧ RelV p.2 q.2.2
def DN (P : Program) (w : World) (H : Hp) (d : Addr) (kvs : List (NestedKey × V)) : Prop := (d == sysModules) = false ∧ ∃ xs, NK H kvs xs ∧ H d = some (DObj P w d xs)
abbrev nkVal (kvs : List (NestedKey × V)) (k : NestedKey) : Option V := valV kvs k
theorem NK.stay {H H' : Hp} (e : TupStay H H') {kvs : List (NestedKey × V)} {xs : List (NestedKey × Addr × Value)} (r : NK H kvs xs) : NK H' kvs xs :=
  Paired.mapP r fun _ _ z => ⟨z.1, ⟨KAt.stay e _ _ z.2.1.1, z.2.1.2⟩, z.2.2⟩
theorem DN.stay {P : Program} {w : World} {H H' : Hp} {d : Addr} {kvs : List (NestedKey × V)} (x : DN P w H d kvs) (e : TupStay H H') (hd : H' d = H d) : DN P w H' d kvs := by
  obtain ⟨h1, xs, h2, h3⟩ := x
  exact ⟨h1, xs, NK.stay e h2, by rw [hd]; exact h3⟩
theorem tup_ex {H H' : Hp} (e : Evl.Ex H H') : TupStay H H' := fun _ _ h => e _ _ h
theorem DN.ex {P : Program} {w : World} {H H' : Hp} {d : Addr} {kvs : List (NestedKey × V)} (x : DN P w H d kvs) (e : Evl.Ex H H') : DN P w H' d kvs := by
  obtain ⟨h1, xs, h2, h3⟩ := x
  exact ⟨h1, xs, NK.stay (tup_ex e) h2, e _ _ h3⟩
theorem NK.val {H : Hp} {kvs : List (NestedKey × V)} {xs : List (NestedKey × Addr × Value)} (r : NK H kvs xs) (k : NestedKey) : RelO (nkVal kvs k) ((atKey xs k).map (·.2)) := by
  induction r with
  | nil => exact True.intro
  | @cons p q ps qs h t ih =>
    obtain ⟨h1, _, h2⟩ := h
    unfold nkVal valV atKey at ih ⊢
    by_cases e : p.1 = k
    · have e' : q.1 = k := h1.symm.trans e
      simp only [List.find?_cons, e, e', decide_true, Option.map_some]
      exact h2
    · have e' : ¬ q.1 = k := fun z => e (h1.trans z)
      simp only [List.find?_cons, e, e', decide_false]
      exact ih
section
variable {P : Program} {w : World} {H : Hp} {h : Heap} {d : Addr} {kvs : List (NestedKey × V)}
theorem DN.dict (ok : HOk P w H h) (x : DN P w H d kvs) : (d == sysModules) = false ∧ ∃ xs, NK H kvs xs ∧ h.DictOfH (nestedKind P w) d xs := by
  obtain ⟨h1, xs, h2, h3⟩ := x
  obtain ⟨⟨o, es, ep, e1, e2, e3, e4, e5⟩, _, _⟩ := (show ObjOk P w H h d (DObj P w d xs) from ok d _ h3)
  refine ⟨h1, xs, h2, o, es, ep, e1, e2, e3, e4, fun x hx => ?_, e5⟩
  have all : ∀ {l : List (NestedKey × V)} {m : List (NestedKey × Addr × Value)}, NK H l m → ∀ x ∈ m, (nestedKind P w).is h x.1 x.2.1 := by
    intro l m q
    induction q with
    | nil => intro x hx; exact nomatch hx
    | @cons p q ps qs hq t ih =>
      intro x hx
      rcases List.mem_cons.mp hx with e | hx
      · subst e
        exact ⟨KAt.is ok _ (.ref _) _ (by rw [← hq.1]; exact hq.2.1.1) rfl, by rw [← hq.1]; exact hq.2.1.2⟩
      · exact ih x hx
  exact all h2 x hx
end
def rNkNotIn (P : Program) (w : World) : R2 := fun x y H Q => ∃ (k : NestedKey) (b d : Addr) (kvs : List (NestedKey × V)), x = .ref b ∧ y = .ref d ∧ KAt H k (.ref b) ∧ k.depth ≤ 8 ∧ DN P w H d kvs ∧ Q (.bl (!(nkVal kvs k).isSome)) H
def rNkGet (P : Program) (w : World) : R2 := fun x y H Q => ∃ (k : NestedKey) (b d : Addr) (kvs : List (NestedKey × V)) (v : V), x = .ref d ∧ y = .ref b ∧ KAt H k (.ref b) ∧ k.depth ≤ 8 ∧ DN P w H d kvs ∧ nkVal kvs k = some v ∧ Q v H
def rNkSet (P : Program) (w : World) : V → V → V → Hp → (Hp → Prop) → Prop := fun o i v H Q => ∃ (k : NestedKey) (b d : Addr) (kvs : List (NestedKey × V)), o = .ref d ∧ i = .ref b ∧ KAt H k (.ref b) ∧ k.depth ≤ 8 ∧ DN P w H d kvs ∧ kvs.length ≤ sizeLine ∧
  ∀ H', (∀ c, c ≠ d → H' c = H c) → DN P w H' d (putK kvs k v) → Q H'
section
variable {X : Cx}
theorem op_nkNotIn (hu : X.A.units + 9 < cLine) : OpR X (compareOp .NotIn) (rNkNotIn X.prog X.w) := by
  intro pins s σ H x y v u Q I rx ry h
  obtain ⟨k, b, d, kvs, rfl, rfl, hk, hdp, hd, q⟩ := h
  cases rx
  cases ry
  obtain ⟨z, xs, rel, dd⟩ := DN.dict I.hok hd
  refine wpAny_notIn_heap (knd := nestedKind X.prog X.w) (show X.A.units + 1 + 8 < cLine by omega) ⟨KAt.is I.hok _ _ _ hk rfl, hdp⟩ z dd ?_
  have e := RelO.isSome_eq (NK.val rel k)
  rw [Option.isSome_map] at e
  rw [← e]
  exact ⟨.bl (!(nkVal kvs k).isSome), H, I.tok _, rfl, q⟩
theorem ix_nk (hu : X.A.units + 9 < cLine) : IxR X (rNkGet X.prog X.w) := by
  intro value slice pins s σ H x y v u Q I rx ry h hs
  obtain ⟨k, b, d, kvs, v0, rfl, rfl, hk, hdp, hd, hv, q⟩ := h
  cases rx
  cases ry
  obtain ⟨z, xs, rel, dd⟩ := DN.dict I.hok hd
  obtain ⟨w', hw, rw'⟩ := RelO.some_of (v := v0) (o := (atKey xs k).map (·.2)) (by rw [← hv]; exact NK.val rel k)
  obtain ⟨p, hp, hp2⟩ := Option.map_eq_some_iff.mp hw
  refine subscriptTail_builtinR (x := w') dd.typeIs PySem.F.slot_dict_getitem.lookup ?_ hs
  refine wpAny_getItem_heap (knd := nestedKind X.prog X.w) (show X.A.units + 1 + 8 < cLine by omega) ⟨KAt.is I.hok _ _ _ hk rfl, hdp⟩ dd hp ?_
  rw [hp2]
  exact ⟨rfl, v0, H, I.tok _, rw', q⟩
theorem NK.over {H : Hp} {k : NestedKey} {v : V} {u : Value} (rv : RelV v u) : ∀ {kvs : List (NestedKey × V)} {xs : List (NestedKey × Addr × Value)}, NK H kvs xs → NK H (kvs.map fun e => if e.1 = k then (e.1, v) else e) (xs.map (putAt k u))
  | _, _, .nil => .nil
  | _, _, .cons (a := p) (b := q) r t => by
    refine Paired.cons ?_ (NK.over rv t)
    obtain ⟨a1, a2, a3⟩ := r
    show (if p.1 = k then (p.1, v) else p).1 = (putAt k u q).1 ∧ (KAt H (if p.1 = k then (p.1, v) else p).1 (.ref (putAt k u q).2.1) ∧ (if p.1 = k then (p.1, v) else p).1.depth ≤ 8) ∧ RelV (if p.1 = k then (p.1, v) else p).2 (putAt k u q).2.2
    unfold putAt
    by_cases hk : p.1 = k
    · have hk2 : q.1 = k := a1.symm.trans hk
      simp only [hk, hk2, if_true]
      exact ⟨trivial, hk ▸ a2, rv⟩
    · have hk2 : ¬ q.1 = k := fun z => hk (a1.trans z)
      simp only [hk, hk2, if_false]
      exact ⟨a1, a2, a3⟩
theorem set_nk (hu : X.A.units + 9 < cLine) : PSet X (rNkSet X.prog X.w) := by
  intro pins s σ H o i v ov iv u Q I ro ri rv h
  obtain ⟨k, b, d, kvs, rfl, rfl, hk, hdp, hd, hl, q⟩ := h
  cases ro
  cases ri
  obtain ⟨z, xs, rel, dd⟩ := DN.dict I.hok hd
  obtain ⟨_, xs2, rel2, hH⟩ := id hd
  refine wpAny_setItem_heap (knd := nestedKind X.prog X.w) (hsz := by rw [← Paired.length rel]; exact hl) (show X.A.units + 1 + 8 < cLine by omega) ⟨KAt.is I.hok _ _ _ hk rfl, hdp⟩ dd fun h' dd' hs => ?_
  obtain ⟨o', es, ep, f1, f2, f3, f4, f5, f6⟩ := dd'
  have I' : Inv X pins σ (upd H d (DObj X.prog X.w d (storedH xs k b u))) { s with heap := h', toks := s.toks + (nestedKind X.prog X.w).draws k } :=
    d_write I (by rw [hH]; exact True.intro) hs ⟨o', f1⟩ ⟨⟨o', es, ep, f1, f2, f3, f4, f6⟩, ⟨o', f1⟩, fun h1 h2 ⟨o, es, ep, a1, a2⟩ st => ⟨o, es, ep, st _ a1, a2⟩⟩
  refine ⟨_, I', q _ (fun c hc => upd_ne hc) ⟨z, _, ?_, upd_same⟩⟩
  have ts : TupStay H (upd H d (DObj X.prog X.w d (storedH xs k b u))) := fun c ys e => by
    have : c ≠ d := fun zz => by
      rw [zz, hH] at e
      cases e
    rw [upd_ne this]
    exact e
  have rel3 := NK.stay ts rel
  cases hv : valV kvs k with
  | none =>
    have hat : atKey xs k = none := by
      have e := RelO.none_of (o := (atKey xs k).map (·.2)) (by rw [← hv]; exact NK.val rel k)
      exact Option.map_eq_none_iff.mp e
    rw [putK_new v hv, storedH_new hat]
    rw [storedH_new hat] at rel3 ts
    exact Paired.snoc rel3 ⟨rfl, ⟨KAt.stay ts _ _ hk, hdp⟩, rv⟩
  | some v0 =>
    obtain ⟨w', hw, _⟩ := RelO.some_of (v := v0) (o := (atKey xs k).map (·.2)) (by rw [← hv]; exact NK.val rel k)
    obtain ⟨p, hp, _⟩ := Option.map_eq_some_iff.mp hw
    unfold putK
    rw [valV_any, hv, if_pos (show (some v0).isSome = true from rfl)]
    rw [storedH_old hp] at rel3 ⊢
    exact NK.over rv rel3
def tDNewN (P : Program) (w : World) : TE := fun _ H Q => ∀ p H', H p = none → Evl.Ex H H' → (∀ c, c ≠ p → H' c = H c) → DN P w H' p [] → Q (.ref p) H'
theorem pe_dnewN {pos : Pos} : PE X (.Dict [] [] pos) (tDNewN X.prog X.w) := ⟨fun pins s σ H Q I h => by
  have hf := I.hok.fresh (Nat.le_refl s.heap.objs.size)
  have hg : (s.heap.push { cls := .type "dict", data := .dict #[] }).get? s.heap.objs.size = some { cls := .type "dict", data := .dict #[] } := Heap.get?_push_size _ rfl
  refine wpAny_Dict_empty ⟨.ref s.heap.objs.size, _, I.laid (a := s.heap.objs.size) (o := DObj X.prog X.w s.heap.objs.size []) (t' := s.toks) (fun _ _ q => Heap.get?_push_of_some _ q) (Nat.le_refl _) ?_, rfl, h _ _ hf (Evl.Ex.new hf) (fun c hc => upd_ne hc) ⟨beq_eq_false_iff_ne.mpr (Ne.symm (Nat.ne_of_lt I.big)), [], .nil, upd_same⟩⟩
  exact ⟨⟨_, #[], 0, hg, ⟨rfl, rfl, rfl⟩, rfl, rfl, List.nodup_nil⟩, ⟨_, hg⟩, fun h1 h2 ⟨o, es, ep, a1, a2⟩ st => ⟨o, es, ep, st _ a1, a2⟩⟩⟩
end
end Nk
namespace Lm
open PySem PySem.W PySem.Spec PySem.Calls PyProof.Rows L2
/-! ### a lambda is made, and its own code object's table is known, too -/
section
variable {M : Model} {A : Around} {E : Value → Shared → Prop} {s : Shared} {name qual : Str} {params : Arguments} {body : Expr} {scope : Scope} {env : Env} {c P : Addr} {ps : Array Value} {pos : Pos} {line : Nat} {mg : Str → Option Value} {clos : List (Str × Addr)} {Q : Value → Shared → Prop}
/-- what stands behind the making: the code object c2 with its table P2, still empty -/
structure Made (P : Addr) (ps : Array Value) (pos : Pos) (qual : Str) (h h' : Heap) (c2 P2 : Addr) : Prop where
  keep : Heap.ExtBut P h h'
  big : h.objs.size ≤ c2
  lt : c2 < h'.objs.size
  rec_ : h'.CodeRec (.ref c2) qual
  tab : h'.get? P = some (tabObj (ps ++ #[rawInt pos.line, rawInt pos.col, .ref c2]))
  big2 : h.objs.size ≤ P2
  head : CodeHd h' c2 P2
  tab2 : h'.get? P2 = some (tabObj #[])
theorem make_new (hcl : closureFor scope env = pure clos) (hgl : env.globals = mainGlobals) (hg : s.heap.Ns mainGlobals mg) (hcode : env.code = .ref c) (C : CodeHd s.heap c P) (hP : s.heap.get? P = some (tabObj ps)) (ht : TriplesOk ps.toList)
    (hnf : codeAmong pos ps.toList = none) (hgP : mainGlobals ≠ P) (hb : s.heap.BuiltinsAt mg P)
    (k : ∀ c2 P2 ctv h' tk, Made P ps pos qual s.heap h' c2 P2 → Q (.ref h'.objs.size) { s with heap := h'.push (kla_obj name qual params body scope clos ((mg "__name__").getD .none) c2 ctv), toks := tk }) :
    wpAny M A (makeFunction name qual params (.expr body) scope env [] [] [] pos line) Q E s := by
  rw [makeFunction_eq]
  simp only [List.zip_nil_right, List.filterMap_nil, List.isEmpty_nil, if_true, pure_bind]
  obtain ⟨bm, ob, b1, b2, _, b4, b5, b6, b7, b8⟩ := hb
  have code : ∀ (h0 : Heap) (R : Value → Shared → Prop), (∀ b o, s.heap.get? b = some o → h0.get? b = some o) → s.heap.objs.size ≤ h0.objs.size → h0.Ns mainGlobals mg →
      (∀ c2 P2 h' tk, Made P ps pos qual s.heap h' c2 P2 → h'.Ns mainGlobals mg → h'.get? bm = some ob → R (.ref c2) { s with heap := h', toks := tk }) → wpAny M A (functionCode env pos line name qual params scope (.expr body)) R E { s with heap := h0 } := by
    intro h0 R kp sz hg0 kR
    refine wpAny_functionCodeX hcode ((C.keeps kp).code (kp _ _ hP) ht) ((C.keeps kp).tab (kp _ _ hP)) hnf fun c2 h' tk hx hge hlt _ hrec htb ⟨P2, hP2, hic, hta⟩ => ?_
    have hx' : Heap.ExtBut P s.heap h' := fun b o hb' e => hx b o hb' (kp b o e)
    exact kR c2 P2 h' tk ⟨hx', Nat.le_trans sz hge, hlt, hrec, htb.2, Nat.le_trans sz hP2, CodeHd.of hic hta, hta.2⟩ (hg0.extBut hx hgP) (hx' _ _ b4 b5)
  unfold makeTail
  rw [hcl, hgl]
  refine wpAny_bind (wpAny_pure ?_)
  cases clos with
  | nil =>
    simp only [List.isEmpty_nil, if_true]
    refine wpAny_bind (wpAny_pure (wpAny_bind (code s.heap _ (fun _ _ e => e) (Nat.le_refl _) hg fun c2 P2 h' tk m hn hm => ?_)))
    refine wpAny_bind (wpAny_builtinsFor hn b1 b2 hm b6 b7 b8 (wpAny_bind (wpAny_nsGet hn ?_)))
    exact wpAny_bind (wpAny_pure (wpAny_newObj_type (k c2 P2 .none h' tk m) (by size_fits)))
  | cons q r =>
    simp only [List.isEmpty_cons, Bool.false_eq_true, if_false]
    refine wpAny_bind (wpAny_newTextTuple (wpAny_bind (code (s.heap.push _) _ (fun _ _ e => Heap.get?_push_of_some _ e) (by rw [Heap.size_push]; omega) (hg.push _) fun c2 P2 h' tk m hn hm => ?_)))
    refine wpAny_bind (wpAny_builtinsFor hn b1 b2 hm b6 b7 b8 (wpAny_bind (wpAny_nsGet hn ?_)))
    exact wpAny_bind (wpAny_pure (wpAny_newObj_type (k c2 P2 _ h' tk m) (by size_fits)))
end
/-- a code object of the name q, its table at P2 -/
def CodeT (c : Addr) (q : Str) (P2 : Addr) : HO := .ext fun h => h.CodeRec (.ref c) q ∧ CodeHd h c P2
theorem codeHd_at {h h' : Heap} {c P2 : Addr} (x : CodeHd h c P2) (e : ∀ o, h.get? c = some o → h'.get? c = some o) : CodeHd h' c P2 := by
  obtain ⟨o, r1, r2, r3, r4, r5, r6, r7, r8, g, r⟩ := x
  exact ⟨o, r1, r2, r3, r4, r5, r6, r7, r8, e _ g, r⟩
theorem codeT_ok {P : Program} {w : World} {H : Hp} {h : Heap} {c P2 : Addr} {q : Str} (r : h.CodeRec (.ref c) q) (hd : CodeHd h c P2) : ObjOk P w H h c (CodeT c q P2) := by
  refine ⟨⟨r, hd⟩, ?_, fun h1 h2 ⟨a, b⟩ st => ⟨a.at st, codeHd_at b st⟩⟩
  obtain ⟨_, o, _, _, e, g, _⟩ := r
  cases e
  exact ⟨o, g⟩
theorem codeT_ne {c P2 : Addr} {q : Str} (ps : Array Value) : CodeT c q P2 ≠ .tbl ps := fun z => by
  unfold CodeT at z
  cases z
section
variable {X : Cx} {pins : List (Addr × Obj)} {σ : L2.St} {H : Hp} {s : Shared}
theorem inv_made {P c2 P2 : Addr} {q : Str} {ps : Array Value} {pos : Pos} {h0 h' : Heap} {t' : Nat} (I : Inv X pins σ H s) (hP : H P = some (.tbl ps)) (m : Made P ps pos q s.heap h0 c2 P2) (kh : ∀ b o, h0.get? b = some o → h'.get? b = some o) :
    Inv X pins σ (upd (upd (upd H P (.tbl (ps ++ #[rawInt pos.line, rawInt pos.col, .ref c2]))) c2 (CodeT c2 q P2)) P2 (.tbl #[])) { s with heap := h', toks := t' } := by
  have nC : H c2 = none := I.hok.fresh m.big
  have n2 : H P2 = none := I.hok.fresh m.big2
  have c2P : c2 ≠ P2 := by
    obtain ⟨_, _, _, _, _, _, _, _, _, _, _, _, _, _, _, _, _, _, ne⟩ := m.head
    exact ne
  have nPc : P ≠ c2 := ne_of_none hP nC
  have nP2 : P ≠ P2 := ne_of_none hP n2
  have off : ∀ b, b ≠ P → b ≠ c2 → b ≠ P2 → upd (upd (upd H P (.tbl (ps ++ #[rawInt pos.line, rawInt pos.col, .ref c2]))) c2 (CodeT c2 q P2)) P2 (.tbl #[]) b = H b := fun b h1 h2 h3 => by rw [upd_ne h3, upd_ne h2, upd_ne h1]
  have atP : upd (upd (upd H P (.tbl (ps ++ #[rawInt pos.line, rawInt pos.col, .ref c2]))) c2 (CodeT c2 q P2)) P2 (.tbl #[]) P = some (.tbl (ps ++ #[rawInt pos.line, rawInt pos.col, .ref c2])) := by rw [upd_ne nP2, upd_ne nPc, upd_same]
  have notP : ∀ b u, H b = some u → (∀ z, u ≠ .tbl z) → b ≠ P := fun b u e z y => by
    rw [y, hP] at e
    exact z ps (Option.some.inj e).symm
  have freeP : ∀ b, H b = none → b ≠ P := fun b e z => by
    rw [z, hP] at e
    cases e
  have oldC : ∀ b o, s.heap.get? b = some o → b ≠ c2 := fun b o e z => Nat.lt_irrefl _ (Nat.lt_of_lt_of_le (Heap.lt_size e) (z ▸ m.big))
  have old2 : ∀ b o, s.heap.get? b = some o → b ≠ P2 := fun b o e z => Nat.lt_irrefl _ (Nat.lt_of_lt_of_le (Heap.lt_size e) (z ▸ m.big2))
  have kp : ∀ b o, b ≠ P → s.heap.get? b = some o → h'.get? b = some o := fun b o hb e => kh _ _ (m.keep b o hb e)
  refine I.step (g' := s.gens) (d' := s.drawn) (ch := []) (fun b hb => absurd hb (by simp)) (fun b o _ _ _ e n => kp b o (freeP b n) e) (fun b o _ _ _ e n => ⟨o.slots, kp b o (freeP b n) e⟩)
    (fun b o _ e n => by rw [off b (freeP b n) (oldC b o e) (old2 b o e)]; exact n) (fun b o _ e => ?_) (fun b xs e => ?_) (fun b o u e => ?_) (fun b qs e => ?_) (fun mm hn => ?_) (fun b u e => ?_) I.bare
  · by_cases hb : b = P
    · rw [hb]
      exact ⟨_, kh _ _ m.tab⟩
    · exact ⟨o, kp b o hb e⟩
  · rw [off b (notP b _ e (fun z y => by cases y)) (ne_of_none e nC) (ne_of_none e n2)]
    exact e
  · rw [off b (notP b _ e (fun z y => by cases y)) (ne_of_none e nC) (ne_of_none e n2)]
    exact e
  · by_cases hb : b = P
    · rw [hb, hP] at e
      cases e
      rw [hb, atP]
      exact ⟨_, rfl⟩
    · rw [off b hb (ne_of_none e nC) (ne_of_none e n2), e]
      exact ⟨#[], by simp⟩
  · obtain ⟨ob, es, ep, ho, r⟩ := hn
    exact ⟨ob, es, ep, kp _ ob (freeP _ I.free) ho, r⟩
  · by_cases h2 : b = P2
    · subst h2
      rw [upd_same] at e
      cases e
      exact kh _ _ m.tab2
    · rw [upd_ne h2] at e
      by_cases hc : b = c2
      · subst hc
        rw [upd_same] at e
        cases e
        exact codeT_ok (m.rec_.keeps kh) (m.head.keeps kh)
      · rw [upd_ne hc] at e
        by_cases hb : b = P
        · subst hb
          rw [upd_same] at e
          cases e
          exact kh _ _ m.tab
        · rw [upd_ne hb] at e
          refine (I.hok b u e).stay (fun d v hd y => kp d v ?_ y) (fun d y => ?_) fun d xs y => ?_
          · rcases hd with z | z
            · rw [z]
              exact hb
            · exact notP d _ z (fun z y => by cases y)
          · rw [off d (notP d _ y (fun z y => by cases y)) (ne_of_none y nC) (ne_of_none y n2)]
            exact y
          · rw [off d (notP d _ y (fun z y => by cases y)) (ne_of_none y nC) (ne_of_none y n2)]
            exact y
end
/-- a table's address is none of those that the making of a lambda reads besides -/
def Good (mg : Str → Option Value) (P2 : Addr) : Prop := mainGlobals ≠ P2 ∧ ∀ bm, mg "__builtins__" = some (.ref bm) → bm ≠ P2
/-- the table at P: its code objects bear the first name, their own tables the next ones -/
def TabD (mg : Str → Option Value) : List Str → Hp → Addr → Prop
  | [], _, _ => True
  | q :: qs, H, P => ∃ ps : Array Value, H P = some (.tbl ps) ∧ TriplesOk ps.toList ∧ ∀ (pos : Pos) (cv : Value), codeAmong pos ps.toList = some cv → ∃ c P2, cv = .ref c ∧ H c = some (CodeT c q P2) ∧ P2 ≠ P ∧ TabD mg qs H P2 ∧ Good mg P2
/-- all stays but the table at P -/
def Grow (P : Addr) (H H1 : Hp) : Prop := ∀ b o, b ≠ P → H b = some o → H1 b = some o
theorem tabD_nil {mg : Str → Option Value} {qs : List Str} {H : Hp} {P2 : Addr} (h : H P2 = some (.tbl #[])) : TabD mg qs H P2 := by
  cases qs with
  | nil => exact True.intro
  | cons q r => exact ⟨#[], h, True.intro, fun pos cv hc => by simp [codeAmong] at hc⟩
theorem tabD_one {mg : Str → Option Value} {q : Str} {H H1 : Hp} {P Y : Addr} {ps0 : Array Value} (hP : H P = some (.tbl ps0)) (g : Grow P H H1) (hY : Y ≠ P) (t : TabD mg [q] H Y) : TabD mg [q] H1 Y := by
  obtain ⟨ps, h1, h2, h3⟩ := t
  refine ⟨ps, g _ _ hY h1, h2, fun pos cv hc => ?_⟩
  obtain ⟨c, P2, e1, e2, e3, e4, e5⟩ := h3 pos cv hc
  exact ⟨c, P2, e1, g _ _ (fun z => by rw [z, hP] at e2; exact codeT_ne ps0 (Option.some.inj e2).symm) e2, e3, e4, e5⟩
/-- an inner table has grown: the outer one tells as before -/
theorem tabD_two {mg : Str → Option Value} {q1 q2 : Str} {H H1 : Hp} {P Y : Addr} {ps0 : Array Value} (hP : H P = some (.tbl ps0)) (g : Grow P H H1) (hY : Y ≠ P) (new : TabD mg [q2] H1 P) (t : TabD mg [q1, q2] H Y) : TabD mg [q1, q2] H1 Y := by
  obtain ⟨ps, h1, h2, h3⟩ := t
  refine ⟨ps, g _ _ hY h1, h2, fun pos cv hc => ?_⟩
  obtain ⟨c, P2, e1, e2, e3, e4, e5⟩ := h3 pos cv hc
  refine ⟨c, P2, e1, g _ _ (fun z => by rw [z, hP] at e2; exact codeT_ne ps0 (Option.some.inj e2).symm) e2, e3, ?_, e5⟩
  by_cases hz : P2 = P
  · rw [hz]
    exact new
  · exact tabD_one hP g hz e4
section
variable {X : Cx} {pins : List (Addr × Obj)} {σ : L2.St} {H : Hp} {s : Shared}
/-- a lambda is made: new, or by the code object that stands in the table -/
theorem lam_makeT {qs : List Str} {c P : Addr} {params : Arguments} {body : Expr} {scope : Scope} {pos : Pos} {E : Value → Shared → Prop} {Q : Value → Shared → Prop} (I : Inv X pins σ H s) (C : CodeHd s.heap c P) (hgP : mainGlobals ≠ P) (bP : s.heap.BuiltinsAt X.mg P) (hcode : X.env.code = .ref c)
    (hT : TabD X.mg ((X.env.qual ++ "<lambda>") :: qs) H P) (stab : ∀ H1 Y, Grow P H H1 → Y ≠ P → TabD X.mg qs H Y → TabD X.mg qs H1 Y) (hdef : defaultsOf params X.env = ([], [])) (hfree : ∀ y ∈ scope.names, y.2 = .free → ∃ c, X.env.cells.lookup y.1 = some c)
    (k : ∀ (f c2 P2 : Addr) (pm ctv : Value) (H1 : Hp) (s' : Shared), Inv X pins σ H1 s' → Grow P H H1 → TabD X.mg ((X.env.qual ++ "<lambda>") :: qs) H1 P →
      s'.heap.get? f = some (kla_obj "<lambda>" (X.env.qual ++ "<lambda>") params body scope (cloFrom X.env.cells scope.names []) pm c2 ctv) → H1 f = none → f ∉ frs X.stack → H1 c2 = some (CodeT c2 (X.env.qual ++ "<lambda>") P2) → P2 ≠ P → TabD X.mg qs H1 P2 → Good X.mg P2 → Q (.ref f) s') :
    wpAny (model X.prog X.w) X.A (eval (.Lambda params body scope pos) X.env) Q E s := by
  obtain ⟨ps, hP, ht, ha⟩ := hT
  have hP' : s.heap.get? P = some (tabObj ps) := I.hok P _ hP
  have away : ∀ f, s.heap.objs.size ≤ f → f ∉ frs X.stack := fun f hf z => by
    rcases List.mem_cons.mp (I.stkSub _ z) with e | e
    · exact Nat.lt_irrefl _ (Nat.lt_of_lt_of_le (e ▸ I.lt) hf)
    · exact I.nofs hf e
  refine kla_eval hdef ?_
  cases hc : codeAmong pos ps.toList with
  | some cv =>
    obtain ⟨c2, P2, e, e2, e3, e4, e5⟩ := ha pos cv hc
    subst e
    refine kla_makeFunctionHit (mg := X.mg) (c := c) (P := P) (ps := ps) (closure_ok hfree) I.ok.glob (I.mod.glob.keeps I.bk) hcode C hP' ht hc bP fun ctv h' tk hx hsz => ?_
    exact k h'.objs.size c2 P2 _ ctv H _ (I.kept fun b o e => Heap.get?_push_of_some _ (hx b o e)) (fun _ _ _ e => e) ⟨ps, hP, ht, ha⟩ (Heap.get?_push_size _ rfl) (I.hok.fresh hsz) (away _ hsz) e2 e3 e4 e5
  | none =>
    have bP0 := bP
    obtain ⟨bm, ob, b1, _, _, _, b5, _⟩ := bP0
    refine make_new (mg := X.mg) (c := c) (P := P) (ps := ps) (closure_ok hfree) I.ok.glob (I.mod.glob.keeps I.bk) hcode C hP' ht hc hgP bP fun c2 P2 ctv h' tk m => ?_
    have nC : H c2 = none := I.hok.fresh m.big
    have n2 : H P2 = none := I.hok.fresh m.big2
    have nPc : P ≠ c2 := ne_of_none hP nC
    have nP2 : P ≠ P2 := ne_of_none hP n2
    have c2P : c2 ≠ P2 := by
      obtain ⟨_, _, _, _, _, _, _, _, _, _, _, _, _, _, _, _, _, _, ne⟩ := m.head
      exact ne
    have hsz : s.heap.objs.size ≤ h'.objs.size := Nat.le_trans m.big (Nat.le_of_lt m.lt)
    have I1 := inv_made (t' := tk) (h' := h'.push (kla_obj "<lambda>" (X.env.qual ++ "<lambda>") params body scope (cloFrom X.env.cells scope.names []) ((X.mg "__name__").getD .none) c2 ctv)) I hP m (fun b o e => Heap.get?_push_of_some _ e)
    have gr : Grow P H (upd (upd (upd H P (.tbl (ps ++ #[rawInt pos.line, rawInt pos.col, .ref c2]))) c2 (CodeT c2 (X.env.qual ++ "<lambda>") P2)) P2 (.tbl #[])) := fun b o hb e => by
      rw [upd_ne (ne_of_none e n2), upd_ne (ne_of_none e nC), upd_ne hb]
      exact e
    have hcT : upd (upd (upd H P (.tbl (ps ++ #[rawInt pos.line, rawInt pos.col, .ref c2]))) c2 (CodeT c2 (X.env.qual ++ "<lambda>") P2)) P2 (.tbl #[]) c2 = some (CodeT c2 (X.env.qual ++ "<lambda>") P2) := by rw [upd_ne c2P, upd_same]
    have t2 : TabD X.mg qs (upd (upd (upd H P (.tbl (ps ++ #[rawInt pos.line, rawInt pos.col, .ref c2]))) c2 (CodeT c2 (X.env.qual ++ "<lambda>") P2)) P2 (.tbl #[])) P2 := tabD_nil upd_same
    have gd : Good X.mg P2 := by
      refine ⟨fun z => ?_, fun b hb z => ?_⟩
      · obtain ⟨og, _, _, eg, _⟩ := I.mod.glob.keeps I.bk
        exact Nat.lt_irrefl _ (Nat.lt_of_lt_of_le (Heap.lt_size eg) (z ▸ m.big2))
      · rw [b1] at hb
        cases hb
        exact Nat.lt_irrefl _ (Nat.lt_of_lt_of_le (Heap.lt_size b5) (z ▸ m.big2))
    refine k h'.objs.size c2 P2 _ ctv _ _ I1 gr ⟨_, by rw [upd_ne nP2, upd_ne nPc, upd_same], ?_, fun p' cv hcv => ?_⟩ (Heap.get?_push_size _ rfl) ?_ (away _ hsz) hcT nP2.symm t2 gd
    · rw [show (ps ++ #[rawInt pos.line, rawInt pos.col, .ref c2]).toList = ps.toList ++ [rawInt pos.line, rawInt pos.col, .ref c2] by simp]
      exact PySem.TriplesOk_snoc _ _ _ _ ht
    · rw [show (ps ++ #[rawInt pos.line, rawInt pos.col, .ref c2]).toList = ps.toList ++ [rawInt pos.line, rawInt pos.col, .ref c2] by simp] at hcv
      rcases LamX.among_app _ ht hcv with z | z
      · obtain ⟨c0, P0, e1, e2, e3, e4, e5⟩ := ha p' cv z
        exact ⟨c0, P0, e1, gr _ _ (fun y => by rw [y, hP] at e2; exact codeT_ne ps (Option.some.inj e2).symm) e2, e3, stab _ _ gr e3 e4, e5⟩
      · exact ⟨c2, P2, z, hcT, nP2.symm, t2, gd⟩
    · have n1 : h'.objs.size ≠ c2 := Nat.ne_of_gt m.lt
      have n3 : h'.objs.size ≠ P2 := Nat.ne_of_gt (Heap.lt_size m.tab2)
      have n4 : h'.objs.size ≠ P := Nat.ne_of_gt (Nat.lt_of_lt_of_le (Heap.lt_size hP') hsz)
      rw [upd_ne n3, upd_ne n1, upd_ne n4]
      exact I.hok.fresh hsz
end
section
variable {X : Cx} {pins : List (Addr × Obj)} {σ : L2.St} {H : Hp} {s : Shared}
/-- a(), in the def that got the lambda f: its body, as it stands where the lambda was written -/
theorem pe_actT {CXg : CXT} {Eg : XK} {Ng : List Str} {qg : Str} {sg : Scope} {g f c2 P2 : Addr} {cdg pm ctv : Value} {params : Arguments} {body : Expr} {scope : Scope} {lv i : Nat} {a : Str} {pn : List (Addr × Obj)} {xe : Value → Shared → Prop} {W : WX} {E : XK} {tb : TE} {p1 p2 : Pos}
    (I : Inv X pins σ H s) (L : LamX.LamS X.env.scope scope) (hf : s.heap.get? f = some (kla_obj "<lambda>" (X.env.qual ++ "<lambda>") params body scope (cloFrom X.env.cells scope.names []) pm c2 ctv)) (hfn : H f = none) (hfr : f ∉ frs X.stack)
    (hbind : bindArgs (kla_fn "<lambda>" (X.env.qual ++ "<lambda>") params body scope (cloFrom X.env.cells scope.names []) pm (.ref c2) ctv) ⟨[], []⟩ = pure [])
    (tk : Takes ((cxOf CXg X.prog X.w X.K X.mg X.base Ng qg sg g cdg X.A X.stack s H Eg).tr pn xe) W) (hW : ∀ cls d σ' H', E cls d H' → W cls d σ' H') (hr : Room (lv + 1) (X.A.deeper (envOfC qg sg s.heap.objs.size g cdg)))
    (hbody : ∀ (A : Around) (outer : List Env) (s : Shared) (H : Hp), Room lv (A.deeper (LamX.lamEnv X scope s.heap.objs.size f c2)) → PE (LamX.lamCx X A outer s H E scope f c2) body tb)
    (hN : Ng[i]? = some a) (hv : Vis sg a) (hd : (a == ("__debug__" : Str)) = false := by decide) (hcd : (a == ("__classdict__" : Str)) = false := by decide) :
    PE ((cxOf CXg X.prog X.w X.K X.mg X.base Ng qg sg g cdg X.A X.stack s H Eg).tr pn xe) (.Call (.Name a p1) [] [] p2)
      (fun σZ HZ Q => σZ[i]? = some (some (.ref f)) ∧ HZ c2 = some (CodeT c2 (X.env.qual ++ "<lambda>") P2) ∧ tb σ HZ Q) := by
  refine ⟨fun pz sz σz Hz Q Iz ⟨h1, h2, h3⟩ => ?_⟩
  have hvar := (pe_var (pos := p1) (i := i) hN hv hd hcd).run pz sz σz Hz (fun v H1 => v = .ref f ∧ H1 = Hz) Iz ⟨.ref f, h1, rfl, rfl⟩
  refine wpAny_Call_Name_kw (thn hvar fun u s1 ⟨v, H1, I1, r1, ev, eH⟩ => ?_)
  subst ev eH
  obtain rfl : u = Value.ref f := r1
  have of1 : s1.heap.get? f = some (kla_obj "<lambda>" (X.env.qual ++ "<lambda>") params body scope (cloFrom X.env.cells scope.names []) pm c2 ctv) := I1.base.keep f _ hf hfn hfr (fun z => nomatch (show f ∈ ([] : List Addr) from z))
  obtain ⟨⟨cr, _⟩, _, _⟩ := I1.hok c2 _ h2
  have un : Un (frs X.stack) [] H H1 s.heap s1.heap := I1.base
  refine callWith_F0 ⟨_, _, _, _, of1⟩ ?_
  have run : codeAny (model X.prog X.w) (X.A.deeper (envOfC qg sg s.heap.objs.size g cdg)) (.call (.ref f) ⟨[], []⟩) (CR (L2.CX X.prog X.w) (envOfC qg sg s.heap.objs.size g cdg :: X.stack) X.prog X.w H1 s1 Q E) s1 := by
    refine kla_callFunE hr.depth of1 rfl L.co L.gen rfl cr ?_
    rw [hbind]
    refine wpAny_pure (wpAny_newFunctionEnv (fun y hy => (L.own y hy).2) (fun y hy => absurd hy (by simp)) (fun h₁ hns hsb => ⟨I1.nolimit.fresh _ hsb, ?_⟩) L.kind)
    show codeAny _ _ (.expr body (LamX.lamEnv X scope s1.heap.objs.size f c2)) _ _
    have kp1 : ∀ b o, s1.heap.get? b = some o → h₁.get? b = some o := fun b o e => hsb.extBut b o (Nat.ne_of_lt (Heap.lt_size e)) (Heap.get?_push_of_some _ e)
    have J := LamX.lam_start2 (E := E) (f := f) (c' := c2) (tk := s1.toks + ([] : List (Str × Value)).length) I L I1.env0 hr.hd un hns kp1
    exact kla_codeExpr (wpAny_mono ((hbody _ _ s1 H1 (hr.deeper _)).run [] _ _ H1 Q J h3) (fun v s' ⟨w', H', J', rv, q⟩ => ⟨w', H', J'.os, J'.bare, J'.base, J'.hok, rv, q⟩) fun e s' hq => hq)
  have hx : Passes (L2.CX X.prog X.w) ((cxOf CXg X.prog X.w X.K X.mg X.base Ng qg sg g cdg X.A X.stack s H Eg).tr pn xe) E := passes_call tk hW
  refine wpAny_call (codeAny_mono run fun r s' hq => ?_)
  match r, hq with
  | .error e, hq => exact hx pz σz H1 s1 e s' I1 hq
  | .ok (.ret u), hq => exact I1.after hq
  | .ok .next, hq => exact False.elim hq
  | .ok .brk, hq => exact False.elim hq
  | .ok .cont, hq => exact False.elim hq
end
/-- the def that calls what it got by its name a; TT: what it makes of the lambda's reading -/
def GivesT (X : Cx) (Ng : List Str) (x : Str) (sg : Scope) (g : Addr) (cdg : Value) (bg : List Stmt) (a : Str) (q : Str) (TT : (XK → Hp → VK → Prop) → Hp → VK → Prop) : Prop :=
  ∀ (f c2 P2 : Addr) (s : Shared) (H : Hp) (Q : VK) (tl : XK → Hp → VK → Prop),
    (∀ (W : WX) (pn : List (Addr × Obj)) (xe : Value → Shared → Prop) (E : XK) (p1 p2 : Pos), Takes ((cxOf C8.CX0 X.prog X.w X.K X.mg X.base Ng x sg g cdg X.A X.stack s H C8.E0).tr pn xe) W → (∀ cls d σ' H', E cls d H' → W cls d σ' H') →
      PE ((cxOf C8.CX0 X.prog X.w X.K X.mg X.base Ng x sg g cdg X.A X.stack s H C8.E0).tr pn xe) (.Call (.Name a p1) [] [] p2) (fun σZ HZ Q => σZ[0]? = some (some (.ref f)) ∧ HZ c2 = some (CodeT c2 q P2) ∧ tl E HZ Q)) →
    H c2 = some (CodeT c2 q P2) → TT tl H Q →
    ∃ t, PSs (cxOf C8.CX0 X.prog X.w X.K X.mg X.base Ng x sg g cdg X.A X.stack s H C8.E0).nox bg t ∧ t { nx := fun _ H' => Q .non H', rt := Q } (L2.start Ng [.ref f]) H
/-- what the reading of x(lambda: ..) asks: where the maker's code object is known (Pre), the tables, before and behind -/
def tLamT (mg : Str → Option Value) (Pre : Hp → Prop) (P : Addr) (q : Str) (qs : List Str) (TT : (XK → Hp → VK → Prop) → Hp → VK → Prop) (t : XK → TE) : TE := fun σ H Q => Pre H ∧ TabD mg (q :: qs) H P ∧
  ∀ H1, Grow P H H1 → TabD mg (q :: qs) H1 P → TT (fun E H' Q' => t E σ H' Q') H1 Q
section
variable {X : Cx}
theorem pe_lamT {Pre : Hp → Prop} {qs : List Str} {TT : (XK → Hp → VK → Prop) → Hp → VK → Prop} {x a : Str} {g c P : Addr} {lv : Nat} {pg : Arguments} {bg : List Stmt} {sg : Scope} {dV kV doc pm cdv ct oc : Value} {an od : Option Addr} {osl : Array (Option Value)} {Ng : List Str}
    {params : Arguments} {body : Expr} {scope : Scope} {t : XK → TE} {p lpos pos : Pos} (hg : Gl X x) (hm : X.mg x = some (.ref g)) (hk : keepIn X.K (.ref g) = true)
    (lk : X.K.lookup g = some ⟨oc, od, .func (fnOf x x pg bg sg dV kV doc pm an cdv ct), osl⟩) (hcg : codeIn X.K cdv x = true) (hb : L2.Binds X.K (fnOf x x pg bg sg dV kV doc pm an cdv ct) [a] []) (Sg : FnScope Ng [a] sg) (hNg : Ng[0]? = some a) (hva : Vis sg a)
    (hG : GivesT X Ng x sg g cdv bg a (X.env.qual ++ "<lambda>") TT)
    (src : ∀ pins σ H s, Inv X pins σ H s → Pre H → CodeHd s.heap c P ∧ s.heap.BuiltinsAt X.mg P ∧ mainGlobals ≠ P) (hcode : X.env.code = .ref c) (stab : ∀ H H1 Y, (∃ ps, H P = some (.tbl ps)) → Grow P H H1 → Y ≠ P → TabD X.mg qs H Y → TabD X.mg qs H1 Y) (hr : Room (lv + 2) X.A) (L : LamX.LamS X.env.scope scope) (hdef : defaultsOf params X.env = ([], []))
    (hbind : ∀ (q : Str) (cl : List (Str × Addr)) (pm cv ctv : Value), bindArgs (kla_fn "<lambda>" q params body scope cl pm cv ctv) ⟨[], []⟩ = pure [])
    (hbody : ∀ (A : Around) (outer : List Env) (s : Shared) (H : Hp) (E : XK) (f c2 : Addr), Room lv (A.deeper (LamX.lamEnv X scope s.heap.objs.size f c2)) → PE (LamX.lamCx X A outer s H E scope f c2) body (t E))
    (hdb : (x == ("__debug__" : Str)) = false := by decide) (hd : (a == ("__debug__" : Str)) = false := by decide) (hcd : (a == ("__classdict__" : Str)) = false := by decide) :
    PE X (.Call (.Name x p) [.Lambda params body scope lpos] [] pos) (tLamT X.mg Pre P (X.env.qual ++ "<lambda>") qs TT t) := by
  refine ⟨fun pins s σ H Q I ⟨hpre, hT, h⟩ => ?_⟩
  obtain ⟨sC, sB, sP⟩ := src pins σ H s I hpre
  have htb : ∃ ps, H P = some (.tbl ps) := by
    obtain ⟨ps, h1, _⟩ := hT
    exact ⟨ps, h1⟩
  refine wpAny_Call_Name_kw (ld_glob I hg hm ?_ hdb)
  refine callWith_K (h₀ := X.base) I.ok.mod.kin hk ?_ (by rfl) (by rfl)
  show wpAny _ _ (spliced ((false, eval (.Lambda params body scope lpos) X.env) :: backTo pos (starEach [] X.env))) _ _ s
  refine Calls.spliced_cons (lam_makeT I sC sP sB hcode hT (fun H1 Y => stab H H1 Y htb) hdef (L.has I.ok) fun f c2 P2 pm2 ctv H1 s1 I1 gr T1 hf hfn hfr hco _ _ _ => ?_)
  refine Calls.spliced_nil ⟨I1.kIn, ?_⟩
  have run : codeAny (model X.prog X.w) X.A (.call (.ref g) ⟨[.ref f], []⟩) (CR C8.CX0 X.stack X.prog X.w H1 s1 Q C8.E0) s1 := by
    refine LamX.run_ofS (N := Ng) (ps := [a]) (us := [.ref f]) (vs := [.ref f]) lk hcg Sg hr I1.env0 (hb s1 [.ref f] I1.kIn rfl) (.cons rfl .nil) rfl fun hr2 => ?_
    obtain ⟨t2, ht2, hq2⟩ := hG f c2 P2 s1 H1 Q (fun E H' Q' => t E σ H' Q') (fun W pn xe E p1 p2 tk hW => pe_actT (i := 0) I1 L hf hfn hfr (hbind _ _ _ _ _) tk hW hr2 (fun A outer s H hr3 => hbody A outer s H E f c2 hr3) hNg hva hd hcd) hco (h H1 gr T1)
    exact ⟨t2, ht2.nox, hq2⟩
  refine wpAny_call (codeAny_mono run fun r s2 hq => ?_)
  match r, hq with
  | .error e, hq => exact (show False from hq).elim
  | .ok (.ret u), hq => exact I1.after hq
  | .ok .next, hq => exact False.elim hq
  | .ok .brk, hq => exact False.elim hq
  | .ok .cont, hq => exact False.elim hq
end
/-! ### a lambda with parameters, that captures nothing of the def around it -/
theorem run_lam {CX : CXT} {P : Program} {w : World} {K : Frag} {mg : Str → Option Value} {base : Heap} {lv : Nat} {f c2 : Addr} {qual : Str} {params : Arguments} {body : Expr} {scope : Scope} {pm ctv : Value} {N ps : List Str} {tb : TE} {A : Around} {outer : List Env} {s : Shared} {H : Hp} {us : List Value} {vs : List V} {Q : VK} {E : XK}
    (of1 : s.heap.get? f = some (kla_obj "<lambda>" qual params body scope [] pm c2 ctv)) (cr : s.heap.CodeRec (.ref c2) qual) (S : FnScope N ps scope) (hr : Room (lv + 1) A) (e0 : Env0 P w K mg base A outer s H)
    (hbind : bindArgs (kla_fn "<lambda>" qual params body scope [] pm (.ref c2) ctv) ⟨us, []⟩ = pure (ps.zip us)) (r : Vals vs us) (hl : vs.length = ps.length)
    (hbody : Room lv (A.deeper (envOfC qual scope s.heap.objs.size f (.ref c2))) → PE (cxOf CX P w K mg base N qual scope f (.ref c2) A outer s H E) body tb) (h : tb (L2.start N vs) H Q) :
    codeAny (model P w) A (.call (.ref f) ⟨us, []⟩) (CR CX outer P w H s Q E) s := by
  have lim : s.heap.NoLimit := e0.mod.nolimit.keeps fun b o e => (e0.bs b o e).1
  have hkind : ∀ y ∈ ps.zip us, scope.names.lookup y.1 = some .local ∨ (scope.names.lookup y.1 = some .cell ∧ ((cellsFrom (s.heap.objs.size + 1) scope.names []).lookup y.1).isSome = true) := fun y hy =>
    (S.par y.1 (List.of_mem_zip (a := y.1) (b := y.2) hy).1).elim .inl fun z => .inr ⟨z, cellsFrom_some _ _ _ (.inl z)⟩
  refine kla_callFunE hr.depth of1 rfl S.co S.gen rfl cr ?_
  rw [hbind]
  refine wpAny_pure (wpAny_newFunctionEnv_cells S.kind hkind fun env he s1 x => ?_)
  subst he
  have J : Inv (cxOf CX P w K mg base N qual scope f (.ref c2) A outer s H E) [] (L2.start N vs) H s1 := inv_start S hr.hd e0 hl r x
  refine ⟨lim.keeps x.toInCall.keep, kla_codeExpr (wpAny_mono ((hbody (hr.deeper _)).run [] s1 _ H Q J h) (fun v s' ⟨w', H', J', rv, q⟩ => ⟨w', H', J'.os, J'.bare, J'.base, J'.hok, rv, q⟩) fun e s' hq => hq)⟩
section
variable {X : Cx} {pins : List (Addr × Obj)} {σ : L2.St} {H : Hp} {s : Shared}
/-- a(e), in the def that got such a lambda -/
theorem pe_act1 {CXg : CXT} {Eg : XK} {Ng : List Str} {qg : Str} {sg : Scope} {g f c2 P2 : Addr} {cdg pm ctv : Value} {qual : Str} {params : Arguments} {body e : Expr} {scope : Scope} {lv i : Nat} {a b : Str} {N : List Str} {te tb : TE} {p1 p2 : Pos}
    (I : Inv X pins σ H s) (hf : s.heap.get? f = some (kla_obj "<lambda>" qual params body scope [] pm c2 ctv)) (hfn : H f = none) (hfr : f ∉ frs X.stack) (S : FnScope N [b] scope)
    (hbind : ∀ u : Value, bindArgs (kla_fn "<lambda>" qual params body scope [] pm (.ref c2) ctv) ⟨[u], []⟩ = pure [(b, u)]) (hr : Room (lv + 1) (X.A.deeper (envOfC qg sg s.heap.objs.size g cdg)))
    (he : PE (cxOf CXg X.prog X.w X.K X.mg X.base Ng qg sg g cdg X.A X.stack s H Eg) e te)
    (hbody : ∀ (A : Around) (outer : List Env) (s : Shared) (H : Hp), Room lv (A.deeper (envOfC qual scope s.heap.objs.size f (.ref c2))) → PE (cxOf C8.CX0 X.prog X.w X.K X.mg X.base N qual scope f (.ref c2) A outer s H C8.E0) body tb)
    (hN : Ng[i]? = some a) (hv : Vis sg a) (hd : (a == ("__debug__" : Str)) = false := by decide) (hcd : (a == ("__classdict__" : Str)) = false := by decide)
    (hs : starEach [e] (cxOf CXg X.prog X.w X.K X.mg X.base Ng qg sg g cdg X.A X.stack s H Eg).env = (false, eval e (cxOf CXg X.prog X.w X.K X.mg X.base Ng qg sg g cdg X.A X.stack s H Eg).env) :: starEach [] (cxOf CXg X.prog X.w X.K X.mg X.base Ng qg sg g cdg X.A X.stack s H Eg).env := by rfl) :
    PE (cxOf CXg X.prog X.w X.K X.mg X.base Ng qg sg g cdg X.A X.stack s H Eg) (.Call (.Name a p1) [e] [] p2)
      (fun σZ HZ Q => σZ[i]? = some (some (.ref f)) ∧ te σZ HZ fun v H1 => H1 c2 = some (CodeT c2 qual P2) ∧ tb (L2.start N [v]) H1 Q) := by
  refine ⟨fun pz sz σz Hz Q Iz ⟨h1, h2⟩ => ?_⟩
  have hvar := (pe_var (pos := p1) (i := i) hN hv hd hcd).run pz sz σz Hz (fun v H1 => v = .ref f ∧ H1 = Hz) Iz ⟨.ref f, h1, rfl, rfl⟩
  refine wpAny_Call_Name_kw (thn hvar fun u s1 ⟨v, H1, I1, r1, ev, eH⟩ => ?_)
  subst ev eH
  obtain rfl : u = Value.ref f := r1
  have at_ : ∀ {s2 : Shared} {H2 : Hp}, Inv (cxOf CXg X.prog X.w X.K X.mg X.base Ng qg sg g cdg X.A X.stack s H Eg) pz σz H2 s2 → s2.heap.get? f = some (kla_obj "<lambda>" qual params body scope [] pm c2 ctv) := fun {s2 H2} I2 =>
    I2.base.keep f _ hf hfn hfr (fun z => nomatch (show f ∈ ([] : List Addr) from z))
  have hpa := (pa_cons he pa_nil hs).run p2 pz s1 σz H1 (fun vs H2 => match vs with
    | [v] => H2 c2 = some (CodeT c2 qual P2) ∧ tb (L2.start N [v]) H2 Q
    | _ => False) I1
  refine callWith_F ⟨_, _, _, _, at_ I1⟩ (thn (hpa h2) fun us s2 ⟨vs, H2, I2, r, hm⟩ => ⟨⟨_, _, _, _, at_ I2⟩, ?_⟩) hs rfl
  match vs, r, hm with
  | [v], r, ⟨hc, hq⟩ =>
    obtain ⟨⟨cr, _⟩, _, _⟩ := I2.hok c2 _ hc
    have hus : ∃ u, us = [u] := by
      cases r with
      | cons r1 rr =>
        cases rr
        exact ⟨_, rfl⟩
    obtain ⟨u, rfl⟩ := hus
    have run := run_lam (CX := C8.CX0) (E := C8.E0) (Q := Q) (at_ I2) cr S hr I2.env0 (hbind u) r rfl (fun hr2 => hbody _ _ s2 H2 hr2) hq
    refine wpAny_call (codeAny_mono run fun r s' hq => ?_)
    match r, hq with
    | .error e, hq => exact (show False from hq).elim
    | .ok (.ret u), hq => exact I2.after hq
    | .ok .next, hq => exact False.elim hq
    | .ok .brk, hq => exact False.elim hq
    | .ok .cont, hq => exact False.elim hq
end
/-- the def that calls what it got with one thing; TT: what it makes of the reading -/
def GivesT1 (X : Cx) (Ng : List Str) (x : Str) (sg : Scope) (g : Addr) (cdg : Value) (bg : List Stmt) (a : Str) (q : Str) (TT : Addr → Addr → (V → Hp → VK → Prop) → Hp → VK → Prop) : Prop :=
  ∀ (f c2 P2 : Addr) (s : Shared) (H : Hp) (Q : VK) (tl : V → Hp → VK → Prop),
    (∀ (e : Expr) (te : TE) (p1 p2 : Pos), PE (cxOf C8.CX0 X.prog X.w X.K X.mg X.base Ng x sg g cdg X.A X.stack s H C8.E0) e te →
      (starEach [e] (cxOf C8.CX0 X.prog X.w X.K X.mg X.base Ng x sg g cdg X.A X.stack s H C8.E0).env = (false, eval e (cxOf C8.CX0 X.prog X.w X.K X.mg X.base Ng x sg g cdg X.A X.stack s H C8.E0).env) :: starEach [] (cxOf C8.CX0 X.prog X.w X.K X.mg X.base Ng x sg g cdg X.A X.stack s H C8.E0).env) →
      PE (cxOf C8.CX0 X.prog X.w X.K X.mg X.base Ng x sg g cdg X.A X.stack s H C8.E0) (.Call (.Name a p1) [e] [] p2) (fun σZ HZ Q => σZ[0]? = some (some (.ref f)) ∧ te σZ HZ fun v H1 => H1 c2 = some (CodeT c2 q P2) ∧ tl v H1 Q)) →
    H c2 = some (CodeT c2 q P2) → TT c2 P2 tl H Q →
    ∃ t, PSs (cxOf C8.CX0 X.prog X.w X.K X.mg X.base Ng x sg g cdg X.A X.stack s H C8.E0) bg t ∧ t { nx := fun _ H' => Q .non H', rt := Q } (L2.start Ng [.ref f]) H
def tLamT1 (mg : Str → Option Value) (Pre : Hp → Prop) (P : Addr) (q : Str) (qs : List Str) (N : List Str) (TT : Addr → Addr → (V → Hp → VK → Prop) → Hp → VK → Prop) (tb : Addr → Addr → TE) : TE := fun _ H Q => Pre H ∧ TabD mg (q :: qs) H P ∧
  ∀ H1 c2 P2, Grow P H H1 → TabD mg (q :: qs) H1 P → P2 ≠ P → TabD mg qs H1 P2 → Good mg P2 → H1 c2 = some (CodeT c2 q P2) → TT c2 P2 (fun v H' Q' => tb c2 P2 (L2.start N [v]) H' Q') H1 Q
section
variable {X : Cx}
theorem pe_lamT1 {Pre : Hp → Prop} {qs : List Str} {TT : Addr → Addr → (V → Hp → VK → Prop) → Hp → VK → Prop} {x a b : Str} {g c P : Addr} {lv : Nat} {pg : Arguments} {bg : List Stmt} {sg : Scope} {dV kV doc pm cdv ct oc : Value} {an od : Option Addr} {osl : Array (Option Value)} {Ng N : List Str}
    {params : Arguments} {body : Expr} {scope : Scope} {tb : Addr → Addr → TE} {p lpos pos : Pos} (hg : Gl X x) (hm : X.mg x = some (.ref g)) (hk : keepIn X.K (.ref g) = true)
    (lk : X.K.lookup g = some ⟨oc, od, .func (fnOf x x pg bg sg dV kV doc pm an cdv ct), osl⟩) (hcg : codeIn X.K cdv x = true) (hb : L2.Binds X.K (fnOf x x pg bg sg dV kV doc pm an cdv ct) [a] []) (Sg : FnScope Ng [a] sg) (hNg : Ng[0]? = some a) (hva : Vis sg a)
    (hG : GivesT1 X Ng x sg g cdv bg a (X.env.qual ++ "<lambda>") TT)
    (src : ∀ pins σ H s, Inv X pins σ H s → Pre H → CodeHd s.heap c P ∧ s.heap.BuiltinsAt X.mg P ∧ mainGlobals ≠ P) (hcode : X.env.code = .ref c) (stab : ∀ H H1 Y, (∃ ps, H P = some (.tbl ps)) → Grow P H H1 → Y ≠ P → TabD X.mg qs H Y → TabD X.mg qs H1 Y) (hr : Room (lv + 2) X.A) (S : FnScope N [b] scope) (hcl : cloFrom X.env.cells scope.names [] = []) (hfree : ∀ y ∈ scope.names, y.2 ≠ .free) (hdef : defaultsOf params X.env = ([], []))
    (hbind : ∀ (q : Str) (pm cv ctv u : Value), bindArgs (kla_fn "<lambda>" q params body scope [] pm cv ctv) ⟨[u], []⟩ = pure [(b, u)])
    (hbody : ∀ (A : Around) (outer : List Env) (s : Shared) (H : Hp) (f c2 P2 : Addr), Room lv (A.deeper (envOfC (X.env.qual ++ "<lambda>") scope s.heap.objs.size f (.ref c2))) → PE (cxOf C8.CX0 X.prog X.w X.K X.mg X.base N (X.env.qual ++ "<lambda>") scope f (.ref c2) A outer s H C8.E0) body (tb c2 P2))
    (hdb : (x == ("__debug__" : Str)) = false := by decide) (hd : (a == ("__debug__" : Str)) = false := by decide) (hcd : (a == ("__classdict__" : Str)) = false := by decide) :
    PE X (.Call (.Name x p) [.Lambda params body scope lpos] [] pos) (tLamT1 X.mg Pre P (X.env.qual ++ "<lambda>") qs N TT tb) := by
  refine ⟨fun pins s σ H Q I ⟨hpre, hT, h⟩ => ?_⟩
  obtain ⟨sC, sB, sP⟩ := src pins σ H s I hpre
  have htb : ∃ ps, H P = some (.tbl ps) := by
    obtain ⟨ps, h1, _⟩ := hT
    exact ⟨ps, h1⟩
  refine wpAny_Call_Name_kw (ld_glob I hg hm ?_ hdb)
  refine callWith_K (h₀ := X.base) I.ok.mod.kin hk ?_ (by rfl) (by rfl)
  show wpAny _ _ (spliced ((false, eval (.Lambda params body scope lpos) X.env) :: backTo pos (starEach [] X.env))) _ _ s
  refine Calls.spliced_cons (lam_makeT I sC sP sB hcode hT (fun H1 Y => stab H H1 Y htb) hdef (fun y hy z => absurd z (hfree y hy)) fun f c2 P2 pm2 ctv H1 s1 I1 gr T1 hf hfn hfr hco n2 t2 gd => ?_)
  rw [hcl] at hf
  refine Calls.spliced_nil ⟨I1.kIn, ?_⟩
  have run : codeAny (model X.prog X.w) X.A (.call (.ref g) ⟨[.ref f], []⟩) (CR C8.CX0 X.stack X.prog X.w H1 s1 Q C8.E0) s1 := by
    refine LamX.run_ofS (N := Ng) (ps := [a]) (us := [.ref f]) (vs := [.ref f]) lk hcg Sg hr I1.env0 (hb s1 [.ref f] I1.kIn rfl) (.cons rfl .nil) rfl fun hr2 => ?_
    exact hG f c2 P2 s1 H1 Q (fun v H' Q' => tb c2 P2 (L2.start N [v]) H' Q') (fun e te p1 p2 he hs => pe_act1 (i := 0) (P2 := P2) I1 hf hfn hfr S (fun u => hbind _ _ _ _ u) hr2 he (fun A outer s H hr3 => hbody A outer s H f c2 P2 hr3) hNg hva hd hcd hs) hco (h H1 c2 P2 gr T1 n2 t2 gd hco)
  refine wpAny_call (codeAny_mono run fun r s2 hq => ?_)
  match r, hq with
  | .error e, hq => exact (show False from hq).elim
  | .ok (.ret u), hq => exact I1.after hq
  | .ok .next, hq => exact False.elim hq
  | .ok .brk, hq => exact False.elim hq
  | .ok .cont, hq => exact False.elim hq
end
end Lm
namespace K14
open PySem PySem.Spec PyProof.Rows L2
abbrev FnP (K : PySem.W.Frag) (x : Str) (st : Stmt) (f : Addr) (fd : FuncData) : Prop := FunD K x x (defArgs st) (defBody st) (defScope st) [] [] f fd
def top (i : Nat) : Stmt := PySem.Challenge.pw_letterround_k14_whole_words.main.body.getD i (.Pass ⟨0, 0, 0, 0⟩)
abbrev sDraw : Stmt := top 20
/-- the stream at p, its cells at c, at most n draws so far -/
def StrN (H : Hp) (p c : Addr) (n L : Nat) : Prop := ∃ (cells : List Int) (a k m : Int), H p = some (.lst [.ref c, .int a, .int k, .int m]) ∧ H c = some (.lst (cells.map V.int)) ∧ cells.length = L ∧ L ≤ 63 ∧ 0 ≤ a ∧ 0 ≤ k ∧ k ≤ n ∧ 0 ≤ m ∧ m < 2147483647
def StrAt (H : Hp) (p c : Addr) (n : Nat) : Prop := ∃ L, StrN H p c n L
theorem str_ne {H : Hp} {p c : Addr} {n L : Nat} (h : StrN H p c n L) : p ≠ c := by
  obtain ⟨cells, a, k, m, h1, h2, _⟩ := h
  refine ne_of h1 h2 fun z => ?_
  injection z with z
  cases cells with
  | nil => cases z
  | cons i r =>
    rw [List.map_cons] at z
    injection z with z1 z2
    cases z1
theorem StrN.set {H : Hp} {p c : Addr} {n' L : Nat} {cells : List Int} {a k m : Int} (h2 : H c = some (.lst (cells.map V.int))) (hne : p ≠ c) (hL : cells.length = L) (hL' : L ≤ 63) (ha : 0 ≤ a) (hk : 0 ≤ k) (hk' : k ≤ n') (hm : 0 ≤ m) (hm' : m < 2147483647) :
    StrN (upd H p (.lst [.ref c, .int a, .int k, .int m])) p c n' L := ⟨cells, a, k, m, upd_same, by rw [upd_ne hne.symm]; exact h2, hL, hL', ha, hk, hk', hm, hm'⟩
theorem StrN.keep {H H' : Hp} {p c : Addr} {n L : Nat} (h : StrN H p c n L) (e : ∀ b o, H b = some o → H' b = some o) : StrN H' p c n L := by
  obtain ⟨cells, a, k, m, h1, h2, r⟩ := h
  exact ⟨cells, a, k, m, e _ _ h1, e _ _ h2, r⟩
theorem StrAt.keep {H H' : Hp} {p c : Addr} {n : Nat} (h : StrAt H p c n) (e : ∀ b o, H b = some o → H' b = some o) : StrAt H' p c n := by
  obtain ⟨L, h⟩ := h
  exact ⟨L, h.keep e⟩
theorem StrAt.new {H : Hp} {p c q : Addr} {n : Nat} {o : HO} (h : StrAt H p c n) (hq : H q = none) : StrAt (upd H q o) p c n := h.keep fun b u e => by
  rw [upd_ne (ne_of_none e hq)]
  exact e
theorem StrAt.mono {H : Hp} {p c : Addr} {n n' : Nat} (h : StrAt H p c n) (hn : n ≤ n') : StrAt H p c n' := by
  obtain ⟨L, cells, a, k, m, h1, h2, h3, h4, h5, h6, h7, h8⟩ := h
  exact ⟨L, cells, a, k, m, h1, h2, h3, h4, h5, h6, by omega, h8⟩
/-- all but the stream stays -/
def Kp (p c : Addr) (H H' : Hp) : Prop := ∀ b o, H b = some o → b ≠ p → b ≠ c → H' b = some o
theorem Kp.refl {p c : Addr} (H : Hp) : Kp p c H H := fun _ _ e _ _ => e
theorem Kp.trans {p c : Addr} {H H1 H2 : Hp} (a : Kp p c H H1) (b : Kp p c H1 H2) : Kp p c H H2 := fun x o e h1 h2 => b x o (a x o e h1 h2) h1 h2
theorem Kp.new {p c q : Addr} {o : HO} {H H' : Hp} (a : Kp p c H H') (h : H' q = none) : Kp p c H (upd H' q o) := fun x u e h1 h2 => by
  have := a x u e h1 h2
  rw [upd_ne (ne_of_none this h)]
  exact this
theorem Kp.stream {p c : Addr} {o : HO} {H H' : Hp} (a : Kp p c H H') : Kp p c H (upd H' p o) := fun x u e h1 h2 => by
  rw [upd_ne h1]
  exact a x u e h1 h2
theorem Kp.cells {p c : Addr} {o : HO} {H H' : Hp} (a : Kp p c H H') : Kp p c H (upd H' c o) := fun x u e h1 h2 => by
  rw [upd_ne h2]
  exact a x u e h1 h2
theorem StrAt.ne {H : Hp} {p c q : Addr} {n : Nat} (h : StrAt H p c n) (hq : H q = none) : q ≠ p ∧ q ≠ c := by
  obtain ⟨L, cells, a, k, m, h1, h2, r⟩ := h
  exact ⟨(ne_of_none h1 hq).symm, (ne_of_none h2 hq).symm⟩
theorem StrAt.upd {H : Hp} {p c q : Addr} {n : Nat} {o : HO} (h : StrAt H p c n) (h1 : q ≠ p) (h2 : q ≠ c) : StrAt (L2.upd H q o) p c n := by
  obtain ⟨L, cells, a, k, m, e1, e2, r⟩ := h
  exact ⟨L, cells, a, k, m, by rw [upd_ne h1.symm]; exact e1, by rw [upd_ne h2.symm]; exact e2, r⟩
theorem Kp.mut {p c q : Addr} {o : HO} {H H' : Hp} (a : Kp p c H H') (h : H q = none) : Kp p c H (L2.upd H' q o) := fun x u e h1 h2 => by
  rw [upd_ne (ne_of_none e h)]
  exact a x u e h1 h2
theorem seq_nat {n j : Nat} (hj : j < n) : seqIndex? (j : Int) n = some j := (ixN_seq (Evl.ixN_nat hj)).1
/-- len of a list or tuple -/
abbrev rLn (K : PySem.W.Frag) : List V → Hp → VK → Prop := fun xs H Q => ∃ p ys, xs = [.ref p] ∧ (SqL K H p ys ∨ SqT K H p ys) ∧ Q (.int ys.length) H
def spDraw : Sp := fun vs H Q _ => ∃ (p c : Addr) (n : Nat) (many : Int), vs = [.ref p, .int many] ∧ StrAt H p c n ∧ n ≤ 1000000000 ∧ 1 ≤ many ∧ many < 1073741824 ∧
  ∀ (d : Int) (H' : Hp), 0 ≤ d → d < many → Kp p c H H' → StrAt H' p c (n + 1) → Q (.int d) H'
theorem dpa_ints {K : PySem.W.Frag} {H : Hp} : ∀ ns : List Int, DpAll K H (ns.map V.int) (ns.map PyData.int)
  | [] => .nil
  | n :: r => .cons (.int n) (dpa_ints r)
theorem dp_ints {K : PySem.W.Frag} {H : Hp} {a : Addr} {ns : List Int} (h : SqL K H a (ns.map V.int)) : Dp K H (.ref a) (.list (ns.map PyData.int)) := .lst h (dpa_ints ns)
theorem lay_ints : ∀ ns : List Int, PyData.canLayAll0 (ns.map PyData.int) = true
  | [] => by simp [PyData.canLayAll0]
  | n :: r => by simp [PyData.canLayAll0, PyData.canLay0, lay_ints r]
theorem depth_ints : ∀ ns : List Int, PyData.depthAll (ns.map PyData.int) = 0
  | [] => by simp [PyData.depthAll]
  | n :: r => by simp [PyData.depthAll, PyData.depth, depth_ints r]
theorem shaped_ints (ns : List Int) : SeqAt.shaped (.list (ns.map PyData.int)) = true := by
  unfold SeqAt.shaped
  simp [PyData.canLay0, PyData.depth, lay_ints, depth_ints]
theorem eqv_nil_ints : ∀ ns : List Int, PyData.eqv (.list (ns.map PyData.int)) (.list []) = ns.isEmpty
  | [] => by simp [PyData.eqv, PyData.eqvAll]
  | n :: r => by simp [PyData.eqv, PyData.eqvAll]
section
variable {P : Program} {w : World} {K : PySem.W.Frag} {mg : Str → Option Value} {base : Heap}
theorem scDraw : FnScope ["stream", "many", "cell", "digit", "mixed"] ["stream", "many"] (defScope sDraw) := ⟨rfl, rfl, rfl, by decide +kernel, rfl, by decide +kernel, by decide +kernel⟩
theorem ok_draw {f : Addr} {fd : FuncData} (F : FnP K "_law_draw" sDraw f fd) (gI : mg "int" = none) : FnOk P w K mg base CX0 1 f fd ["stream", "many"] spDraw := by
  refine F.ok scDraw (fun vs H Q E h => ?_) (fun cdv A outer s H vs Q E hr h => ?_)
  · obtain ⟨p, c, n, many, rfl, _⟩ := h
    rfl
  · obtain ⟨p, c, n, many, rfl, hS, hn, hm1, hm2, k⟩ := h
    refine ⟨_, PSs.nox (pss_cons (ps_asg (pe_op op_add (pe_ix ix_list (pv 0) pe_int (fun _ _ => rfl)) pe_int) (pg_sub (pv 0) pe_int set_list))
      (Evl.pss_cut (ps_while PassesOwn.never (PW.pt (pw_and (pt_cmpR op_eq (pe_ix ix_list (pv 0) pe_int (fun _ _ => rfl)) pe_int (nomark _)) (pw_and1 (pt_cmpR (op_neD hr.units) (pe_ix ix_list (pv 0) pe_int (fun _ _ => rfl)) (pe_lst pa_nil) (nomark _)))))
        (pss_cons (ps_set (i := 2) scDraw.nd rfl (.inl rfl) (pe_bm PySem.F.plainAttrs_list PySem.F.slot_list_pop PySem.F.type_list_pop mt_popAt (pe_ix ix_list (pv 0) pe_int (fun _ _ => rfl)) (pa_cons pe_int pa_nil)))
        (pss_cons (ps_asg (pe_op op_mod (pe_callTy call_int1 rfl gI (by decide +kernel) (pa_cons (pe_op op_add (pe_op op_add (pe_op op_mul (pe_ix ix_list (pv 0) pe_int (fun _ _ => rfl)) pe_int) (pv 2)) pe_int) pa_nil)) pe_int) (pg_sub (pv 0) pe_int set_list))
        (pss_one (ps_asg (pe_ifExp (pt_cmpR op_ge (pv 2) (pe_op op_pow pe_int pe_int) (nomark _)) (pv 2) pe_int) (pg_sub (pv 0) pe_int set_list))))))
      (pss_cons (ps_if (pt_cmpR op_gt (pe_ix ix_list (pv 0) pe_int (fun _ _ => rfl)) pe_int (nomark _))
        (pss_cons (ps_set (i := 3) scDraw.nd rfl (.inl rfl) (pe_op op_mod (pe_callTy call_int1 rfl gI (by decide +kernel) (pa_cons (pe_ix ix_list (pv 0) pe_int (fun _ _ => rfl)) pa_nil)) (pv 1)))
        (pss_cons (ps_asg (pe_op op_fdiv (pe_ix ix_list (pv 0) pe_int (fun _ _ => rfl)) (pv 1)) (pg_sub (pv 0) pe_int set_list))
        (pss_one (ps_ret (pv 3))))) pss_nil)
      (pss_cons (ps_set (i := 4) scDraw.nd rfl (.inl rfl) (pe_op op_mod (pe_callTy call_int1 rfl gI (by decide +kernel) (pa_cons (pe_op op_pow (pe_op op_add (pe_op op_add (pe_ix ix_list (pv 0) pe_int (fun _ _ => rfl)) (pe_op op_mul pe_int (pe_ix ix_list (pv 0) pe_int (fun _ _ => rfl)))) pe_int) pe_int) pa_nil)) pe_int))
      (pss_one (ps_ret (pe_op op_mod (pe_op op_mod (pe_callTy call_int1 rfl gI (by decide +kernel) (pa_cons (pe_op op_pow (pe_op op_add (pe_op op_add (pe_op op_mul (pv 4) pe_int) (pe_op op_mul pe_int (pe_ix ix_list (pv 0) pe_int (fun _ _ => rfl)))) pe_int) pe_int) pa_nil)) pe_int) (pv 1)))))))), ?_⟩
    obtain ⟨L, hS⟩ := hS
    have hpc := str_ne hS
    obtain ⟨cells, a, kk, m, h1, h2, hL, hL6, ha, hk0, hk, hm0, hm⟩ := hS
    refine ⟨_, rfl, p, _, _, _, rfl, rfl, SqL.of h1, rfl, _, _, rfl, rfl, _, rfl, p, _, _, 2, rfl, rfl, h1, rfl, ?_⟩
    show tSeq _ _ _ _ (upd H p (.lst [.ref c, .int a, .int (kk + 1), .int m]))
    have S1 : StrN (upd H p (.lst [.ref c, .int a, .int (kk + 1), .int m])) p c (n + 1) L := StrN.set h2 hpc hL hL6 ha (by omega) (by omega) hm0 hm
    have K1 : Kp p c H (upd H p (.lst [.ref c, .int a, .int (kk + 1), .int m])) := (Kp.refl H).stream
    generalize upd H p (.lst [.ref c, .int a, .int (kk + 1), .int m]) = H1 at S1 K1
    refine ⟨fun σ H' => ∃ v2 v3 v4, σ = [some (.ref p), some (.int many), v2, v3, v4] ∧ Kp p c H H' ∧ ∃ L, StrN H' p c (n + 1) L, ⟨fun L σ H' => ∃ v2 v3 v4, σ = [some (.ref p), some (.int many), v2, v3, v4] ∧ Kp p c H H' ∧ StrN H' p c (n + 1) L, ⟨L, none, none, none, rfl, K1, S1⟩, ?_⟩, ?_⟩
    · rintro L' σ H' ⟨v2, v3, v4, rfl, K2, S2⟩
      obtain ⟨cells', a', k', m', g1, g2, gL, gL6, ga, gk0, gk, gm0, gm⟩ := id S2
      refine ⟨_, rfl, p, _, _, _, rfl, rfl, SqL.of g1, rfl, rfl, _, rfl, ?_⟩
      refine ite2 (fun hz => ?_) (fun hz => ⟨v2, v3, v4, rfl, K2, L', S2⟩)
      refine ⟨_, rfl, p, _, _, _, rfl, rfl, SqL.of g1, rfl, Nat.zero_le _, fun q hq => ?_⟩
      have nqp : p ≠ q := ne_of_none g1 hq
      have nqc : c ≠ q := ne_of_none g2 hq
      have S3 : StrN (upd H' q (.lst [])) p c (n + 1) L' := S2.keep fun b u e => by rw [upd_ne (ne_of_none e hq)]; exact e
      have K3 : Kp p c H (upd H' q (.lst [])) := K2.new hq
      refine ⟨_, _, dp_ints (ns := cells') (SqL.of (by rw [upd_ne nqc]; exact g2)), dp_ints (ns := []) (SqL.of upd_same), shaped_ints _, shaped_ints _, _, rfl, ?_⟩
      rw [show (List.map PyData.int ([] : List Int)) = [] from rfl, eqv_nil_ints]
      have g1' : upd H' q (.lst []) p = some (.lst [.ref c, .int a', .int k', .int m']) := by rw [upd_ne nqp]; exact g1
      have g2' : upd H' q (.lst []) c = some (.lst (cells'.map V.int)) := by rw [upd_ne nqc]; exact g2
      generalize upd H' q (.lst []) = H3 at S3 K3 g1' g2'
      cases cells' with
      | nil => exact iteF ⟨v2, v3, v4, rfl, K3, L', S3⟩
      | cons z r =>
        refine iteT ⟨fun σ' H' => ∃ v2 v3 v4, σ' = [some (.ref p), some (.int many), v2, v3, v4] ∧ Kp p c H H' ∧ StrN H' p c (n + 1) r.length, fun σ' H' q => ⟨r.length, by rw [← gL]; exact Nat.lt_succ_self _, q⟩, ?_⟩
        refine ⟨_, rfl, p, _, _, _, rfl, rfl, SqL.of g1', rfl, .inl ⟨rfl, _, SqL.of g2'⟩, c, _, 0, 0, .int z, rfl, rfl, g2', by decide, by decide, by unfold seqIndex?; simp, rfl, ?_⟩
        have hr63 : r.length ≤ 63 := by
          rw [List.length_cons] at gL
          omega
        have g1c : upd H3 c (.lst (r.map V.int)) p = some (.lst [.ref c, .int a', .int k', .int m']) := by rw [upd_ne hpc]; exact g1'
        have g2c : upd H3 c (.lst (r.map V.int)) c = some (.lst (r.map V.int)) := upd_same
        have K4 : Kp p c H (upd H3 c (.lst (r.map V.int))) := K3.cells
        show tSeq _ _ _ _ (upd H3 c (.lst (r.map V.int)))
        generalize upd H3 c (.lst (r.map V.int)) = H4 at g1c g2c K4
        refine ⟨_, rfl, p, _, _, _, rfl, rfl, SqL.of g1c, rfl, _, _, rfl, rfl, .inr (by decide), _, rfl, _, _, rfl, rfl, _, _, rfl, rfl, .inl ⟨_, rfl, _, _, rfl, rfl, by show (0 : Int) < 2147483647; decide, ?_⟩⟩
        have hmm := Int.emod_nonneg (m' * 8191 + z + 3) (b := 2147483647) (by decide)
        have hmm2 := Int.emod_lt_of_pos (m' * 8191 + z + 3) (b := 2147483647) (by decide)
        refine ⟨_, rfl, p, _, _, 3, rfl, rfl, g1c, rfl, ?_⟩
        dsimp only [List.set]
        have g1d : upd H4 p (.lst [.ref c, .int a', .int k', .int ((m' * 8191 + z + 3) % 2147483647)]) p = some (.lst [.ref c, .int a', .int k', .int ((m' * 8191 + z + 3) % 2147483647)]) := upd_same
        have g2d : upd H4 p (.lst [.ref c, .int a', .int k', .int ((m' * 8191 + z + 3) % 2147483647)]) c = some (.lst (r.map V.int)) := by rw [upd_ne hpc.symm]; exact g2c
        have K5 : Kp p c H (upd H4 p (.lst [.ref c, .int a', .int k', .int ((m' * 8191 + z + 3) % 2147483647)])) := K4.stream
        generalize upd H4 p (.lst [.ref c, .int a', .int k', .int ((m' * 8191 + z + 3) % 2147483647)]) = H5 at g1d g2d K5
        refine ⟨_, rfl, _, _, rfl, rfl, ⟨by decide, by decide, by decide⟩, _, _, rfl, rfl, _, rfl, ?_⟩
        refine ite2 (fun hge => ⟨_, rfl, _, rfl, p, _, _, 1, rfl, rfl, g1d, rfl, ?_⟩) (fun _ => ⟨_, rfl, p, _, _, 1, rfl, rfl, g1d, rfl, ?_⟩)
        · have hz0 : 0 ≤ z := by
            have := of_decide_eq_true hge
            have e : (10 : Int) ^ (18 : Int).toNat = 1000000000000000000 := by decide
            rw [e] at this
            omega
          exact ⟨_, _, _, rfl, K5.stream, StrN.set g2d hpc rfl hr63 hz0 gk0 gk hmm hmm2⟩
        · exact ⟨_, _, _, rfl, K5.stream, StrN.set g2d hpc rfl hr63 (Int.le_refl 0) gk0 gk hmm hmm2⟩
    · rintro σ H' ⟨v2, v3, v4, rfl, K2, L', S2⟩
      obtain ⟨cells', a', k', m', g1, g2, gL, gL6, ga, gk0, gk, gm0, gm⟩ := id S2
      refine ⟨_, rfl, p, _, _, _, rfl, rfl, SqL.of g1, rfl, _, _, rfl, rfl, _, rfl, ?_⟩
      refine ite2 (fun hz => ?_) (fun hz => ?_)
      · have hpos : 0 < a' := of_decide_eq_true hz
        refine ⟨_, rfl, p, _, _, _, rfl, rfl, SqL.of g1, rfl, .inl ⟨_, rfl, _, rfl, _, _, rfl, rfl, by show (0 : Int) < many; omega, ?_⟩⟩
        refine ⟨_, rfl, p, _, _, _, rfl, rfl, SqL.of g1, rfl, _, rfl, _, _, rfl, rfl, ⟨by omega, by omega⟩, _, rfl, p, _, _, 1, rfl, rfl, g1, rfl, ?_⟩
        refine ⟨_, rfl, ?_⟩
        refine k _ _ (Int.emod_nonneg _ (by omega)) (Int.emod_lt_of_pos _ (by omega)) K2.stream ⟨L', StrN.set g2 hpc gL gL6 (Int.ediv_nonneg (by omega) (by omega)) gk0 gk gm0 gm⟩
      · have b1 : 0 ≤ m' + 7919 * k' + 104729 := by omega
        have b2 : m' + 7919 * k' + 104729 < 2 ^ 60 := by omega
        refine ⟨_, rfl, p, _, _, _, rfl, rfl, SqL.of g1, rfl, _, rfl, p, _, _, _, rfl, rfl, SqL.of g1, rfl, _, _, rfl, rfl, .inl (by decide), _, _, rfl, rfl, _, _, rfl, rfl, _, _, rfl, rfl, ⟨by decide, by decide, by omega⟩, .inl ⟨_, rfl, _, _, rfl, rfl, by show (0 : Int) < 2147483629; decide, ?_⟩⟩
        have hmm := Int.emod_nonneg ((m' + 7919 * k' + 104729) ^ (5 : Int).toNat) (b := 2147483629) (by decide)
        have hmm2 := Int.emod_lt_of_pos ((m' + 7919 * k' + 104729) ^ (5 : Int).toNat) (b := 2147483629) (by decide)
        dsimp only [gName]
        generalize (m' + 7919 * k' + 104729) ^ (5 : Int).toNat % 2147483629 = mx at hmm hmm2 ⊢
        refine ⟨_, rfl, _, _, rfl, rfl, .inr (by decide), _, rfl, p, _, _, _, rfl, rfl, SqL.of g1, rfl, _, _, rfl, rfl, .inl (by decide), _, _, rfl, rfl, _, _, rfl, rfl, _, _, rfl, rfl, ⟨by decide, by decide, by omega⟩, .inl ⟨_, rfl, _, _, rfl, rfl, by show (0 : Int) < 1000000007; decide, _, rfl, _, _, rfl, rfl, by show (0 : Int) < many; omega, ?_⟩⟩
        exact k _ _ (Int.emod_nonneg _ (by omega)) (Int.emod_lt_of_pos _ (by omega)) K2 ⟨L', S2⟩

/-! ### _law_start, _law_pick, _law_mixed -/
abbrev sStart : Stmt := top 19
def spStart (K : PySem.W.Frag) : Sp := fun vs H Q _ => ∃ (a : Addr) (ns : List Int), vs = [.ref a] ∧ SqL K H a (ns.map V.int) ∧ ns.length ≤ 63 ∧
  ∀ (p c : Addr) (H' : Hp), H p = none → H c = none → (∀ b o, H b = some o → H' b = some o) → StrAt H' p c 0 → Q (.ref p) H'
theorem scStart : FnScope ["script"] ["script"] (defScope sStart) := ⟨rfl, rfl, rfl, by decide +kernel, rfl, by decide +kernel, by decide +kernel⟩
theorem ok_start {f : Addr} {fd : FuncData} (F : FnP K "_law_start" sStart f fd) (gL : mg "list" = none) : FnOk P w K mg base CX0 1 f fd ["script"] (spStart K) := by
  refine F.ok scStart (fun vs H Q E h => ?_) (fun cdv A outer s H vs Q E hr h => ?_)
  · obtain ⟨a, ns, rfl, _⟩ := h
    rfl
  · obtain ⟨a, ns, rfl, hS, hl, k⟩ := h
    refine ⟨_, PSs.nox (pss_one (ps_ret (pe_lst (pa_cons (pe_callTy call_list_of rfl gL (by decide +kernel) (pa_cons (pv 0) pa_nil)) (pa_cons pe_int (pa_cons pe_int (pa_cons pe_int pa_nil))))))), ?_⟩
    refine ⟨_, rfl, a, _, rfl, .inl hS, fun c hc => ⟨by show 4 ≤ sizeLine; decide, fun p hp => ?_⟩⟩
    have hpc : p ≠ c := fun e => by
      rw [e, upd_same] at hp
      cases hp
    refine k p c _ (by rw [upd_ne hpc] at hp; exact hp) hc (fun b o e => ?_) ⟨ns.length, ns, 0, 0, 11, upd_same, by rw [upd_ne hpc.symm]; exact upd_same, rfl, hl, Int.le_refl _, Int.le_refl _, Int.le_refl _, by decide, by decide⟩
    have hbc := ne_of_none e hc
    have hbp : b ≠ p := fun z => by
      rw [z] at e
      rw [upd_ne hpc, e] at hp
      cases hp
    rw [upd_ne hbp, upd_ne hbc]
    exact e

abbrev sPick : Stmt := top 21
/-- some: a list | a tuple that is no part of the stream -/
def spPick (K : PySem.W.Frag) : Sp := fun vs H Q _ => ∃ (p c l : Addr) (n : Nat) (xs : List V), vs = [.ref p, .ref l] ∧ StrAt H p c n ∧ n ≤ 1000000000 ∧ l ≠ p ∧ l ≠ c ∧ (H l = some (.lst xs) ∨ H l = some (.tup xs)) ∧ 1 ≤ xs.length ∧ xs.length < 1000000 ∧
  ∀ (x : V) (j : Nat) (H' : Hp), xs[j]? = some x → Kp p c H H' → StrAt H' p c (n + 1) → Q x H'
theorem scPick : FnScope ["stream", "some"] ["stream", "some"] (defScope sPick) := ⟨rfl, rfl, rfl, by decide +kernel, rfl, by decide +kernel, by decide +kernel⟩
theorem ok_pick {f fD : Addr} {fd fdD : FuncData} (F : FnP K "_law_pick" sPick f fd) (FD : FnP K "_law_draw" sDraw fD fdD) (gI : mg "int" = none) (gD : mg "_law_draw" = some (.ref fD)) (gL : mg "len" = none) : FnOk P w K mg base CX0 2 f fd ["stream", "some"] (spPick K) := by
  have GD : FnOk P w K mg base CX0 1 fD fdD ["stream", "many"] spDraw := ok_draw FD gI
  have bD : Binds K fdD ["stream", "many"] [] := FD.bindsN fun _ _ _ _ _ _ us hl => match us, hl with | [_, _], _ => rfl
  refine F.ok scPick (fun vs H Q E h => ?_) (fun cdv A outer s H vs Q E hr h => ?_)
  · obtain ⟨p, c, l, n, xs, rfl, _⟩ := h
    rfl
  · obtain ⟨p, c, l, n, xs, rfl, hS, hn, hlp, hlc, hl, h1, h2, k⟩ := h
    refine ⟨_, PSs.nox (pss_one (ps_ret (pe_ix ix_seq (pv 1) (pe_call GD hr rfl gD FD.kp bD .nil pass0 (pa_cons (pv 0) (pa_cons (pe_callB call_len_seq (by rfl) gL PySem.boot_len (pa_cons (pv 1) pa_nil)) pa_nil))) (fun _ _ => rfl)))), ?_⟩
    refine ⟨_, rfl, _, rfl, _, rfl, l, xs, rfl, hl.imp SqL.of SqT.of, p, c, n, (xs.length : Int), rfl, hS, hn, by omega, by omega, fun d H' d0 d1 hK hS' => ?_⟩
    obtain ⟨j, rfl⟩ : ∃ j : Nat, d = (j : Int) := ⟨d.toNat, by omega⟩
    have hj : j < xs.length := by omega
    have ex : xs[j]? = some xs[j] := List.getElem?_eq_getElem hj
    rcases hl with hl | hl
    · exact .inl ⟨l, xs, (j : Int), _, rfl, rfl, SqL.of (hK l _ hl hlp hlc), atI_nat ex, k _ j _ ex hK hS'⟩
    · exact .inr (.inl ⟨l, xs, (j : Int), _, rfl, rfl, SqT.of (hK l _ hl hlp hlc), atI_nat ex, k _ j _ ex hK hS'⟩)

abbrev sMixed : Stmt := top 22
def spMixed (K : PySem.W.Frag) : Sp := fun vs H Q _ => ∃ (p c l : Addr) (n : Nat) (xs : List V), vs = [.ref p, .ref l] ∧ StrAt H p c n ∧ n + xs.length ≤ 1000000000 ∧ (SqL K H l xs ∨ SqT K H l xs) ∧ xs.length ≤ 1000 ∧
  ∀ (q : Addr) (ys : List V) (H' : Hp), H q = none → H' q = some (.lst ys) → ys.Perm xs → Kp p c H H' → StrAt H' p c (n + xs.length) → Q (.ref q) H'
theorem perm_erase {α : Type} {l : List α} {j : Nat} {x : α} (h : l[j]? = some x) : (x :: l.eraseIdx j).Perm l := by
  induction l generalizing j with
  | nil => simp at h
  | cons a r ih =>
    cases j with
    | zero =>
      simp only [List.getElem?_cons_zero, Option.some.injEq] at h
      subst h
      simp
    | succ j =>
      simp only [List.getElem?_cons_succ] at h
      rw [List.eraseIdx_cons_succ]
      exact (List.Perm.swap a x _).trans ((ih h).cons a)
theorem scMixed : FnScope ["stream", "some", "left", "k"] ["stream", "some"] (defScope sMixed) := ⟨rfl, rfl, rfl, by decide +kernel, rfl, by decide +kernel, by decide +kernel⟩
theorem ok_mixed {f fD : Addr} {fd fdD : FuncData} (F : FnP K "_law_mixed" sMixed f fd) (FD : FnP K "_law_draw" sDraw fD fdD) (gI : mg "int" = none) (gD : mg "_law_draw" = some (.ref fD)) (gL : mg "len" = none) (gLi : mg "list" = none) (gR : mg "range" = none) : FnOk P w K mg base CX0 2 f fd ["stream", "some"] (spMixed K) := by
  have GD : FnOk P w K mg base CX0 1 fD fdD ["stream", "many"] spDraw := ok_draw FD gI
  have bD : Binds K fdD ["stream", "many"] [] := FD.bindsN fun _ _ _ _ _ _ us hl => match us, hl with | [_, _], _ => rfl
  refine F.ok scMixed (fun vs H Q E h => ?_) (fun cdv A outer s H vs Q E hr h => ?_)
  · obtain ⟨p, c, l, n, xs, rfl, _⟩ := h
    rfl
  · obtain ⟨p, c, l, n, xs, rfl, hS, hn, hl, hx, k⟩ := h
    refine' ⟨_, PSs.nox (pss_cons (ps_set (i := 2) scMixed.nd rfl (.inr rfl) (pe_callTy call_list_of rfl gLi (by decide +kernel) (pa_cons (pv 1) pa_nil)))
      (pss_one (ps_ret ?lc))), ?rd⟩
    case lc =>
      refine pe_lc (own := [("k", 3)]) (g := gName 3) (tt := tYes) (te := tBM K "list" rPopAt (tVar 2) (tCons (tCall spDraw [] E0 (tCons (tVar 0) (tCons (tCB (rLn K) (tCons (tVar 2) tNil)) tNil))) tNil)) rfl scMixed.nd (pi_range1 rfl gR (pa_cons (pe_callB call_len_seq (by rfl) gL PySem.boot_len (pa_cons (pv 2) pa_nil)) pa_nil))
        (blkOk_by (own := [("k", 3)]) (N := ["stream", "some", "left", "k"]) (sc := defScope sMixed) (by decide +kernel)) (fun _ _ _ _ _ => pg_name (i := 3) scMixed.nd rfl (.inl rfl)) (fun _ _ _ _ _ => pts_nil) ?_
      intro _ _ _ _ _
      exact pe_bm PySem.F.plainAttrs_list PySem.F.slot_list_pop PySem.F.type_list_pop mt_popAt (pv 2) (pa_cons (pe_call GD hr rfl gD FD.kp bD .nil pass0 (pa_cons (pv 0) (pa_cons (pe_callB call_len_seq (by rfl) gL PySem.boot_len (pa_cons (pv 2) pa_nil)) pa_nil))) pa_nil)
    refine ⟨_, rfl, l, xs, rfl, hl, fun t ht => ?_⟩
    have S1 : StrAt (upd H t (.lst xs)) p c n := hS.new ht
    refine ⟨_, rfl, t, xs, rfl, .inl (SqL.of upd_same), _, rfl, by omega, by omega, fun D hD => ?_⟩
    have hDt : t ≠ D := ne_of_none upd_same hD
    have hDH : H D = none := by rw [upd_ne hDt.symm] at hD; exact hD
    refine lc_range (lo := 0) (n := ((xs.length : Nat) : Int).toNat) (fun i H' => ∃ (left acc : List V), H' t = some (.lst left) ∧ H' D = some (.lst acc) ∧ left.length + i = xs.length ∧ acc.length = i ∧ (acc ++ left).Perm xs ∧ Kp p c H H' ∧ StrAt H' p c (n + i)) ?_ ?_ ?_
    · exact ⟨xs, [], by rw [upd_ne hDt]; exact upd_same, upd_same, by omega, rfl, List.Perm.refl _, ((Kp.refl H).new ht).new hD, S1.new hD⟩
    · rintro i H1 hi ⟨left, acc, e1, e2, e3, e4, e5, e6, e7⟩
      have hil : i < xs.length := by omega
      refine ⟨rfl, _, rfl, .inl ⟨rfl, _, SqL.of e1⟩, ?_⟩
      refine ⟨_, rfl, _, rfl, t, left, rfl, .inl (SqL.of e1), p, c, n + i, (left.length : Int), rfl, e7, by omega, by omega, by omega, fun d H2 d0 d1 hK hS2 => ?_⟩
      obtain ⟨S7a, S7b⟩ := hS.ne ht
      obtain ⟨S8a, S8b⟩ := hS.ne hDH
      obtain ⟨j, rfl⟩ : ∃ j : Nat, d = (j : Int) := ⟨d.toNat, by omega⟩
      have hj : j < left.length := by omega
      have ex : left[j]? = some left[j] := List.getElem?_eq_getElem hj
      have f1 := hK t _ e1 S7a S7b
      have f2 := hK D _ e2 S8a S8b
      refine ⟨t, left, (j : Int), j, left[j], rfl, rfl, f1, by omega, by omega, seq_nat hj, ex, ?_⟩
      refine ⟨acc, by rw [upd_ne hDt.symm]; exact f2, Nat.lt_of_lt_of_le (show acc.length < 1000 by omega) (by decide), left.eraseIdx j, acc ++ [left[j]], ?_, upd_same, ?_, ?_, ?_, ?_, ?_⟩
      · rw [upd_ne hDt]
        exact upd_same
      · rw [List.length_eraseIdx_of_lt hj]
        omega
      · rw [List.length_append, e4]
        rfl
      · refine List.Perm.trans ?_ e5
        rw [List.append_assoc]
        exact (perm_erase ex).append_left acc
      · exact ((e6.trans hK).mut ht).mut hDH
      · exact (hS2.upd S7a S7b).upd S8a S8b
    · rintro H1 ⟨left, acc, e1, e2, e3, e4, e5, e6, e7⟩
      have h0 : left = [] := by
        have : left.length = 0 := by omega
        exact List.length_eq_zero_iff.mp this
      subst h0
      have e8 : ((xs.length : Nat) : Int).toNat = xs.length := by omega
      rw [e8] at e7
      exact k D acc H1 hDH e2 (by rw [List.append_nil] at e5; exact e5) e6 e7
end
end K14
namespace K14
open PySem PySem.Spec PyProof.Rows L2
/-! ### plain things and their kinds -/
inductive Pl (H : Hp) : V → String → Prop
  | non : Pl H .non "NoneType"
  | bl (b : Bool) : Pl H (.bl b) "bool"
  | int (i : Int) : Pl H (.int i) "int"
  | str (z : Str) : Pl H (.str z) "str"
  | lst {a : Addr} {xs : List V} (h : H a = some (.lst xs)) : Pl H (.ref a) "list"
  | tup {a : Addr} {xs : List V} (h : H a = some (.tup xs)) : Pl H (.ref a) "tuple"
  | dic {a : Addr} {kvs : List (Key × V)} (h : H a = some (.dK kvs)) : Pl H (.ref a) "dict"
theorem Pl.ext {H H' : Hp} {x : V} {n : String} (h : Pl H x n) (e : Evl.Ex H H') : Pl H' x n := by
  cases h with
  | non => exact .non
  | bl b => exact .bl b
  | int i => exact .int i
  | str z => exact .str z
  | lst h => exact .lst (e _ _ h)
  | tup h => exact .tup (e _ _ h)
  | dic h => exact .dic (e _ _ h)
theorem Pl.kp {H H' : Hp} {p c : Addr} {m : Nat} {x : V} {n : String} (h : Pl H x n) (hp : x ≠ .ref p) (hc : x ≠ .ref c) (e : Kp p c H H') : Pl H' x n := by
  have key : ∀ {a : Addr} {o : HO}, x = .ref a → H a = some o → H' a = some o := fun {a o} hx h => e _ _ h (fun z => hp (by rw [hx, z])) (fun z => hc (by rw [hx, z]))
  cases h with
  | non => exact .non
  | bl b => exact .bl b
  | int i => exact .int i
  | str z => exact .str z
  | lst h => exact .lst (key rfl h)
  | tup h => exact .tup (key rfl h)
  | dic h => exact .dic (key rfl h)
def isB (n t : String) : Bool := n == t || (n == "bool" && t == "int")
def kinds : List String := ["NoneType", "bool", "int", "str", "list", "tuple", "dict"]
theorem kit_tab : ∀ n ∈ kinds, ∀ t ∈ ["int", "bool", "list", "tuple", "dict", "str"], kitB n t = some (isB n t) := by decide +kernel
theorem Pl.mem {H : Hp} {x : V} {n : String} (h : Pl H x n) : n ∈ kinds := by cases h <;> decide
theorem Pl.ty {K : PySem.W.Frag} {H : Hp} {x : V} {n : String} (h : Pl H x n) : TyX K H x (.type n) := by
  cases h with
  | non => exact .base .non
  | bl b => exact .base (.bl b)
  | int i => exact .base (.int i)
  | str z => exact .base (.str z)
  | lst h => exact .base (.lst h)
  | tup h => exact .base (.tup h)
  | dic h => exact .base (.dK h)
theorem Pl.one {K : PySem.W.Frag} {H : Hp} {x : V} {n : String} (h : Pl H x n) (t : String) (ht : t ∈ ["int", "bool", "list", "tuple", "dict", "str"] := by decide) : PySem.W.kitOne K (.type n) (.type t) = some (isB n t) := kit_ty (kit_tab n h.mem t ht)
def isBs (n : String) (ts : List String) : Bool := ts.any fun t => isB n t
theorem cls_tys : ∀ ts : List String, Paired ClsV (ts.map V.ty) (ts.map Value.type)
  | [] => .nil
  | t :: r => .cons (.ty t) (cls_tys r)
theorem Pl.any {K : PySem.W.Frag} {H : Hp} {x : V} {n : String} (h : Pl H x n) : ∀ ts : List String, (∀ t ∈ ts, t ∈ ["int", "bool", "list", "tuple", "dict", "str"]) → PySem.W.kitAny K (.type n) (ts.map Value.type) = some (isBs n ts)
  | [], _ => kitAny_nil
  | t :: r, ht => by
    have e2 := Pl.any (K := K) h r fun z hz => ht z (List.mem_cons_of_mem _ hz)
    unfold isBs at e2 ⊢
    refine kitAny_cons (h.one (K := K) t (ht t List.mem_cons_self)) (fun z => ?_) fun z => ?_
    · rw [e2, List.any_cons, z, Bool.false_or]
    · rw [List.any_cons, z, Bool.true_or]
/-! ### is_integer, is_number, is_listed -/
abbrev sIsInt : Stmt := top 6
abbrev sIsNum : Stmt := top 7
abbrev sIsLst : Stmt := top 8
def numV : V → Bool
  | .int i => decide (0 ≤ i)
  | _ => false
def intV : V → Bool
  | .int _ => true
  | _ => false
theorem int_kind {H : Hp} {x : V} {n : String} (h : Pl H x n) : (isB n "int" && !isB n "bool") = intV x := by cases h <;> rfl
def spIsInt : Sp := fun vs H Q _ => ∃ (x : V) (n : String), vs = [x] ∧ Pl H x n ∧ Q (.bl (intV x)) H
def spIsNum : Sp := fun vs H Q _ => ∃ (x : V) (n : String), vs = [x] ∧ Pl H x n ∧ Q (.bl (numV x)) H
def lstB (n : String) : Bool := isBs n ["list", "tuple"]
def spIsLst : Sp := fun vs H Q _ => ∃ (x : V) (n : String), vs = [x] ∧ Pl H x n ∧ ∀ H', Evl.Ex H H' → Q (.bl (lstB n)) H'
section
variable {P : Program} {w : World} {K : PySem.W.Frag} {mg : Str → Option Value} {base : Heap}
theorem scIsInt : FnScope ["thing"] ["thing"] (defScope sIsInt) := ⟨rfl, rfl, rfl, by decide +kernel, rfl, by decide +kernel, by decide +kernel⟩
theorem ok_isInt {f : Addr} {fd : FuncData} (F : FnP K "is_integer" sIsInt f fd) (gI : mg "int" = none) (gB : mg "bool" = none) (gS : mg "isinstance" = none) : FnOk P w K mg base CX0 1 f fd ["thing"] spIsInt := by
  refine F.ok scIsInt (fun vs H Q E h => ?_) (fun cdv A outer s H vs Q E hr h => ?_)
  · obtain ⟨x, n, rfl, _⟩ := h
    rfl
  · obtain ⟨x, n, rfl, hx, k⟩ := h
    refine ⟨_, PSs.nox (pss_one (ps_ret (pe_and (pe_callB call_isi rfl gS (by decide +kernel) (pa_cons (pv 0) (pa_cons (pe_bltn (v := .ty "int") rfl gI (by decide +kernel) rfl) pa_nil))) (pe_one (pe_not (pe_callB call_isi rfl gS (by decide +kernel) (pa_cons (pv 0) (pa_cons (pe_bltn (v := .ty "bool") rfl gB (by decide +kernel) rfl) pa_nil)))))))), ?_⟩
    refine ⟨_, rfl, _, _, _, _, _, rfl, .ty _, hx.ty, hx.one "int", _, rfl, ?_⟩
    have e := int_kind hx
    cases hi : isB n "int" with
    | false =>
      rw [hi] at e
      refine iteF ?_
      rw [Bool.false_and] at e
      rw [e]
      exact k
    | true =>
      rw [hi, Bool.true_and] at e
      refine iteT ⟨_, rfl, _, _, _, _, _, rfl, .ty _, hx.ty, hx.one "bool", _, rfl, ?_⟩
      rw [e]
      exact k
theorem scIsNum : FnScope ["thing"] ["thing"] (defScope sIsNum) := ⟨rfl, rfl, rfl, by decide +kernel, rfl, by decide +kernel, by decide +kernel⟩
theorem ok_isNum {f fI : Addr} {fd fdI : FuncData} (F : FnP K "is_number" sIsNum f fd) (FI : FnP K "is_integer" sIsInt fI fdI) (gI : mg "int" = none) (gB : mg "bool" = none) (gS : mg "isinstance" = none) (gF : mg "is_integer" = some (.ref fI)) : FnOk P w K mg base CX0 2 f fd ["thing"] spIsNum := by
  have G1 : FnOk P w K mg base CX0 1 fI fdI ["thing"] spIsInt := ok_isInt FI gI gB gS
  have b1 : Binds K fdI ["thing"] [] := FI.bindsN fun _ _ _ _ _ _ us hl => match us, hl with | [_], _ => rfl
  refine F.ok scIsNum (fun vs H Q E h => ?_) (fun cdv A outer s H vs Q E hr h => ?_)
  · obtain ⟨x, n, rfl, _⟩ := h
    rfl
  · obtain ⟨x, n, rfl, hx, k⟩ := h
    refine ⟨_, PSs.nox (pss_one (ps_ret (pe_and (pe_call G1 hr rfl gF FI.kp b1 .nil pass0 (pa_cons (pv 0) pa_nil)) (pe_one (pe_cmpR op_ge (pv 0) pe_int (nomark _)))))), ?_⟩
    refine ⟨_, rfl, x, n, rfl, hx, _, rfl, ?_⟩
    cases hx with
    | int i => exact iteT ⟨_, rfl, _, _, rfl, rfl, k⟩
    | _ => exact iteF k
theorem scIsLst : FnScope ["thing"] ["thing"] (defScope sIsLst) := ⟨rfl, rfl, rfl, by decide +kernel, rfl, by decide +kernel, by decide +kernel⟩
theorem ok_isLst {f : Addr} {fd : FuncData} (F : FnP K "is_listed" sIsLst f fd) (gL : mg "list" = none) (gT : mg "tuple" = none) (gS : mg "isinstance" = none) : FnOk P w K mg base CX0 1 f fd ["thing"] spIsLst := by
  refine F.ok scIsLst (fun vs H Q E h => ?_) (fun cdv A outer s H vs Q E hr h => ?_)
  · obtain ⟨x, n, rfl, _⟩ := h
    rfl
  · obtain ⟨x, n, rfl, hx, k⟩ := h
    refine ⟨_, PSs.nox (pss_one (ps_ret (pe_callB call_isiT rfl gS (by decide +kernel) (pa_cons (pv 0) (pa_cons (pe_tup (pa_cons (pe_bltn (v := .ty "list") rfl gL (by decide +kernel) rfl) (pa_cons (pe_bltn (v := .ty "tuple") rfl gT (by decide +kernel) rfl) pa_nil))) pa_nil))))), ?_⟩
    refine ⟨_, rfl, by show 2 ≤ sizeLine; decide, fun t ht => ?_⟩
    exact ⟨_, _, _, _, _, _, rfl, upd_same, cls_tys ["list", "tuple"], (hx.ext (Evl.Ex.new ht)).ty, hx.any ["list", "tuple"] (by decide), k _ (Evl.Ex.new ht)⟩
end
end K14
namespace K14
open PySem PySem.Spec PyProof.Rows L2 Sq Exs
/-! ### first_no_number -/
abbrev sFnn : Stmt := top 9
def fnn (xs : List V) : Option Nat := xs.findIdx? fun x => !numV x
def fnnV (l : Bool) (xs : List V) : V := if l then (match fnn xs with | some i => .int (i : Nat) | none => .non) else .int 0
/-- a thing with what stands in it, where it is a list or a tuple -/
def ThX (K : PySem.W.Frag) (H : Hp) (x : V) (n : String) (xs : List V) : Prop := Pl H x n ∧ (lstB n = true → ∃ t a, x = .ref a ∧ SqK K H t a xs ∧ ∀ y ∈ xs, ∃ m, Pl H y m)
def spFnn (K : PySem.W.Frag) : Sp := fun vs H Q _ => ∃ (x : V) (n : String) (xs : List V), vs = [x] ∧ ThX K H x n xs ∧ ∀ H', Evl.Ex H H' → Q (fnnV (lstB n) xs) H'
theorem fnn_some {xs : List V} {i : Nat} {y : V} (h : ∀ j z, j < i → xs[j]? = some z → numV z = true) (hy : xs[i]? = some y) (hn : numV y = false) : fnn xs = some i := by
  unfold fnn
  rw [List.findIdx?_eq_some_iff_getElem]
  have hi : i < xs.length := (List.getElem?_eq_some_iff.mp hy).1
  refine ⟨hi, ?_, fun j hj => ?_⟩
  · have : xs[i] = y := Option.some.inj (by rw [← hy, List.getElem?_eq_getElem hi])
    rw [this, hn]
    rfl
  · have hj' : j < xs.length := by omega
    rw [h j xs[j] hj (List.getElem?_eq_getElem hj')]
    decide
theorem fnn_none {xs : List V} (h : ∀ j z, j < xs.length → xs[j]? = some z → numV z = true) : fnn xs = none := by
  unfold fnn
  rw [List.findIdx?_eq_none_iff]
  intro x hx
  obtain ⟨j, hj, rfl⟩ := List.getElem_of_mem hx
  rw [h j _ hj (List.getElem?_eq_getElem hj)]
  rfl
theorem SqT.exx {K : PySem.W.Frag} {H H' : Hp} {a : Addr} {xs : List V} (h : SqT K H a xs) (e : Evl.Ex H H') : SqT K H' a xs :=
  h.imp (fun r => r.elim (fun q => .inl (e _ _ q)) fun ⟨o, q⟩ => .inr ⟨o, e _ _ q⟩) id
theorem SqL.exx {K : PySem.W.Frag} {H H' : Hp} {a : Addr} {xs : List V} (h : SqL K H a xs) (e : Evl.Ex H H') : SqL K H' a xs :=
  h.imp (fun r => r.elim (fun q => .inl (e _ _ q)) fun ⟨o, q⟩ => .inr ⟨o, e _ _ q⟩) id
theorem SqK.ex {K : PySem.W.Frag} {H H' : Hp} {t : Bool} {a : Addr} {xs : List V} (h : SqK K H t a xs) (e : Evl.Ex H H') : SqK K H' t a xs := by
  cases t with
  | true => exact SqT.exx h e
  | false => exact SqL.exx h e
section
variable {P : Program} {w : World} {K : PySem.W.Frag} {mg : Str → Option Value} {base : Heap}
theorem scFnn : FnScope ["thing", "index", "number"] ["thing"] (defScope sFnn) := ⟨rfl, rfl, rfl, by decide +kernel, rfl, by decide +kernel, by decide +kernel⟩
theorem ok_fnn {f fN fI fL : Addr} {fd fdN fdI fdL : FuncData} (F : FnP K "first_no_number" sFnn f fd) (FN : FnP K "is_number" sIsNum fN fdN) (FI : FnP K "is_integer" sIsInt fI fdI) (FL : FnP K "is_listed" sIsLst fL fdL) (gI : mg "int" = none) (gB : mg "bool" = none) (gS : mg "isinstance" = none)
    (gF : mg "is_integer" = some (.ref fI)) (gN : mg "is_number" = some (.ref fN)) (gLs : mg "is_listed" = some (.ref fL)) (gL : mg "list" = none) (gT : mg "tuple" = none) (gE : mg "enumerate" = none) : FnOk P w K mg base CX0 3 f fd ["thing"] (spFnn K) := by
  have G2 : FnOk P w K mg base CX0 2 fN fdN ["thing"] spIsNum := ok_isNum FN FI gI gB gS gF
  have b2 : L2.Binds K fdN ["thing"] [] := FN.bindsN fun _ _ _ _ _ _ us hl => match us, hl with | [_], _ => rfl
  have G1 : FnOk P w K mg base CX0 1 fL fdL ["thing"] spIsLst := ok_isLst FL gL gT gS
  have b1 : L2.Binds K fdL ["thing"] [] := FL.bindsN fun _ _ _ _ _ _ us hl => match us, hl with | [_], _ => rfl
  refine F.ok scFnn (fun vs H Q E h => ?_) (fun cdv A outer s H vs Q E hr h => ?_)
  · obtain ⟨x, n, xs, rfl, _⟩ := h
    rfl
  · obtain ⟨x, n, xs, rfl, hx, k⟩ := h
    refine ⟨_, PSs.nox (pss_cons (ps_if (pt_not (pt_val (pe_call G1 (hr.mono (by decide)) rfl gLs FL.kp b1 .nil pass0 (pa_cons (pv 0) pa_nil)))) (pss_one (ps_ret pe_int)) pss_nil)
      (pss_cons (ps_for PassesOwn.never rfl (pi_enumA rfl gE (pa_cons (pv 0) pa_nil))
        (pg_tup rfl (pgs_cons (pg_name (i := 1) scFnn.nd rfl (.inl rfl)) (pgs_cons (pg_name (i := 2) scFnn.nd rfl (.inl rfl)) pgs_nil)))
        (pss_one (ps_if (pt_not (pt_val (pe_call G2 hr rfl gN FN.kp b2 .nil pass0 (pa_cons (pv 2) pa_nil)))) (pss_one (ps_ret (pv 1))) pss_nil)))
      (pss_one (ps_ret pe_non)))), ?_⟩
    obtain ⟨hx, hxs⟩ := hx
    refine ⟨_, rfl, x, n, rfl, hx, fun H1 e1 => ⟨_, rfl, ?_⟩⟩
    cases hl : lstB n with
    | false =>
      refine iteT ?_
      rw [hl] at k
      exact k _ e1
    | true =>
      refine iteF ?_
      obtain ⟨t, a, rfl, hq, hpl⟩ := hxs hl
      refine ⟨_, rfl, t, a, xs, rfl, SqK.ex hq e1, ?_⟩
      refine for_it (walk_enumA (xs := xs)) (fun i σ H' => ∃ v1 v2, σ = [some (.ref a), v1, v2] ∧ Evl.Ex H H' ∧ ∀ j z, j < i → xs[j]? = some z → numV z = true) ⟨none, none, rfl, e1, fun j z hj => absurd hj (Nat.not_lt_zero j)⟩ (fun i σ H' _ hp => ?_) (fun i y σ H' H'' hi hp hy => ?_) (fun σ H' hp => ?_)
      · obtain ⟨_, _, _, e2, _⟩ := hp
        exact SqK.ex hq e2
      · obtain ⟨v1, v2, rfl, e2, hn⟩ := hp
        obtain ⟨T, u, z, rfl, hT, rfl, hu, hz⟩ := hy
        injection hu with hu
        subst hu
        have e3 : Evl.Ex H (upd H' T (.tup [.int (i : Nat), z])) := e2.trans (Evl.Ex.new hT)
        obtain ⟨m, hm⟩ := hpl z (List.mem_of_getElem? hz)
        refine ⟨T, _, rfl, SqT.of upd_same, rfl, _, _, rfl, _, _, rfl, rfl, _, rfl, z, m, rfl, hm.ext e3, _, rfl, ?_⟩
        cases hnz : numV z with
        | false =>
          refine iteT ⟨_, rfl, ?_⟩
          rw [hl] at k
          unfold fnnV at k
          rw [fnn_some hn hz hnz] at k
          exact k _ e3
        | true =>
          refine iteF ⟨_, _, rfl, e3, fun j y hj hy => ?_⟩
          by_cases hji : j < i
          · exact hn j y hji hy
          · have : j = i := by omega
            subst this
            have : y = z := Option.some.inj (hy.symm.trans hz)
            rw [this, hnz]
      · obtain ⟨v1, v2, rfl, e2, hn⟩ := hp
        rw [hl] at k
        unfold fnnV at k
        rw [fnn_none hn] at k
        exact k _ e2
/-! ### ask_words -/
abbrev sAsk : Stmt := top 11
/-- what comes of the two things: refused, or not -/
def AskD (C1 C2 : Addr) (H : Hp) (fo : V) (y : V) (E : XK) (q : Prop) : Prop :=
  (fo ≠ .non → ∀ H' d, Evl.Ex H H' → H' d = none → E (.ref C1) (some d) (upd H' d (.xd [("index", fo)]))) ∧
  (fo = .non → numV y = false → ∀ H' d, Evl.Ex H H' → H' d = none → E (.ref C2) (some d) (upd H' d (.xd [("thing", y)]))) ∧ (fo = .non → numV y = true → q)
def spAsk (K : PySem.W.Frag) (C1 C2 : Addr) : Sp := fun vs H Q E => ∃ (x y : V) (n m : String) (xs : List V), vs = [x, y] ∧ ThX K H x n xs ∧ Pl H y m ∧ AskD C1 C2 H (fnnV (lstB n) xs) y E (∀ H', Evl.Ex H H' → Q .non H')
theorem scAsk : FnScope ["signs", "free", "index"] ["signs", "free"] (defScope sAsk) := ⟨rfl, rfl, rfl, by decide +kernel, rfl, by decide +kernel, by decide +kernel⟩
theorem ok_ask {f fA fN C1 C2 f1 f2 : Addr} {fd fdA fdN : FuncData} (F : FnP K "ask_words" sAsk f fd) (T1 : Err P w K mg base "BadNumbers" "index" C1 f1) (T2 : Err P w K mg base "BadNumber" "thing" C2 f2)
    (GA : FnOk P w K mg base CX0 3 fA fdA ["thing"] (spFnn K)) (bA : L2.Binds K fdA ["thing"] []) (kA : PySem.W.keepIn K (.ref fA) = true) (gA : mg "first_no_number" = some (.ref fA)) (GN : FnOk P w K mg base CX0 2 fN fdN ["thing"] spIsNum) (bN : L2.Binds K fdN ["thing"] []) (kN : PySem.W.keepIn K (.ref fN) = true) (gN : mg "is_number" = some (.ref fN)) :
    FnOk P w K mg base (L2.CX P w) 4 f fd ["signs", "free"] (spAsk K C1 C2) := by
  refine F.ok scAsk (fun vs H Q E h => ?_) (fun cdv A outer s H vs Q E hr h => ?_)
  · obtain ⟨x, y, n, m, xs, rfl, _⟩ := h
    rfl
  · obtain ⟨x, y, n, m, xs, rfl, hx, hy, k1, k2, k3⟩ := h
    refine ⟨_, pss_cons (ps_set (i := 2) scAsk.nd rfl (.inl rfl) (pe_call GA hr rfl gA kA bA .nil pass0 (pa_cons (pv 0) pa_nil)))
      (pss_cons (ps_if (pt_cmpR op_notN (pv 2) pe_non (nomark _)) (pss_one (ps_raise1 rfl T1 (hr.mono (by decide)) (takes_of rfl rfl rfl rfl) rfl (pv 2))) pss_nil)
      (pss_one (ps_if (pt_not (pt_val (pe_call GN (hr.mono (by decide)) rfl gN kN bN .nil pass0 (pa_cons (pv 1) pa_nil)))) (pss_one (ps_raise1 rfl T2 (hr.mono (by decide)) (takes_of rfl rfl rfl rfl) rfl (pv 1))) pss_nil))), ?_⟩
    refine ⟨_, rfl, x, n, xs, rfl, hx, fun H1 e1 => ?_⟩
    refine ⟨_, rfl, rfl, _, rfl, ?_⟩
    refine ite2 (fun hn => ?_) (fun hn => ?_)
    · refine ⟨_, rfl, raiseP fun d hd => k1 ?_ H1 d e1 hd⟩
      intro z
      rw [z] at hn
      simp at hn
    · have hn0 : fnnV (lstB n) xs = .non := by simpa using hn
      refine ⟨_, rfl, y, m, rfl, hy.ext e1, _, rfl, ?_⟩
      cases hy0 : numV y with
      | false => exact iteT ⟨_, rfl, raiseP fun d hd => k2 hn0 hy0 H1 d e1 hd⟩
      | true => exact iteF (k3 hn0 hy0 H1 e1)
end
end K14
namespace K14
open PySem PySem.Spec PyProof.Rows L2 Sq Exs
/-! ### with_blocks -/
abbrev sWb : Stmt := top 15
/-- the binomial numbers below 64, by one power -/
def comb (a b : Nat) : Int := ((((2 ^ 64 + 1) ^ a / 2 ^ (64 * b)) % 2 ^ 64 : Nat) : Int)
def worthM (many b : Nat) : Int := if (many - b) % 2 = 1 then - comb (many - 1) (b - 1) else comb (many - 1) (b - 1)
def inS (inner : Nat) (worth : Int) (ws : List Int) (t : List Int) (s : Nat) : List Int := t.set (s + inner) (t.getD (s + inner) 0 + ws.getD s 0 * worth * comb (s + inner) inner)
def inM (inner : Nat) (worth : Int) (ws : List Int) (i : Nat) (t : List Int) : List Int := (List.range i).foldl (inS inner worth ws) t
def wbS (ws : List Int) (many ends : Nat) (t : List Int) (j : Nat) : List Int := inM (max 1 ends + j - ends) (worthM many (max 1 ends + j)) ws ws.length t
def wbI (ws : List Int) (many ends i : Nat) : List Int := (List.range i).foldl (wbS ws many ends) (List.replicate (ws.length + many - ends) 0)
def wbM (ws : List Int) (many ends : Nat) : List Int := wbI ws many ends (many + 1 - max 1 ends)
theorem inM_succ {inner : Nat} {worth : Int} {ws : List Int} {i : Nat} {t : List Int} : inM inner worth ws (i + 1) t = inS inner worth ws (inM inner worth ws i t) i := by
  unfold inM
  rw [List.range_succ, List.foldl_append]
  rfl
theorem wbI_succ {ws : List Int} {many ends i : Nat} : wbI ws many ends (i + 1) = wbS ws many ends (wbI ws many ends i) i := by
  unfold wbI
  rw [List.range_succ, List.foldl_append]
  rfl
theorem inM_len {inner : Nat} {worth : Int} {ws : List Int} {t : List Int} : ∀ i, (inM inner worth ws i t).length = t.length
  | 0 => rfl
  | i + 1 => by
    rw [inM_succ]
    unfold inS
    rw [List.length_set, inM_len i]
theorem wbI_len {ws : List Int} {many ends : Nat} : ∀ i, (wbI ws many ends i).length = ws.length + many - ends
  | 0 => by unfold wbI; simp
  | i + 1 => by
    rw [wbI_succ]
    unfold wbS
    rw [inM_len, wbI_len i]
theorem wbM_len {ws : List Int} {many ends : Nat} : (wbM ws many ends).length = ws.length + many - ends := wbI_len _
theorem comb_tab : ∀ a ∈ List.range 64, ∀ b ∈ List.range 64, PySem.W.mcComb (a : Nat) (b : Nat) = comb a b := by decide +kernel
theorem mc_eq {a b : Nat} (h1 : a < 64) (h3 : b < 64) : PySem.W.mcComb (a : Int) (b : Int) = comb a b := comb_tab a (List.mem_range.mpr h1) b (List.mem_range.mpr h3)
theorem comb_lt (a b : Nat) : -(2 ^ 64) < comb a b ∧ comb a b < 2 ^ 64 := by
  unfold comb
  have := Nat.mod_lt ((2 ^ 64 + 1) ^ a / 2 ^ (64 * b)) (y := 2 ^ 64) (by decide)
  omega
theorem comb_abs {a b : Int} (h0 : 0 ≤ a) (h1 : a < 64) (h2 : 0 ≤ b) (h3 : b < 64) : -(2 ^ 64) < PySem.W.mcComb a b ∧ PySem.W.mcComb a b < 2 ^ 64 := by
  have h := mc_eq (a := a.toNat) (b := b.toNat) (by omega) (by omega)
  rw [show ((a.toNat : Nat) : Int) = a by omega, show ((b.toNat : Nat) : Int) = b by omega] at h
  rw [h]
  exact comb_lt _ _
theorem rep_flat {x : V} : ∀ n, (List.replicate n [x]).flatten = List.replicate n x
  | 0 => rfl
  | n + 1 => by rw [List.replicate_succ, List.flatten_cons, rep_flat n, List.replicate_succ]; rfl
theorem worth_abs (many b : Nat) : -(2 ^ 64) < worthM many b ∧ worthM many b < 2 ^ 64 := by
  have := comb_lt (many - 1) (b - 1)
  unfold worthM
  split <;> omega
end K14
namespace K14
open PySem PySem.Spec PyProof.Rows L2 Sq Exs
def spWb (K : PySem.W.Frag) : Sp := fun vs H Q _ => ∃ (a : Addr) (ws : List Int) (many ends : Nat), vs = [.ref a, .int many, .int ends] ∧ SqL K H a (ws.map V.int) ∧ ends ≤ 2 ∧ ends ≤ many ∧ 1 ≤ many ∧ ws.length + many ≤ 60 ∧
  ∀ H' p, Evl.Ex H H' → H p = none → H' p = some (.lst ((wbM ws many ends).map V.int)) → Q (.ref p) H'
section
variable {P : Program} {w : World} {K : PySem.W.Frag} {mg : Str → Option Value} {base : Heap}
theorem scWb : FnScope ["ways", "many", "ends", "told", "blocks", "inner", "worth", "size", "number"] ["ways", "many", "ends"] (defScope sWb) := ⟨rfl, rfl, rfl, by decide +kernel, rfl, by decide +kernel, by decide +kernel⟩
theorem ok_wb {f : Addr} {fd : FuncData} (F : FnP K "with_blocks" sWb f fd) (gL : mg "len" = none) (gM : mg "max" = none) (gR : mg "range" = none) (gE : mg "enumerate" = none) (gC : mg "comb" = some (.builtin "math.comb")) : FnOk P w K mg base CX0 1 f fd ["ways", "many", "ends"] (spWb K) := by
  refine F.ok scWb (fun vs H Q E h => ?_) (fun cdv A outer s H vs Q E hr h => ?_)
  · obtain ⟨a, ws, many, ends, rfl, _⟩ := h
    rfl
  · obtain ⟨a, ws, many, ends, rfl, hq, he2, hem, hm1, hlen, k⟩ := h
    refine ⟨_, PSs.nox (pss_cons (ps_set (i := 3) scWb.nd rfl (.inl rfl) (pe_op op_rep (pe_lst (pa_cons pe_int pa_nil)) (pe_op op_sub (pe_op op_add (pe_callB call_len_seq (by rfl) gL PySem.boot_len (pa_cons (pv 0) pa_nil)) (pv 1)) (pv 2))))
      (pss_cons (ps_for PassesOwn.never rfl (pi_range2 (by rfl) gR (pa_cons (pe_callB (call_max2 rfl) (by rfl) gM (by decide +kernel) (pa_cons pe_int (pa_cons (pv 2) pa_nil))) (pa_cons (pe_op op_add (pv 1) pe_int) pa_nil))) (pg_name (i := 4) scWb.nd rfl (.inl rfl))
        (pss_cons (ps_set (i := 5) scWb.nd rfl (.inl rfl) (pe_op op_sub (pv 4) (pv 2)))
        (pss_cons (ps_set (i := 6) scWb.nd rfl (.inl rfl) (pe_callBfun cr_comb (by rfl) gC (pa_cons (pe_op op_sub (pv 1) pe_int) (pa_cons (pe_op op_sub (pv 4) pe_int) pa_nil))))
        (Evl.pss_cut (ps_if (pt_cmpR op_eq (pe_op op_mod (pe_op op_sub (pv 1) (pv 4)) pe_int) pe_int (nomark _)) (pss_one (ps_set (i := 6) scWb.nd rfl (.inl rfl) (pe_un un_neg (pv 6)))) pss_nil)
        (pss_one (ps_for PassesOwn.never rfl (pi_enumA (by rfl) gE (pa_cons (pv 0) pa_nil)) (pg_tup rfl (pgs_cons (pg_name (i := 7) scWb.nd rfl (.inl rfl)) (pgs_cons (pg_name (i := 8) scWb.nd rfl (.inl rfl)) pgs_nil)))
          (pss_one (ps_augS (pv 3) (pe_op op_add (pv 7) (pv 5)) get_list (pe_op op_mul (pe_op op_mul (pv 8) (pv 6)) (pe_callBfun cr_comb (by rfl) gC (pa_cons (pe_op op_add (pv 7) (pv 5)) (pa_cons (pv 5) pa_nil)))) ip_add set_list))))))))
      (pss_one (ps_ret (pv 3))))), ?_⟩
    refine ⟨by decide, fun p0 h0 => ?_⟩
    have e0 : Evl.Ex H (upd H p0 (.lst [.int 0])) := Evl.Ex.new h0
    refine ⟨_, rfl, a, _, rfl, .inl (SqL.exx hq e0), _, rfl, _, _, rfl, rfl, _, rfl, _, _, rfl, rfl, p0, _, _, rfl, rfl, upd_same, ?_, ?_, ?_, fun p hp => ?_⟩
    · rw [List.length_map]
      omega
    · rw [List.length_map]
      omega
    · show 1 * ((((ws.map V.int).length : Nat) : Int) + (many : Int) - (ends : Int)).toNat ≤ sizeLine
      rw [sizeLine_eq, List.length_map]
      omega
    have hpH : H p = none := by
      rw [upd_ne (ne_of_none upd_same hp).symm] at hp
      exact hp
    have e1 : Evl.Ex H (upd (upd H p0 (.lst [.int 0])) p (.lst (List.replicate ((((ws.map V.int).length : Nat) : Int) + (many : Int) - (ends : Int)).toNat [V.int 0]).flatten)) := e0.trans (Evl.Ex.new hp)
    have g1 : upd (upd H p0 (.lst [.int 0])) p (.lst (List.replicate ((((ws.map V.int).length : Nat) : Int) + (many : Int) - (ends : Int)).toNat [V.int 0]).flatten) p = some (.lst ((wbI ws many ends 0).map V.int)) := by
      rw [upd_same, rep_flat, show ((((ws.map V.int).length : Nat) : Int) + (many : Int) - (ends : Int)).toNat = ws.length + many - ends by rw [List.length_map]; omega]
      show _ = some (HO.lst ((List.replicate (ws.length + many - ends) (0 : Int)).map V.int))
      rw [List.map_replicate]
    show tSeq _ _ _ _ (upd (upd H p0 (.lst [.int 0])) p (.lst (List.replicate ((((ws.map V.int).length : Nat) : Int) + (many : Int) - (ends : Int)).toNat [V.int 0]).flatten))
    generalize upd (upd H p0 (.lst [.int 0])) p (.lst (List.replicate ((((ws.map V.int).length : Nat) : Int) + (many : Int) - (ends : Int)).toNat [V.int 0]).flatten) = H1 at e1 g1
    refine ⟨_, rfl, _, _, rfl, _, rfl, _, _, rfl, rfl, _, _, rfl, ?_⟩
    rw [show (if (ends : Int) > 1 then (ends : Int) else 1) = ((max 1 ends : Nat) : Int) by split <;> omega]
    refine ⟨⟨by omega, by omega, by omega, by omega⟩, ?_⟩
    have hN : ((many : Int) + 1 - ((max 1 ends : Nat) : Int)).toNat = many + 1 - max 1 ends := by omega
    refine for_range (lo := ((max 1 ends : Nat) : Int)) (n := ((many : Int) + 1 - ((max 1 ends : Nat) : Int)).toNat) (fun i σ H' => ∃ v4 v5 v6 v7 v8, σ = [some (.ref a), some (.int many), some (.int ends), some (.ref p), v4, v5, v6, v7, v8] ∧ Evl.Ex H H' ∧ H' p = some (.lst ((wbI ws many ends i).map V.int)))
      ⟨none, none, none, none, none, rfl, e1, g1⟩ ?_ ?_
    · rintro i σ H2 hi ⟨v4, v5, v6, v7, v8, rfl, e2, g2⟩
      rw [hN] at hi
      generalize hb : max 1 ends + i = b
      have hb1 : 1 ≤ b := by omega
      have hb2 : b ≤ many := by omega
      have hb3 : ends ≤ b := by omega
      have hbi : ((max 1 ends : Nat) : Int) + (i : Int) = (b : Int) := by omega
      rw [hbi]
      refine ⟨_, rfl, _, rfl, _, _, rfl, rfl, ?_⟩
      refine ⟨_, rfl, _, _, rfl, rfl, _, rfl, _, _, rfl, rfl, _, _, rfl, by omega, by omega, by omega, ?_⟩
      refine ⟨fun σ H' => σ = [some (.ref a), some (.int many), some (.int ends), some (.ref p), some (.int b), some (.int ((b - ends : Nat) : Int)), some (.int (worthM many b)), v7, v8] ∧ H' = H2, ?_, ?_⟩
      · refine ⟨_, rfl, _, rfl, _, _, rfl, rfl, _, _, rfl, rfl, (show (0 : Int) < 2 by decide), rfl, _, rfl, ?_⟩
        refine ite2 (fun hz => ⟨_, rfl, _, rfl, ?_, rfl⟩) (fun hz => ⟨?_, rfl⟩)
        · have hz1 : ((many : Int) - (b : Int)) % 2 = 1 := by
            have q := of_decide_eq_true hz
            injection q
          have e : worthM many b = - PySem.W.mcComb ((many : Int) - 1) ((b : Int) - 1) := by
            unfold worthM
            rw [if_pos (by omega), show (many : Int) - 1 = ((many - 1 : Nat) : Int) by omega, show (b : Int) - 1 = ((b - 1 : Nat) : Int) by omega, mc_eq (by omega) (by omega)]
          rw [e, show ((b - ends : Nat) : Int) = (b : Int) - (ends : Int) by omega]
          rfl
        · have hz1 : ¬ ((many : Int) - (b : Int)) % 2 = 1 := fun q => hz (decide_eq_true (congrArg V.int q))
          have e : worthM many b = PySem.W.mcComb ((many : Int) - 1) ((b : Int) - 1) := by
            unfold worthM
            rw [if_neg (by omega), show (many : Int) - 1 = ((many - 1 : Nat) : Int) by omega, show (b : Int) - 1 = ((b - 1 : Nat) : Int) by omega, mc_eq (by omega) (by omega)]
          rw [e, show ((b - ends : Nat) : Int) = (b : Int) - (ends : Int) by omega]
          rfl
      · rintro σ H' ⟨rfl, rfl⟩
        refine ⟨_, rfl, false, a, _, rfl, SqL.exx hq e2, ?_⟩
        have hws : (wbI ws many ends i).length = ws.length + many - ends := wbI_len i
        refine for_it (walk_enumA (xs := ws.map V.int)) (fun j σ H' => ∃ v7 v8, σ = [some (.ref a), some (.int many), some (.int ends), some (.ref p), some (.int b), some (.int ((b - ends : Nat) : Int)), some (.int (worthM many b)), v7, v8] ∧ Evl.Ex H H' ∧ H' p = some (.lst ((inM (b - ends) (worthM many b) ws j (wbI ws many ends i)).map V.int)))
          ⟨v7, v8, rfl, e2, g2⟩ ?_ ?_ ?_
        · rintro j σ H3 _ ⟨_, _, _, e3, _⟩
          exact SqL.exx hq e3
        · rintro j y σ H3 H4 hj ⟨u7, u8, rfl, e3, g3⟩ ⟨T, u, z, rfl, hT, rfl, hu, hz⟩
          injection hu with hu
          subst hu
          rw [List.length_map] at hj
          replace hz : (ws.map V.int)[j]? = some z := hz
          rw [List.getElem?_map, List.getElem?_eq_getElem hj] at hz
          injection hz with hz
          subst hz
          have hpT : p ≠ T := ne_of_none g3 hT
          have e4 : Evl.Ex H (upd H3 T (.tup [.int (j : Nat), .int ws[j]])) := e3.trans (Evl.Ex.new hT)
          refine ⟨T, _, rfl, SqT.of upd_same, rfl, _, _, rfl, _, _, rfl, rfl, ?_⟩
          have hlen2 : (inM (b - ends) (worthM many b) ws j (wbI ws many ends i)).length = ws.length + many - ends := by rw [inM_len, wbI_len]
          have hin : j + (b - ends) < (inM (b - ends) (worthM many b) ws j (wbI ws many ends i)).length := by omega
          have g4 : upd H3 T (.tup [.int (j : Nat), .int ws[j]]) p = some (.lst ((inM (b - ends) (worthM many b) ws j (wbI ws many ends i)).map V.int)) := by
            rw [upd_ne hpT]
            exact g3
          have w1 := worth_abs many b
          have hmc : PySem.W.mcComb ((j : Int) + ((b - ends : Nat) : Int)) ((b - ends : Nat) : Int) = comb (j + (b - ends)) (b - ends) := by rw [← Int.natCast_add, mc_eq (by omega) (by omega)]
          have w2 := comb_abs (a := (j : Int) + ((b - ends : Nat) : Int)) (b := ((b - ends : Nat) : Int)) (by omega) (by omega) (by omega) (by omega)
          refine ⟨_, rfl, _, rfl, _, rfl, _, _, rfl, rfl, p, _, j + (b - ends), .int ((inM (b - ends) (worthM many b) ws j (wbI ws many ends i))[j + (b - ends)]), rfl, ?_, SqL.of g4, ?_, ?_⟩
          · show V.int ((j : Int) + ((b - ends : Nat) : Int)) = V.int ((j + (b - ends) : Nat) : Int)
            rw [Int.natCast_add]
          · rw [List.getElem?_map, List.getElem?_eq_getElem hin]
            rfl
          · refine ⟨_, rfl, _, rfl, _, _, rfl, rfl, .inr w1, _, rfl, _, rfl, _, _, rfl, rfl, _, rfl, _, _, rfl, by omega, by omega, by omega, _, _, rfl, rfl, .inr w2, _, _, rfl, rfl, ?_⟩
            refine ⟨p, _, _, j + (b - ends), rfl, rfl, g4, ?_, ?_⟩
            · rw [List.length_map, ← Int.natCast_add]
              exact Evl.ixN_nat hin
            · refine ⟨_, _, rfl, e4.mut hpH, ?_⟩
              rw [upd_same, inM_succ]
              unfold inS
              rw [← List.map_set, List.getD_eq_getElem?_getD, List.getElem?_eq_getElem hin, List.getD_eq_getElem?_getD, List.getElem?_eq_getElem hj, ← hmc]
              rfl
        · rintro σ H3 ⟨u7, u8, rfl, e3, g3⟩
          rw [List.length_map] at g3
          refine ⟨_, _, _, _, _, rfl, e3, ?_⟩
          rw [wbI_succ]
          unfold wbS
          rw [hb]
          exact g3
    · rintro σ H2 ⟨v4, v5, v6, v7, v8, rfl, e2, g2⟩
      rw [hN] at g2
      exact ⟨_, rfl, k H2 p e2 hpH g2⟩
end
end K14
namespace K14
open PySem PySem.Spec PyProof.Rows L2 Sq Exs
/-! ### count_tied -/
abbrev sCt : Stmt := top 14
def tie (fr : Bool) (n : Nat) : List Nat := if fr then 2 :: List.replicate (n - 1) 0 else List.replicate n 0
def ctS (fr : Bool) (ns : List Nat) (ws : List Int) (i : Nat) : List Int := if 0 < ns.getD i 0 then wbM ws (ns.getD i 0) ((tie fr ns.length).getD i 0) else ws
def ctW (fr : Bool) (ns : List Nat) (i : Nat) : List Int := (List.range i).foldl (ctS fr ns) [1]
def ctT (ws : List Int) (free : Nat) (s : Nat) : Int := ws.getD s 0 * comb (free + s) free
def ctM (fr : Bool) (ns : List Nat) (free : Nat) : Int :=
  if fr = true ∧ ns.sum = ns.getD 0 0 ∧ free = 0 then 0 else ((List.range (ctW fr ns ns.length).length).map (ctT (ctW fr ns ns.length) free)).sum
theorem ctW_succ {fr : Bool} {ns : List Nat} {i : Nat} : ctW fr ns (i + 1) = ctS fr ns (ctW fr ns i) i := by
  unfold ctW
  rw [List.range_succ, List.foldl_append]
  rfl
theorem tie_len {fr : Bool} {n : Nat} (h : fr = true → 1 ≤ n) : (tie fr n).length = n := by
  unfold tie
  cases fr with
  | false => simp
  | true =>
    have := h rfl
    simp
    omega
theorem take_sum {ns : List Nat} {i : Nat} (h : i < ns.length) : (ns.take (i + 1)).sum = (ns.take i).sum + ns[i] := by
  rw [List.take_succ_eq_append_getElem h, List.sum_append]
  simp
theorem take_le (ns : List Nat) (i : Nat) : (ns.take i).sum ≤ ns.sum := by
  have h := congrArg List.sum (List.take_append_drop i ns)
  rw [List.sum_append] at h
  omega
theorem tie_get {fr : Bool} {ns : List Nat} {i : Nat} (h : fr = true → 2 ≤ ns.getD 0 0) (hp : 0 < ns.getD i 0) : (tie fr ns.length).getD i 0 ≤ 2 ∧ (tie fr ns.length).getD i 0 ≤ ns.getD i 0 := by
  cases fr with
  | false =>
    have e : (tie false ns.length).getD i 0 = 0 := by
      unfold tie
      rw [if_neg (by decide), List.getD_eq_getElem?_getD, List.getElem?_replicate]
      split <;> rfl
    omega
  | true =>
    have h2 := h rfl
    cases i with
    | zero =>
      have e : (tie true ns.length).getD 0 0 = 2 := rfl
      omega
    | succ i =>
      have e : (tie true ns.length).getD (i + 1) 0 = 0 := by
        unfold tie
        rw [if_pos rfl, List.getD_cons_succ, List.getD_eq_getElem?_getD, List.getElem?_replicate]
        split <;> rfl
      omega
theorem ctW_len {fr : Bool} {ns : List Nat} : ∀ i, i ≤ ns.length → (ctW fr ns i).length ≤ 1 + (ns.take i).sum
  | 0, _ => by
    unfold ctW
    simp
  | i + 1, hi => by
    have ih := ctW_len (fr := fr) (ns := ns) i (by omega)
    rw [ctW_succ, take_sum (by omega : i < ns.length)]
    have e : ns.getD i 0 = ns[i] := by
      rw [List.getD_eq_getElem?_getD, List.getElem?_eq_getElem (by omega)]
      rfl
    unfold ctS
    split
    · rw [wbM_len]
      omega
    · omega
theorem inV_rep (n : Nat) : inV (.int 2) ((List.replicate n 0).map fun k : Nat => V.int k) = false := by
  unfold inV
  rw [List.map_replicate]
  induction n with
  | zero => rfl
  | succ n ih =>
    rw [List.replicate_succ, List.any_cons, ih]
    rfl
theorem inV_tie {fr : Bool} {n : Nat} : inV (.int 2) ((tie fr n).map fun k : Nat => V.int k) = fr := by
  cases fr with
  | false =>
    unfold tie
    rw [if_neg (by decide)]
    exact inV_rep n
  | true => rfl
theorem flat_nats (ns : List Nat) : (ns.map fun k : Nat => V.int k).all flatV = true := by
  rw [List.all_map]
  exact List.all_eq_true.mpr fun _ _ => rfl
abbrev natV (ns : List Nat) : List V := ns.map fun k : Nat => V.int k
theorem natV_int (ns : List Nat) : natV ns = (ns.map fun k : Nat => (k : Int)).map V.int := by rw [List.map_map]; rfl
theorem sum_cast (ns : List Nat) : (ns.map fun k : Nat => (k : Int)).sum = ((ns.sum : Nat) : Int) := by
  induction ns with
  | nil => rfl
  | cons a r ih => rw [List.map_cons, List.sum_cons, List.sum_cons, ih, Int.natCast_add]
def spCt (K : PySem.W.Frag) : Sp := fun vs H Q _ => ∃ (t : Bool) (a b : Addr) (ns : List Nat) (fr : Bool) (free : Nat), vs = [.ref a, .ref b, .int free] ∧ SqK K H t a (natV ns) ∧ SqL K H b (natV (tie fr ns.length)) ∧
  (fr = true → t = false ∧ 2 ≤ ns.getD 0 0) ∧ ns.length ≤ 100 ∧ ns.sum + free ≤ 50 ∧ ∀ H', Evl.Ex H H' → Q (.int (ctM fr ns free)) H'
section
variable {P : Program} {w : World} {K : PySem.W.Frag} {mg : Str → Option Value} {base : Heap}
theorem scCt : FnScope ["signs", "tied", "free", "ways", "many", "ends", "size", "number"] ["signs", "tied", "free"] (defScope sCt) := ⟨rfl, rfl, rfl, by decide +kernel, rfl, by decide +kernel, by decide +kernel⟩
theorem ok_ct {f fW : Addr} {fd fdW : FuncData} (F : FnP K "count_tied" sCt f fd) (FW : FnP K "with_blocks" sWb fW fdW) (gL : mg "len" = none) (gM : mg "max" = none) (gR : mg "range" = none) (gE : mg "enumerate" = none) (gZ : mg "zip" = none) (gS : mg "sum" = none) (gC : mg "comb" = some (.builtin "math.comb")) (gW : mg "with_blocks" = some (.ref fW)) :
    FnOk P w K mg base CX0 2 f fd ["signs", "tied", "free"] (spCt K) := by
  have GW : FnOk P w K mg base CX0 1 fW fdW ["ways", "many", "ends"] (spWb K) := ok_wb FW gL gM gR gE gC
  have bW : L2.Binds K fdW ["ways", "many", "ends"] [] := FW.bindsN fun _ _ _ _ _ _ us hl => match us, hl with | [_, _, _], _ => rfl
  refine F.ok scCt (fun vs H Q E h => ?_) (fun cdv A outer s H vs Q E hr h => ?_)
  · obtain ⟨t, a, b, ns, fr, free, rfl, _⟩ := h
    rfl
  · obtain ⟨t, a, b, ns, fr, free, rfl, hq, hb, hfr, hl, hsum, k⟩ := h
    refine' ⟨_, PSs.nox (Evl.pss_cut (ps_if (PW.pt (pw_and (pt_cmpR op_in_seq pe_int (pv 1) (by rfl)) (pw_and (pt_cmpR op_eq (pe_callB (cr_sumK rfl) (by rfl) gS (by decide +kernel) (pa_cons (pv 0) pa_nil)) (pe_ix ix_list (pv 0) (pe_bm PySem.F.plainAttrs_list PySem.F.slot_list_index PySem.F.type_list_index mt_index (pv 1) (pa_cons pe_int pa_nil)) (fun _ _ => rfl)) (nomark _))
          (pw_and1 (pt_cmpR op_eq (pv 2) pe_int (nomark _)))))) (pss_one (ps_ret pe_int)) pss_nil)
      (pss_cons (ps_set (i := 3) scCt.nd rfl (.inl rfl) (pe_lst (pa_cons pe_int pa_nil)))
      (pss_cons (ps_for PassesOwn.never rfl (pi_zip2 (by rfl) gZ (pa_cons (pv 0) (pa_cons (pv 1) pa_nil))) (pg_tup rfl (pgs_cons (pg_name (i := 4) scCt.nd rfl (.inl rfl)) (pgs_cons (pg_name (i := 5) scCt.nd rfl (.inl rfl)) pgs_nil)))
        (pss_one (ps_if (pt_cmpR op_gt (pv 4) pe_int (nomark _)) (pss_one (ps_set (i := 3) scCt.nd rfl (.inl rfl) (pe_call GW hr rfl gW FW.kp bW .nil pass0 (pa_cons (pv 3) (pa_cons (pv 4) (pa_cons (pv 5) pa_nil)))))) pss_nil)))
      (pss_one (ps_ret (pe_callB (cr_sumK rfl) (by rfl) gS (by decide +kernel) (pa_cons ?lc pa_nil))))))), ?rd⟩
    case lc =>
      refine pe_lc (own := [("size", 6), ("number", 7)]) (g := gTup K 2 (gCons (gName 6) (gCons (gName 7) gNil))) (tt := tYes) (te := tOp (rI CMul fun i j => V.int (i * j)) (tVar 7) (tCB rComb (tCons (tOp (rI0 fun i j => V.int (i + j)) (tVar 2) (tVar 6)) (tCons (tVar 2) tNil)))) rfl scCt.nd (pi_enumA (by rfl) gE (pa_cons (pv 3) pa_nil))
        (blkOk_by (own := [("size", 6), ("number", 7)]) (N := ["signs", "tied", "free", "ways", "many", "ends", "size", "number"]) (sc := defScope sCt) (by decide +kernel)) (fun _ _ _ _ _ => pg_tup rfl (pgs_cons (pg_name (i := 6) scCt.nd rfl (.inl rfl)) (pgs_cons (pg_name (i := 7) scCt.nd rfl (.inl rfl)) pgs_nil))) (fun _ _ _ _ _ => pts_nil) ?_
      intro _ _ _ _ _
      exact pe_op op_mul (pv 7) (pe_callBfun cr_comb (by rfl) gC (pa_cons (pe_op op_add (pv 2) (pv 6)) (pa_cons (pv 2) pa_nil)))
    refine ⟨fun σ H' => σ = [some (.ref a), some (.ref b), some (.int free), none, none, none, none, none] ∧ H' = H ∧ ¬ (fr = true ∧ ns.sum = ns.getD 0 0 ∧ free = 0), ?_, ?_⟩
    · refine ⟨_, rfl, b, _, rfl, .inl hb, rfl, flat_nats _, fr, congrArg V.bl inV_tie, ?_⟩
      cases fr with
      | false => exact iteF ⟨rfl, rfl, fun z => by cases z.1⟩
      | true =>
        obtain ⟨rfl, h2⟩ := hfr rfl
        have hs0 : atI (natV ns) 0 = some (V.int ((ns.getD 0 0 : Nat) : Int)) := by
          cases ns with
          | nil => exact absurd h2 (by decide)
          | cons x r => exact atI_nat (j := 0) (by simp)
        refine iteT ⟨_, rfl, false, a, ns.map (fun k : Nat => (k : Int)), rfl, natV_int ns ▸ hq, _, rfl, _, rfl, .inl ⟨rfl, _, hb⟩, b, _, .int 2, 0, .int 2, rfl, rfl, hb, rfl, flat_nats _, rfl, rfl, fun m z hm => absurd hm (Nat.not_lt_zero m), a, _, 0, _, rfl, rfl, hq, hs0, rfl, _, rfl, ?_⟩
        refine ite2 (fun hz => ⟨_, rfl, rfl, _, rfl, ?_⟩) (fun hz => ⟨rfl, rfl, fun z => hz (decide_eq_true ?_)⟩)
        · have hz1 : ns.sum = ns.getD 0 0 := by
            have q := of_decide_eq_true hz
            injection q with q
            rw [sum_cast] at q
            exact Int.ofNat.inj q
          refine ite2 (fun hf => ?_) (fun hf => ⟨rfl, rfl, fun z => hf (decide_eq_true (by rw [z.2.2]; rfl))⟩)
          have hf1 : free = 0 := by
            have q := of_decide_eq_true hf
            injection q with q
            exact Int.ofNat.inj q
          have e : ctM true ns free = 0 := by
            unfold ctM
            rw [if_pos ⟨rfl, hz1, hf1⟩]
          rw [e] at k
          exact k H (Evl.Ex.refl H)
        · rw [sum_cast, z.2.1]
    · rintro σ H' ⟨rfl, rfl, hno⟩
      have hct : ctM fr ns free = ((List.range (ctW fr ns ns.length).length).map (ctT (ctW fr ns ns.length) free)).sum := by
        unfold ctM
        rw [if_neg hno]
      refine ⟨by decide, fun p0 h0 => ?_⟩
      have e0 : Evl.Ex H' (upd H' p0 (.lst [.int 1])) := Evl.Ex.new h0
      have hln : (tie fr ns.length).length = ns.length := tie_len fun z => by
        have := (hfr z).2
        cases ns with
        | nil => exact absurd this (by decide)
        | cons x r => simp
      refine ⟨_, rfl, _, rfl, t, false, a, b, _, _, rfl, SqK.ex hq e0, SqL.exx hb e0, ?_⟩
      refine for_it (walk_zip2 (xs := natV ns) (ys := natV (tie fr ns.length)) (n := ns.length) (by simp [hln])) (fun i σ H2 => ∃ q v4 v5, σ = [some (.ref a), some (.ref b), some (.int free), some (.ref q), v4, v5, none, none] ∧ Evl.Ex H' H2 ∧ H2 q = some (.lst ((ctW fr ns i).map V.int)))
        ⟨p0, none, none, rfl, e0, upd_same⟩ ?_ ?_ ?_
      · rintro i σ H2 _ ⟨_, _, _, _, e2, _⟩
        exact ⟨SqK.ex hq e2, SqL.exx hb e2⟩
      · rintro i y σ H2 H3 hi ⟨q, v4, v5, rfl, e2, g2⟩ ⟨T, u, z, rfl, hT, rfl, hu, hz⟩
        replace hu : (natV ns)[i]? = some u := hu
        replace hz : (natV (tie fr ns.length))[i]? = some z := hz
        rw [List.getElem?_map, List.getElem?_eq_getElem hi] at hu
        injection hu with hu
        subst hu
        rw [List.getElem?_map, List.getElem?_eq_getElem (by omega)] at hz
        injection hz with hz
        subst hz
        have e3 : Evl.Ex H' (upd H2 T (.tup [.int ((ns[i] : Nat) : Int), .int (((tie fr ns.length)[i]'(by omega) : Nat) : Int)])) := e2.trans (Evl.Ex.new hT)
        have g3 : upd H2 T (.tup [.int ((ns[i] : Nat) : Int), .int (((tie fr ns.length)[i]'(by omega) : Nat) : Int)]) q = some (.lst ((ctW fr ns i).map V.int)) := by
          rw [upd_ne (ne_of_none g2 hT)]
          exact g2
        have en : ns.getD i 0 = ns[i] := by
          rw [List.getD_eq_getElem?_getD, List.getElem?_eq_getElem hi]
          rfl
        have et : (tie fr ns.length).getD i 0 = (tie fr ns.length)[i]'(by omega) := by
          rw [List.getD_eq_getElem?_getD, List.getElem?_eq_getElem (by omega)]
          rfl
        refine ⟨T, _, rfl, SqT.of upd_same, rfl, _, _, rfl, _, _, rfl, rfl, ?_⟩
        refine ⟨_, rfl, _, _, rfl, rfl, _, rfl, ?_⟩
        refine ite2 (fun hp => ?_) (fun hp => ?_)
        · have hpos : 0 < ns[i] := by
            have := of_decide_eq_true hp
            omega
          have ht := tie_get (fr := fr) (ns := ns) (i := i) (fun z => (hfr z).2) (by rw [en]; exact hpos)
          rw [en, et] at ht
          have hwl := ctW_len (fr := fr) (ns := ns) i (by omega)
          have hts := take_sum hi
          have htl := take_le ns (i + 1)
          refine ⟨_, rfl, _, rfl, _, rfl, q, ctW fr ns i, ns[i], (tie fr ns.length)[i]'(by omega), rfl, SqL.of g3, ht.1, ht.2, hpos, by omega, fun H4 p e4 hp4 g4 => ⟨p, _, _, rfl, e3.trans e4, ?_⟩⟩
          rw [g4, ctW_succ]
          unfold ctS
          rw [en, et, if_pos hpos]
        · have hpos : ¬ 0 < ns[i] := fun z => hp (decide_eq_true (by omega))
          refine ⟨q, _, _, rfl, e3, ?_⟩
          rw [g3, ctW_succ]
          unfold ctS
          rw [en, if_neg hpos]
      · rintro σ H2 ⟨q, v4, v5, rfl, e2, g2⟩
        have hwl := ctW_len (fr := fr) (ns := ns) ns.length (Nat.le_refl _)
        rw [List.take_length] at hwl
        generalize hws : ctW fr ns ns.length = ws at g2 hwl hct
        refine ⟨_, rfl, false, q, _, rfl, SqL.of g2, fun D hD => ?_⟩
        refine lc_it (walk_enumA (xs := ws.map V.int)) (fun i H3 => Evl.Ex H2 H3 ∧ H3 D = some (.lst (((List.range i).map (ctT ws free)).map V.int))) ⟨Evl.Ex.new hD, upd_same⟩ ?_ ?_ ?_
        · rintro i H3 _ ⟨e3, _⟩
          exact SqL.exx (SqL.of g2) e3
        · rintro i y H3 H4 hi ⟨e3, g3⟩ ⟨T, u, z, rfl, hT, rfl, hu, hz⟩
          injection hu with hu
          subst hu
          replace hz : (ws.map V.int)[i]? = some z := hz
          rw [List.length_map] at hi
          rw [List.getElem?_map, List.getElem?_eq_getElem hi] at hz
          injection hz with hz
          subst hz
          have hDT : D ≠ T := ne_of_none g3 hT
          have w2 := comb_abs (a := (free : Int) + (i : Int)) (b := (free : Int)) (by omega) (by omega) (by omega) (by omega)
          refine ⟨T, _, rfl, SqT.of upd_same, rfl, _, _, rfl, _, _, rfl, rfl, rfl, ?_⟩
          refine ⟨_, rfl, _, rfl, _, rfl, _, _, rfl, rfl, _, rfl, _, _, rfl, by omega, by omega, by omega, _, _, rfl, rfl, .inr w2, ?_⟩
          refine ⟨_, by rw [upd_ne hDT]; exact g3, ?_, ?_, ?_⟩
          · rw [sizeLine_eq]
            simp
            omega
          · exact (e3.trans (Evl.Ex.new hT)).mut hD
          · rw [upd_same, List.range_succ, List.map_append, List.map_append]
            show some (HO.lst (_ ++ [V.int (ws[i] * PySem.W.mcComb ((free : Int) + (i : Int)) free)])) = some (HO.lst (_ ++ [V.int (ctT ws free i)]))
            unfold ctT
            rw [List.getD_eq_getElem?_getD, List.getElem?_eq_getElem hi, ← Int.natCast_add, mc_eq (by omega) (by omega)]
            rfl
        · rintro H3 ⟨e3, g3⟩
          rw [List.length_map] at g3
          refine ⟨false, D, _, rfl, SqL.of g3, ?_⟩
          have := k H3 (e2.trans e3)
          rw [hct] at this
          exact this
end
end K14
namespace K14
open PySem PySem.Spec PyProof.Rows L2 Sq Exs
/-! ### count_words, count_framed -/
abbrev sCw : Stmt := top 12
abbrev sCf : Stmt := top 13
def cfM (ns : List Nat) (free : Nat) : Int := if ns.getD 0 0 = 0 then 0 else ctM true ((ns.getD 0 0 + 1) :: ns.tail) free
/-- both: m the mirror -/
def spCnt (K : PySem.W.Frag) (C1 C2 : Addr) (m : List Nat → Nat → Int) : Sp := fun vs H Q E => ∃ (x y : V) (n ty : String) (xs : List V), vs = [x, y] ∧ ThX K H x n xs ∧ Pl H y ty ∧
  AskD C1 C2 H (fnnV (lstB n) xs) y E (∃ (t : Bool) (a : Addr) (ns : List Nat) (free : Nat), x = .ref a ∧ y = .int free ∧ SqK K H t a (natV ns) ∧ ns.length ≤ 99 ∧ ns.sum + free ≤ 49 ∧ ∀ H', Evl.Ex H H' → Q (.int (m ns free)) H')
theorem cutV_tail {xs : List V} (h : xs ≠ []) : cutV xs (some 1) none = xs.tail := by
  cases xs with
  | nil => exact absurd rfl h
  | cons a r =>
    unfold cutV
    have e1 : HT.sIx (a :: r).length 0 (some 1) = 1 := by
      unfold HT.sIx
      simp
    have e2 : HT.sIx (a :: r).length (a :: r).length none = (a :: r).length := rfl
    rw [e1, e2]
    simp
section
variable {P : Program} {w : World} {K : PySem.W.Frag} {mg : Str → Option Value} {base : Heap}
theorem scCw : FnScope ["signs", "free"] ["signs", "free"] (defScope sCw) := ⟨rfl, rfl, rfl, by decide +kernel, rfl, by decide +kernel, by decide +kernel⟩
theorem ok_cw {f fA fT C1 C2 : Addr} {fd fdA fdT : FuncData} (F : FnP K "count_words" sCw f fd) (GA : FnOk P w K mg base (L2.CX P w) 4 fA fdA ["signs", "free"] (spAsk K C1 C2)) (bA : L2.Binds K fdA ["signs", "free"] []) (kA : PySem.W.keepIn K (.ref fA) = true) (gA : mg "ask_words" = some (.ref fA))
    (GT : FnOk P w K mg base CX0 2 fT fdT ["signs", "tied", "free"] (spCt K)) (bT : L2.Binds K fdT ["signs", "tied", "free"] []) (kT : PySem.W.keepIn K (.ref fT) = true) (gT : mg "count_tied" = some (.ref fT)) (gL : mg "len" = none) :
    FnOk P w K mg base (L2.CX P w) 5 f fd ["signs", "free"] (spCnt K C1 C2 (ctM false)) := by
  refine F.ok scCw (fun vs H Q E h => ?_) (fun cdv A outer s H vs Q E hr h => ?_)
  · obtain ⟨x, y, n, m, xs, rfl, _⟩ := h
    rfl
  · obtain ⟨x, y, n, ty, xs, rfl, hx, hy, k1, k2, k3⟩ := h
    refine ⟨_, pss_cons (ps_expr (pe_callS GA hr rfl gA kA bA (fun σ => passAt (takes_of rfl rfl rfl rfl) σ) (pa_cons (pv 0) (pa_cons (pv 1) pa_nil))))
      (pss_one (ps_ret (pe_call GT (hr.mono (by decide)) rfl gT kT bT .nil pass0 (pa_cons (pv 0) (pa_cons (pe_op op_rep (pe_lst (pa_cons pe_int pa_nil)) (pe_callB call_len_seq (by rfl) gL PySem.boot_len (pa_cons (pv 0) pa_nil))) (pa_cons (pv 1) pa_nil)))))), ?_⟩
    refine ⟨_, rfl, _, rfl, x, y, n, ty, xs, rfl, hx, hy, k1, k2, fun hn hf H1 e1 => ?_⟩
    obtain ⟨t, a, ns, free, rfl, rfl, hq, hl, hsum, k⟩ := k3 hn hf
    refine ⟨_, rfl, by decide, fun p0 h0 => ?_⟩
    have e2 : Evl.Ex H (upd H1 p0 (.lst [.int 0])) := e1.trans (Evl.Ex.new h0)
    have hq2 := SqK.ex hq e2
    have hq3 : SqL K (upd H1 p0 (.lst [.int 0])) a (natV ns) ∨ SqT K (upd H1 p0 (.lst [.int 0])) a (natV ns) := by
      cases t with
      | true => exact .inr hq2
      | false => exact .inl hq2
    refine ⟨_, rfl, a, _, rfl, hq3, p0, _, _, rfl, rfl, upd_same, ?_, ?_, ?_, fun p hp => ?_⟩
    · rw [List.length_map]
      omega
    · rw [List.length_map]
      omega
    · show 1 * (((natV ns).length : Nat) : Int).toNat ≤ sizeLine
      rw [sizeLine_eq, List.length_map]
      omega
    have e3 : Evl.Ex H (upd (upd H1 p0 (.lst [.int 0])) p (.lst (List.replicate (((natV ns).length : Nat) : Int).toNat [V.int 0]).flatten)) := e2.trans (Evl.Ex.new hp)
    have g3 : upd (upd H1 p0 (.lst [.int 0])) p (.lst (List.replicate (((natV ns).length : Nat) : Int).toNat [V.int 0]).flatten) p = some (.lst (natV (tie false ns.length))) := by
      rw [upd_same, rep_flat, show (((natV ns).length : Nat) : Int).toNat = ns.length by rw [List.length_map]; omega]
      unfold tie natV
      rw [if_neg (by decide), List.map_replicate]
      rfl
    refine ⟨_, rfl, t, a, p, ns, false, free, rfl, SqK.ex hq e3, SqL.of g3, (fun z => by cases z), by omega, by omega, fun H4 e4 => ?_⟩
    exact k H4 (e3.trans e4)
theorem scCf : FnScope ["signs", "free"] ["signs", "free"] (defScope sCf) := ⟨rfl, rfl, rfl, by decide +kernel, rfl, by decide +kernel, by decide +kernel⟩
theorem ok_cf {f fA fT C1 C2 : Addr} {fd fdA fdT : FuncData} (F : FnP K "count_framed" sCf f fd) (GA : FnOk P w K mg base (L2.CX P w) 4 fA fdA ["signs", "free"] (spAsk K C1 C2)) (bA : L2.Binds K fdA ["signs", "free"] []) (kA : PySem.W.keepIn K (.ref fA) = true) (gA : mg "ask_words" = some (.ref fA))
    (GT : FnOk P w K mg base CX0 2 fT fdT ["signs", "tied", "free"] (spCt K)) (bT : L2.Binds K fdT ["signs", "tied", "free"] []) (kT : PySem.W.keepIn K (.ref fT) = true) (gT : mg "count_tied" = some (.ref fT)) (gL : mg "len" = none) :
    FnOk P w K mg base (L2.CX P w) 5 f fd ["signs", "free"] (spCnt K C1 C2 cfM) := by
  refine F.ok scCf (fun vs H Q E h => ?_) (fun cdv A outer s H vs Q E hr h => ?_)
  · obtain ⟨x, y, n, m, xs, rfl, _⟩ := h
    rfl
  · obtain ⟨x, y, n, ty, xs, rfl, hx, hy, k1, k2, k3⟩ := h
    refine ⟨_, pss_cons (ps_expr (pe_callS GA hr rfl gA kA bA (fun σ => passAt (takes_of rfl rfl rfl rfl) σ) (pa_cons (pv 0) (pa_cons (pv 1) pa_nil))))
      (Evl.pss_cut (ps_if (PW.pt (pw_or (pt_cmpR op_eq (pe_callB call_len_seq (by rfl) gL PySem.boot_len (pa_cons (pv 0) pa_nil)) pe_int (nomark _)) (pw_or1 (pt_cmpR op_eq (pe_ix (ix_list.or ix_tup) (pv 0) pe_int (fun _ _ => rfl)) pe_int (nomark _))))) (pss_one (ps_ret pe_int)) pss_nil)
      (pss_one (ps_ret (pe_call GT (hr.mono (by decide)) rfl gT kT bT .nil pass0 (pa_cons (pe_lst (pa_cons (pe_op op_add (pe_ix (ix_list.or ix_tup) (pv 0) pe_int (fun _ _ => rfl)) pe_int) (StX.pa_star (pe_slice (sl_list.or sl_tup) (pv 0) (po_some pe_int) po_none) pa_nil)))
        (pa_cons (pe_op op_cat (pe_lst (pa_cons pe_int pa_nil)) (pe_op op_rep (pe_lst (pa_cons pe_int pa_nil)) (pe_op op_sub (pe_callB call_len_seq (by rfl) gL PySem.boot_len (pa_cons (pv 0) pa_nil)) pe_int))) (pa_cons (pv 1) pa_nil))))))), ?_⟩
    refine ⟨_, rfl, _, rfl, x, y, n, ty, xs, rfl, hx, hy, k1, k2, fun hn hf H1 e1 => ?_⟩
    obtain ⟨t, a, ns, free, rfl, rfl, hq, hl, hsum, k⟩ := k3 hn hf
    have both : ∀ {H2 : Hp} {zs : List V}, SqK K H2 t a zs → SqL K H2 a zs ∨ SqT K H2 a zs := fun {H2 zs} q => by
      cases t with
      | true => exact .inr q
      | false => exact .inl q
    have ixr : ∀ {H2 : Hp} {Qx : VK}, ns ≠ [] → Evl.Ex H H2 → Qx (.int ((ns.getD 0 0 : Nat) : Int)) H2 → rIxL K (.ref a) (.int 0) H2 Qx ∨ rIxT K (.ref a) (.int 0) H2 Qx := fun {H2 Qx} hne e q => by
      have hs0 : atI (natV ns) 0 = some (V.int ((ns.getD 0 0 : Nat) : Int)) := by
        cases ns with
        | nil => exact absurd rfl hne
        | cons x r => exact atI_nat (j := 0) (by simp)
      have hq2 := SqK.ex hq e
      cases t with
      | true => exact .inr ⟨a, _, 0, _, rfl, rfl, hq2, hs0, q⟩
      | false => exact .inl ⟨a, _, 0, _, rfl, rfl, hq2, hs0, q⟩
    refine ⟨fun σ H' => σ = [some (.ref a), some (.int free)] ∧ H' = H1 ∧ ns.getD 0 0 ≠ 0, ?_, ?_⟩
    · have ret : ns.getD 0 0 = 0 → Q (.int 0) H1 := fun z => by
        have e : cfM ns free = 0 := by
          unfold cfM
          rw [if_pos z]
        rw [e] at k
        exact k H1 e1
      refine ⟨_, rfl, a, _, rfl, both (SqK.ex hq e1), rfl, _, rfl, ?_⟩
      refine ite2 (fun hz => ret ?_) (fun hz => ⟨_, rfl, ixr ?_ e1 ⟨rfl, _, rfl, ?_⟩⟩)
      · have q := of_decide_eq_true hz
        injection q with q
        rw [List.length_map] at q
        have : ns = [] := List.length_eq_zero_iff.mp (Int.ofNat.inj q)
        rw [this]
        rfl
      · rintro rfl
        exact hz rfl
      · refine ite2 (fun hz => ret ?_) (fun hz => ⟨rfl, rfl, fun z => hz (decide_eq_true (by rw [z]; rfl))⟩)
        have q := of_decide_eq_true hz
        injection q with q
        exact Int.ofNat.inj q
    · rintro σ H' ⟨rfl, rfl, h0⟩
      have hne : ns ≠ [] := by
        rintro rfl
        exact h0 rfl
      refine ⟨_, rfl, ixr hne e1 ⟨_, _, rfl, rfl, ?_⟩⟩
      have slr : ∀ {H2 : Hp} {Qx : VK}, Evl.Ex H H2 → (∀ p o, H2 p = none → (o = .lst (natV ns.tail) ∨ o = .tup (natV ns.tail)) → Qx (.ref p) (upd H2 p o)) → rSlL K (.ref a) (some 1) none H2 Qx ∨ rSlT K (.ref a) (some 1) none H2 Qx := fun {H2 Qx} e q => by
        have hq2 := SqK.ex hq e
        have hne2 : natV ns ≠ [] := fun z => hne (List.map_eq_nil_iff.mp z)
        have ec : cutV (natV ns) (some 1) none = natV ns.tail := by
          rw [cutV_tail hne2]
          cases ns <;> rfl
        cases t with
        | true =>
          refine .inr ⟨a, _, rfl, hq2, ?_, fun p hp => ?_⟩
          · cases ns with
            | nil => exact absurd rfl hne
            | cons x r =>
              rintro ⟨z, _⟩
              rw [show (some (1 : Int)) = some ((1 : Nat) : Int) from rfl, HT.sIx_nat] at z
              simp at z
          · rw [ec]
            exact q p _ hp (.inr rfl)
        | false =>
          refine .inl ⟨a, _, rfl, hq2, fun p hp => ?_⟩
          rw [ec]
          exact q p _ hp (.inl rfl)
      refine ⟨_, rfl, _, rfl, slr e1 fun p o hp ho => ?_⟩
      have e2 : Evl.Ex H (upd H' p o) := e1.trans (Evl.Ex.new hp)
      have hs2 : SqT K (upd H' p o) p (natV ns.tail) ∨ SqL K (upd H' p o) p (natV ns.tail) := by
        rcases ho with rfl | rfl
        · exact .inr (SqL.of upd_same)
        · exact .inl (SqT.of upd_same)
      generalize upd H' p o = H2 at e2 hs2
      refine ⟨p, _, rfl, hs2, ?_, fun l hl2 => ?_⟩
      · show ([V.int (((ns.getD 0 0 : Nat) : Int) + 1)] ++ (natV ns.tail ++ [])).length ≤ sizeLine
        rw [sizeLine_eq]
        simp
        omega
      have el : ([V.int (((ns.getD 0 0 : Nat) : Int) + 1)] ++ (natV ns.tail ++ [])) = natV ((ns.getD 0 0 + 1) :: ns.tail) := by
        rw [List.append_nil]
        rfl
      have e3 : Evl.Ex H (upd H2 l (.lst ([V.int (((ns.getD 0 0 : Nat) : Int) + 1)] ++ (natV ns.tail ++ [])))) := e2.trans (Evl.Ex.new hl2)
      have g3 : upd H2 l (.lst ([V.int (((ns.getD 0 0 : Nat) : Int) + 1)] ++ (natV ns.tail ++ []))) l = some (.lst (natV ((ns.getD 0 0 + 1) :: ns.tail))) := by rw [upd_same, el]
      refine ⟨by decide, fun p2 h2 => ⟨by decide, fun p3 h3 => ?_⟩⟩
      have e5 := (Evl.Ex.new (o := .lst [.int 2]) h2).trans (Evl.Ex.new (o := .lst [.int 0]) h3)
      have g5 := (Evl.Ex.new (o := .lst [.int 0]) h3) p2 (.lst [.int 2]) upd_same
      have hlen : (((natV ns).length : Nat) : Int) = (ns.length : Int) := by rw [List.length_map]
      have hpos : 1 ≤ ns.length := by
        cases ns with
        | nil => exact absurd rfl hne
        | cons x r => simp
      refine ⟨_, rfl, a, _, rfl, both (SqK.ex hq (e3.trans e5)), _, _, rfl, rfl, p3, _, _, rfl, rfl, upd_same, ?_, ?_, ?_, fun p4 h4 => ?_⟩
      · rw [hlen]
        omega
      · rw [hlen]
        omega
      · show 1 * ((((natV ns).length : Nat) : Int) - 1).toNat ≤ sizeLine
        rw [sizeLine_eq, hlen]
        omega
      have er : (List.replicate ((((natV ns).length : Nat) : Int) - 1).toNat [V.int 0]).flatten = natV (List.replicate (ns.length - 1) 0) := by
        rw [hlen, rep_flat, show ((ns.length : Int) - 1).toNat = ns.length - 1 by omega]
        unfold natV
        rw [List.map_replicate]
        rfl
      have e6 := e5.trans (Evl.Ex.new (o := .lst (List.replicate ((((natV ns).length : Nat) : Int) - 1).toNat [V.int 0]).flatten) h4)
      have g7 := (Evl.Ex.new (o := .lst (List.replicate ((((natV ns).length : Nat) : Int) - 1).toNat [V.int 0]).flatten) h4) p2 _ g5
      refine ⟨p2, p4, _, _, rfl, rfl, g7, upd_same, ?_, fun p5 h5 => ?_⟩
      · rw [er, sizeLine_eq]
        simp
        omega
      have e7 := e6.trans (Evl.Ex.new (o := .lst ([V.int 2] ++ (List.replicate ((((natV ns).length : Nat) : Int) - 1).toNat [V.int 0]).flatten)) h5)
      refine ⟨_, rfl, false, l, p5, (ns.getD 0 0 + 1) :: ns.tail, true, free, rfl, SqL.of (e7 _ _ g3), SqL.of ?_, fun _ => ⟨rfl, ?_⟩, ?_, ?_, fun H5 e8 => ?_⟩
      · rw [upd_same, er]
        unfold tie
        rw [if_pos rfl]
        simp
      · show 2 ≤ ns.getD 0 0 + 1
        omega
      · simp
        omega
      · cases ns with
        | nil => exact absurd rfl hne
        | cons x r =>
          simp at hsum ⊢
          omega
      · have e : cfM ns free = ctM true ((ns.getD 0 0 + 1) :: ns.tail) free := by
          unfold cfM
          rw [if_neg h0]
        rw [e] at k
        exact k H5 ((e3.trans e7).trans e8)
end
end K14
namespace K14
open PySem PySem.Spec PyProof.Rows L2 Exs
/-! ### _law_met: what a call told, or how it was refused -/
abbrev sMet : Stmt := top 24
/-- the way of an error into one clause: its word, its field -/
def Told1 (C : Addr) (w f : Str) (Q : VK) (cls : Value) (d : Option Addr) (H : Hp) : Prop := cls = .ref C ∧ ∃ (dd : Addr) (fs : List (Str × V)) (v : V), d = some dd ∧ H dd = some (.xd fs) ∧ fs.lookup f = some v ∧ ∀ p, H p = none → Q (.ref p) (upd H p (.tup [.str w, v]))
def MetE (K : PySem.W.Frag) (Q : VK) : List (Addr × Str × Str) → XK
  | [] => fun _ _ _ => False
  | (C, w, f) :: r => fun cls d H => ∃ b, PySem.W.exmOne K cls (.ref C) = some b ∧ (b = true → Told1 C w f Q cls d H) ∧ (b = false → MetE K Q r cls d H)
def TMet (K : PySem.W.Frag) (cs : List (Addr × Str × Str)) : (XK → Hp → VK → Prop) → Hp → VK → Prop := fun tl H Q =>
  tl (MetE K Q cs) H fun v H1 => 2 ≤ sizeLine ∧ ∀ p, H1 p = none → Q (.ref p) (upd H1 p (.tup [.str "told", v]))
theorem scMet : FnScope ["ask", "e"] ["ask"] (defScope sMet) := ⟨rfl, rfl, rfl, by decide +kernel, rfl, by decide +kernel, by decide +kernel⟩
/-- what the two clauses are -/
def metCs (C1 C2 : Addr) : List (Addr × Str × Str) := [(C1, "numbers", "index"), (C2, "number", "thing")]
theorem met_gives {X : Cx} {g C1 f1 C2 f2 : Addr} {cdg : Value} {q : Str} (T1 : Err X.prog X.w X.K X.mg X.base "BadNumbers" "index" C1 f1) (T2 : Err X.prog X.w X.K X.mg X.base "BadNumber" "thing" C2 f2) :
    Lm.GivesT X ["ask", "e"] "_law_met" (defScope sMet) g cdg (defBody sMet) "ask" q (TMet X.K (metCs C1 C2)) := by
  intro f c2 P2 s H Q tl act hc h
  refine ⟨_, pss_one (ps_try_clauses (l := [(.ref C1, 1, fun a cls d => tRet (tTup (tCons (tC (.str "numbers")) (tCons (tXf a cls d C1 "index" (tVar 1)) tNil)))), (.ref C2, 1, fun a cls d => tRet (tTup (tCons (tC (.str "number")) (tCons (tXf a cls d C2 "thing" (tVar 1)) tNil))))])
    (Wout := fun _ _ _ _ => False)
    (tb := fun W D σ H => ∃ Ech : XK, (∀ cls d σ' H', Ech cls d H' → W cls d σ' H') ∧ σ[0]? = some (some (.ref f)) ∧ H c2 = some (Lm.CodeT c2 q P2) ∧ tl Ech H fun v H1 => 2 ≤ sizeLine ∧ ∀ p, H1 p = none → D.rt (.ref p) (upd H1 p (.tup [.str "told", v])))
    rfl rfl scMet.nd takes_none5 ?_ ?_), ?_⟩
  · intro W pn xe tk _
    refine ⟨fun pins s' σ H' D I h' => ?_⟩
    obtain ⟨Ech, hW, h1, h2, h3⟩ := h'
    exact PSs.run (t := tRet (tTup (tCons (tC (.str "told")) (tCons (fun σZ HZ Q => σZ[0]? = some (some (.ref f)) ∧ HZ c2 = some (Lm.CodeT c2 q P2) ∧ tl Ech HZ Q) tNil)))) (pss_one (ps_ret (pe_tup (pa_cons pe_str (pa_cons (act W pn xe Ech _ _ tk hW) pa_nil))))) pins s' σ H' D I ⟨h1, h2, h3⟩
  · refine .cons ⟨rfl, rfl, .inl T1.g⟩ rfl rfl (fun a oe cls d pn hz hf => ?_) (.cons ⟨rfl, rfl, .inl T2.g⟩ rfl rfl (fun a oe cls d pn hz hf => ?_) .nil)
    · exact pss_one (ps_ret (pe_tup (pa_cons pe_str (pa_cons (pe_xf T1.c.xf T1.c.no hz hf (pv 1)) pa_nil))))
    · exact pss_one (ps_ret (pe_tup (pa_cons pe_str (pa_cons (pe_xf T2.c.xf T2.c.no hz hf (pv 1)) pa_nil))))
  · refine ⟨MetE X.K Q (metCs C1 C2), fun cls d σ' H' hE => ?_, rfl, hc, ?_⟩
    · obtain ⟨b1, e1, h1, h2⟩ := hE
      have slot : ∀ {v : Option V}, σ'.length = 2 → (σ'.set 1 v)[1]? = some v := fun {v} hl => by
        rw [List.getElem?_set_self (by omega)]
      refine ⟨b1, e1, fun z a ha hl => ?_, fun z => ?_⟩
      · obtain ⟨rfl, dd, fs, v, rfl, k1, k2, k3⟩ := h1 z
        refine ⟨_, slot hl, rfl, rfl, dd, fs, v, rfl, k1, k2, by show 2 ≤ sizeLine; decide, fun p hp => k3 p hp⟩
      · obtain ⟨b2, e2, h3, h4⟩ := h2 z
        refine ⟨b2, e2, fun z a ha hl => ?_, fun z => ?_⟩
        · obtain ⟨rfl, dd, fs, v, rfl, k1, k2, k3⟩ := h3 z
          refine ⟨_, slot hl, rfl, rfl, dd, fs, v, rfl, k1, k2, by show 2 ≤ sizeLine; decide, fun p hp => k3 p hp⟩
        · exact h4 z
    · exact h
end K14
namespace K14
open PySem PySem.Spec PyProof.Rows L2 Sq Exs
/-! ### _law_m_choose -/
abbrev sCh : Stmt := top 18
def choS (many : Int) (f : Int) (t : Nat) : Int := f * (many - t) / ((t : Int) + 1)
def choM (many some : Int) : Int := if some < 0 ∨ some > many then 0 else (List.range some.toNat).foldl (choS many) 1
def spCh : Sp := fun vs H Q _ => ∃ (many some : Int), vs = [.int many, .int some] ∧ -1000 ≤ many ∧ many ≤ 1000 ∧ Q (.int (choM many some)) H
section
variable {P : Program} {w : World} {K : PySem.W.Frag} {mg : Str → Option Value} {base : Heap}
theorem scCh : FnScope ["many", "some", "found", "turn"] ["many", "some"] (defScope sCh) := ⟨rfl, rfl, rfl, by decide +kernel, rfl, by decide +kernel, by decide +kernel⟩
theorem ok_ch {f : Addr} {fd : FuncData} (F : FnP K "_law_m_choose" sCh f fd) (gR : mg "range" = none) : FnOk P w K mg base CX0 1 f fd ["many", "some"] spCh := by
  refine F.ok scCh (fun vs H Q E h => ?_) (fun cdv A outer s H vs Q E hr h => ?_)
  · obtain ⟨m, n, rfl, _⟩ := h
    rfl
  · obtain ⟨m, n, rfl, h1, h2, k⟩ := h
    refine ⟨_, PSs.nox (Evl.pss_cut (ps_if (PW.pt (pw_or (pt_cmpR op_lt (pv 1) pe_int (nomark _)) (pw_or1 (pt_cmpR op_gt (pv 1) (pv 0) (nomark _))))) (pss_one (ps_ret pe_int)) pss_nil)
      (pss_cons (ps_set (i := 2) scCh.nd rfl (.inl rfl) pe_int)
      (pss_cons (ps_for PassesOwn.never rfl (pi_range1 (by rfl) gR (pa_cons (pv 1) pa_nil)) (pg_name (i := 3) scCh.nd rfl (.inl rfl))
        (pss_one (ps_set (i := 2) scCh.nd rfl (.inl rfl) (pe_op op_fdiv (pe_op op_mul (pv 2) (pe_op op_sub (pv 0) (pv 3))) (pe_op op_add (pv 3) pe_int)))))
      (pss_one (ps_ret (pv 2)))))), ?_⟩
    refine ⟨fun σ H' => σ = [some (.int m), some (.int n), none, none] ∧ H' = H ∧ ¬ (n < 0 ∨ n > m), ?_, ?_⟩
    · have ret : (n < 0 ∨ n > m) → Q (.int 0) H := fun z => by
        unfold choM at k
        rw [if_pos z] at k
        exact k
      refine ⟨_, rfl, _, _, rfl, rfl, _, rfl, ?_⟩
      refine ite2 (fun hz => ret (.inl (of_decide_eq_true hz))) (fun hz => ⟨_, rfl, _, rfl, _, _, rfl, rfl, _, rfl, ?_⟩)
      refine ite2 (fun hy => ret (.inr (of_decide_eq_true hy))) (fun hy => ⟨rfl, rfl, fun z => ?_⟩)
      rcases z with z | z
      · exact hz (decide_eq_true z)
      · exact hy (decide_eq_true z)
    · rintro σ H' ⟨rfl, rfl, hno⟩
      have k' : Q (.int ((List.range n.toNat).foldl (choS m) 1)) H' := by
        unfold choM at k
        rw [if_neg hno] at k
        exact k
      refine ⟨_, rfl, _, rfl, by omega, by omega, ?_⟩
      refine for_range (lo := 0) (n := n.toNat) (fun i σ H2 => ∃ v3, σ = [some (.int m), some (.int n), some (.int ((List.range i).foldl (choS m) 1)), v3] ∧ H2 = H') ⟨none, rfl, rfl⟩ ?_ ?_
      · rintro i σ H2 hi ⟨v3, rfl, rfl⟩
        have w1 : -(2 ^ 64) < m - (0 + (i : Int)) ∧ m - (0 + (i : Int)) < 2 ^ 64 := by omega
        refine ⟨_, rfl, _, rfl, _, rfl, _, _, rfl, rfl, _, _, rfl, rfl, .inr w1, _, rfl, _, _, rfl, rfl, _, _, rfl, rfl, ⟨by omega, by omega⟩, ?_⟩
        refine ⟨some (.int (0 + (i : Int))), ?_, rfl⟩
        rw [List.range_succ, List.foldl_append, Int.zero_add]
        rfl
      · rintro σ H2 ⟨v3, rfl, rfl⟩
        exact ⟨_, rfl, k'⟩
end
end K14
namespace K14
open PySem PySem.Spec PyProof.Rows L2 Sq Exs
/-! ### _law_rows -/
abbrev sRows : Stmt := top 25
def okB (ns : List Nat) (row : List Int) (kind : Nat) : Bool := decide (row.count (kind : Int) < ns.getD kind 0) && !(decide (row.drop (row.length - 1) = [(kind : Int)]))
def exts (ns : List Nat) (free : Nat) (row : List Int) : List Int := (((List.range ns.length).filter (okB ns row)).map fun k : Nat => (k : Int)) ++ (if row.count (-1) < free then [-1] else [])
def stepR (ns : List Nat) (free : Nat) (rows : List (List Int)) : List (List Int) := rows.flatMap fun row => (exts ns free row).map fun k => row ++ [k]
def rowsM (ns : List Nat) (free : Nat) : Nat → List (List Int)
  | 0 => [[]]
  | n + 1 => stepR ns free (rowsM ns free n)
def RowsA (H : Hp) (as : List Addr) (rows : List (List Int)) : Prop := Paired (fun a r => H a = some (.lst (r.map V.int))) as rows
theorem RowsA.ex {H H' : Hp} {as : List Addr} {rows : List (List Int)} (r : RowsA H as rows) (e : Evl.Ex H H') : RowsA H' as rows := Paired.mapP r fun _ _ z => e _ _ z
theorem eqvAll_ints : ∀ a b : List Int, PyData.eqvAll (a.map PyData.int) (b.map PyData.int) = decide (a = b)
  | [], [] => by simp [PyData.eqvAll]
  | [], _ :: _ => by simp [PyData.eqvAll]
  | _ :: _, [] => by simp [PyData.eqvAll]
  | x :: a, y :: b => by
    rw [List.map_cons, List.map_cons]
    simp [PyData.eqvAll, PyData.eqv, eqvAll_ints a b]
    rfl
theorem eqv_ints (a b : List Int) : PyData.eqv (.list (a.map PyData.int)) (.list (b.map PyData.int)) = decide (a = b) := by
  rw [← eqvAll_ints a b]
  simp [PyData.eqv]
theorem exts_len (ns : List Nat) (free : Nat) (row : List Int) : (exts ns free row).length ≤ ns.length + 1 := by
  unfold exts
  rw [List.length_append, List.length_map]
  have h1 := List.length_filter_le (okB ns row) (List.range ns.length)
  rw [List.length_range] at h1
  split <;> simp <;> omega
def extR (ns : List Nat) (free : Nat) (row : List Int) : List (List Int) := (exts ns free row).map fun k => row ++ [k]
theorem flat_len {α β : Type} {g : α → List β} (h : ∀ r, (g r).length ≤ 4) : ∀ l : List α, (l.flatMap g).length ≤ 4 * l.length
  | [] => by simp
  | a :: r => by
    have := flat_len h r
    have := h a
    rw [List.flatMap_cons, List.length_append, List.length_cons]
    omega
theorem extR_len {ns : List Nat} (hl : ns.length ≤ 3) (free : Nat) (row : List Int) : (extR ns free row).length ≤ 4 := by
  unfold extR
  rw [List.length_map]
  have := exts_len ns free row
  omega
theorem rowsM_len {ns : List Nat} (hl : ns.length ≤ 3) (free : Nat) : ∀ n, (rowsM ns free n).length ≤ 4 ^ n
  | 0 => by simp [rowsM]
  | n + 1 => by
    have h1 := rowsM_len hl free n
    have h2 := flat_len (extR_len hl free) (rowsM ns free n)
    show ((rowsM ns free n).flatMap (extR ns free)).length ≤ 4 ^ (n + 1)
    rw [Nat.pow_succ]
    omega
theorem paired_get {α β : Type} {R : α → β → Prop} : ∀ {l : List α} {m : List β}, Paired R l m → ∀ {i : Nat} {a : α}, l[i]? = some a → ∃ b, m[i]? = some b ∧ R a b
  | _, _, .nil, i, a, h => by simp at h
  | _, _, .cons r t, i, a, h => by
    cases i with
    | zero =>
      simp only [List.getElem?_cons_zero, Option.some.injEq] at h
      subst h
      exact ⟨_, rfl, r⟩
    | succ i =>
      simp only [List.getElem?_cons_succ] at h ⊢
      exact paired_get t h
theorem paired_app {α β : Type} {R : α → β → Prop} : ∀ {l l2 : List α} {m m2 : List β}, Paired R l m → Paired R l2 m2 → Paired R (l ++ l2) (m ++ m2)
  | _, _, _, _, .nil, q => q
  | _, _, _, _, .cons r t, q => .cons r (paired_app t q)
theorem take_flat {α β : Type} {g : α → List β} {l : List α} {j : Nat} {a : α} (h : l[j]? = some a) : (l.take (j + 1)).flatMap g = (l.take j).flatMap g ++ g a := by
  rw [List.take_succ, h, List.flatMap_append]
  simp
theorem cutV_last (xs : List V) : cutV xs (some (-1)) none = xs.drop (xs.length - 1) := by
  unfold cutV
  have e1 : HT.sIx xs.length 0 (some (-1)) = xs.length - 1 := by
    show (if (-1 : Int) < 0 then ((-1 : Int) + (xs.length : Int)).toNat else min (-1 : Int).toNat xs.length) = xs.length - 1
    rw [if_pos (by decide)]
    omega
  have e2 : HT.sIx xs.length xs.length none = xs.length := rfl
  rw [e1, e2]
  exact List.take_of_length_le (by rw [List.length_drop]; exact Nat.le_refl _)
theorem okB_eq (ns : List Nat) (row : List Int) (i : Nat) : okB ns row i = (decide (row.count (i : Int) < ns.getD i 0) && !(decide (row.drop (row.length - 1) = [(i : Int)]))) := rfl
theorem filt_succ {p : Nat → Bool} {i : Nat} : (List.range (i + 1)).filter p = (List.range i).filter p ++ (if p i then [i] else []) := by
  rw [List.range_succ, List.filter_append]
  congr 1
  cases h : p i <;> simp [h]
theorem rowsM_mem {ns : List Nat} {free : Nat} : ∀ n, ∀ r ∈ rowsM ns free n, r.length = n
  | 0, r, h => by
    rw [show rowsM ns free 0 = [[]] from rfl] at h
    rw [List.mem_singleton.mp h]
    rfl
  | n + 1, r, h => by
    rw [show rowsM ns free (n + 1) = (rowsM ns free n).flatMap (extR ns free) from rfl, List.mem_flatMap] at h
    obtain ⟨r0, h0, h1⟩ := h
    unfold extR at h1
    obtain ⟨k, _, rfl⟩ := List.mem_map.mp h1
    rw [List.length_append, rowsM_mem n r0 h0]
    rfl
theorem exts_V {ns : List Nat} {free : Nat} {row : List Int} : ((List.range ns.length).filter (okB ns row)).map (fun k : Nat => V.int k) ++ (List.replicate (if decide ((row.count (-1) : Int) < (free : Int)) = true then (1 : Int) else 0).toNat [V.int (-1)]).flatten = (exts ns free row).map V.int := by
  unfold exts
  rw [List.map_append, List.map_map]
  congr 1
  by_cases h : row.count (-1) < free
  · rw [if_pos h, if_pos (decide_eq_true (by omega))]
    rfl
  · rw [if_neg h, if_neg (fun z => h (by have := of_decide_eq_true z; omega))]
    rfl
theorem RowsA.upd {H : Hp} {F : Addr} {o : HO} : ∀ {as : List Addr} {rows : List (List Int)}, RowsA H as rows → (∀ c ∈ as, c ≠ F) → RowsA (L2.upd H F o) as rows
  | _, _, .nil, _ => .nil
  | _, _, .cons r t, h => .cons (by rw [upd_ne (h _ List.mem_cons_self)]; exact r) (RowsA.upd t fun c hc => h c (List.mem_cons_of_mem _ hc))
def spRows (K : PySem.W.Frag) : Sp := fun vs H Q _ => ∃ (a : Addr) (ns : List Nat) (free : Nat), vs = [.ref a, .int free] ∧ SqL K H a (natV ns) ∧ ns.length ≤ 3 ∧ ns.sum + free ≤ 8 ∧
  ∀ (H' : Hp) (fo : Addr) (as : List Addr), Evl.Ex H H' → H fo = none → H' fo = some (.lst (as.map V.ref)) → RowsA H' as (rowsM ns free (ns.sum + free)) → Q (.ref fo) H'
section
variable {P : Program} {w : World} {K : PySem.W.Frag} {mg : Str → Option Value} {base : Heap}
theorem scRows : FnScope ["signs", "free", "found", "k", "later", "row", "some", "kind"] ["signs", "free"] (defScope sRows) := ⟨rfl, rfl, rfl, by decide +kernel, rfl, by decide +kernel, by decide +kernel⟩
theorem ok_rows {f : Addr} {fd : FuncData} (F : FnP K "_law_rows" sRows f fd) (gR : mg "range" = none) (gS : mg "sum" = none) (gL : mg "len" = none) (gI : mg "int" = none) : FnOk P w K mg base CX0 1 f fd ["signs", "free"] (spRows K) := by
  refine F.ok scRows (fun vs H Q E h => ?_) (fun cdv A outer s H vs Q E hr h => ?_)
  · obtain ⟨a, ns, free, rfl, _⟩ := h
    rfl
  · obtain ⟨a, ns, free, rfl, hq, hl, hsum, k⟩ := h
    refine' ⟨_, PSs.nox (pss_cons (ps_set (i := 2) scRows.nd rfl (.inl rfl) (pe_lst (pa_cons (pe_lst pa_nil) pa_nil)))
      (pss_cons (ps_for PassesOwn.never rfl (pi_range1 (by rfl) gR (pa_cons (pe_op op_add (pe_callB (cr_sumK rfl) (by rfl) gS (by decide +kernel) (pa_cons (pv 0) pa_nil)) (pv 1)) pa_nil)) (pg_name (i := 3) scRows.nd rfl (.inl rfl))
        (pss_cons (ps_set (i := 4) scRows.nd rfl (.inl rfl) (pe_lst pa_nil))
        (pss_cons (ps_for PassesOwn.never rfl (pi_list (pv 2)) (pg_name (i := 5) scRows.nd rfl (.inr rfl))
          (pss_cons ?sl (pss_one (ps_expr (pe_bm PySem.F.plainAttrs_list PySem.F.slot_list_extend PySem.F.type_list_extend mt_extend (pv 4) (pa_cons ?lc pa_nil))))))
        (pss_one (ps_set (i := 2) scRows.nd rfl (.inl rfl) (pv 4))))))
      (pss_one (ps_ret (pv 2))))), ?rd⟩
    case sl =>
      refine ps_setLc (i := 6) (own := [("kind", 7)]) (g := gName 7) (tt := tAnd (tTest (tOp (rI0 fun i j => .bl (decide (i < j))) (tBM K "list" (rCntI K) (tVar 5) (tCons (tVar 7) tNil)) (tOp (rIxL K) (tVar 0) (tVar 7)))) (tTest (tOp (rNeD K) (tSl (rSlL K) (tVar 5) (tPart (tUn (rU fun i => V.int (-i)) (tC (.int 1)))) tNoPart) (tLst (tCons (tVar 7) tNil))))) (te := tVar 7) (by rfl) scRows.nd rfl rfl (sw_true rfl rfl rfl (by decide +kernel))
        (pi_range1 (by rfl) gR (pa_cons (pe_callB call_len_seq (by rfl) gL PySem.boot_len (pa_cons (pv 0) pa_nil)) pa_nil)) (blkOk_by (own := [("kind", 7)]) (N := ["signs", "free", "found", "k", "later", "row", "some", "kind"]) (sc := defScope sRows) (by decide +kernel)) (fun _ _ _ _ _ => pg_name (i := 7) scRows.nd rfl (.inl rfl)) ?_ (fun _ _ _ _ _ => pv 7)
      intro _ _ _ _ _
      exact pts_one (PW.pt (pw_and (pt_cmpR op_lt (pe_bm PySem.F.plainAttrs_list PySem.F.slot_list_count PySem.F.type_list_count mt_lcount (pv 5) (pa_cons (pv 7) pa_nil)) (pe_ix ix_list (pv 0) (pv 7) (fun _ _ => rfl)) (nomark _)) (pw_and1 (pt_cmpR (op_neD hr.units) (pe_slice sl_list (pv 5) (po_some (pe_un un_neg pe_int)) po_none) (pe_lst (pa_cons (pv 7) pa_nil)) (nomark _)))))
    case lc =>
      refine pe_lc (own := [("kind", 7)]) (g := gName 7) (tt := tYes) (te := tOp rCat (tVar 5) (tLst (tCons (tVar 7) tNil))) rfl scRows.nd
        (pi_list (pe_op op_cat (pv 6) (pe_op op_rep (pe_lst (pa_cons (pe_un un_neg pe_int) pa_nil)) (pe_callTy call_int1 (by rfl) gI (by decide +kernel) (pa_cons (pe_cmpR op_lt (pe_bm PySem.F.plainAttrs_list PySem.F.slot_list_count PySem.F.type_list_count mt_lcount (pv 5) (pa_cons (pe_un un_neg pe_int) pa_nil)) (pv 1) (nomark _)) pa_nil)))))
        (blkOk_by (own := [("kind", 7)]) (N := ["signs", "free", "found", "k", "later", "row", "some", "kind"]) (sc := defScope sRows) (by decide +kernel)) (fun _ _ _ _ _ => pg_name (i := 7) scRows.nd rfl (.inl rfl)) (fun _ _ _ _ _ => pts_nil) ?_
      intro _ _ _ _ _
      exact pe_op op_cat (pv 5) (pe_lst (pa_cons (pv 7) pa_nil))
    refine ⟨Nat.zero_le _, fun p0 h0 => ⟨by show 1 ≤ sizeLine; decide, fun fo hfo => ?_⟩⟩
    have e0 := (Evl.Ex.new (o := .lst []) h0).trans (Evl.Ex.new (o := .lst [.ref p0]) hfo)
    have g0 := (Evl.Ex.new (o := .lst [.ref p0]) hfo) p0 (.lst []) upd_same
    have hfoH : H fo = none := by
      rw [upd_ne (ne_of_none upd_same hfo).symm] at hfo
      exact hfo
    have hcast : (ns.map fun k : Nat => (k : Int)).sum + (free : Int) = ((ns.sum + free : Nat) : Int) := by rw [sum_cast, Int.natCast_add]
    refine ⟨_, rfl, false, a, _, rfl, natV_int ns ▸ SqL.exx hq e0, _, rfl, _, _, rfl, rfl, _, rfl, ?_⟩
    rw [hcast]
    refine ⟨by omega, by omega, ?_⟩
    refine for_range (lo := 0) (n := (((ns.sum + free : Nat) : Int)).toNat) (fun i σ H2 => ∃ f as v3 v4 v5 v6 v7, σ = [some (.ref a), some (.int free), some (.ref f), v3, v4, v5, v6, v7] ∧ Evl.Ex H H2 ∧ H f = none ∧ H2 f = some (.lst (as.map V.ref)) ∧ RowsA H2 as (rowsM ns free i))
      ⟨fo, [p0], none, none, none, none, none, rfl, e0, hfoH, upd_same, .cons g0 .nil⟩ ?_ ?_
    · rintro i σ H2 hi ⟨f, as, v3, v4, v5, v6, v7, rfl, e2, hf, g2, r2⟩
      rw [Int.toNat_natCast] at hi
      refine ⟨Nat.zero_le _, fun l hl0 => ?_⟩
      have hlH : H l = none := by
        cases z : H l with
        | none => rfl
        | some o => rw [e2 _ _ z] at hl0; cases hl0
      have hal : as.length = (rowsM ns free i).length := r2.length
      have hbig : (rowsM ns free i).length ≤ 4 ^ 8 := Nat.le_trans (rowsM_len hl free i) (Nat.pow_le_pow_right (by decide) (by omega))
      refine ⟨_, rfl, f, rfl, ⟨_, SqL.of (Evl.Ex.new hl0 _ _ g2)⟩, ?_⟩
      refine for_list (xs := as.map V.ref) (fun j σ H3 => ∃ bs w5 w6 w7, σ = [some (.ref a), some (.int free), some (.ref f), some (.int (0 + (i : Int))), some (.ref l), w5, w6, w7] ∧ Evl.Ex H2 H3 ∧ H3 l = some (.lst (bs.map V.ref)) ∧ (∀ b ∈ bs, b ≠ l) ∧ RowsA H3 bs (((rowsM ns free i).take j).flatMap (extR ns free)))
        ⟨[], v5, v6, v7, rfl, Evl.Ex.new hl0, upd_same, fun b hb => (nomatch hb), .nil⟩ ?_ ?_ ?_
      · rintro j σ H3 _ ⟨bs, w5, w6, w7, rfl, e3, g3, _⟩
        exact SqL.of (e3 _ _ g2)
      · rintro j x σ H3 hx ⟨bs, w5, w6, w7, rfl, e3, g3, hb3, r3⟩
        obtain ⟨ra, row, hra, hrow, gra, rfl⟩ : ∃ ra row, as[j]? = some ra ∧ (rowsM ns free i)[j]? = some row ∧ H2 ra = some (.lst (row.map V.int)) ∧ x = .ref ra := by
          rw [List.getElem?_map] at hx
          cases ha : as[j]? with
          | none => rw [ha] at hx; cases hx
          | some ra =>
            rw [ha] at hx
            obtain ⟨row, h1, h2⟩ := paired_get r2 ha
            exact ⟨ra, row, rfl, h1, h2, (Option.some.inj hx).symm⟩
        have gr3 := e3 _ _ gra
        have hq3 := SqL.exx hq (e2.trans e3)
        have hnl : (natV ns).length = ns.length := by rw [List.length_map]
        refine ⟨_, rfl, a, _, rfl, .inl hq3, _, rfl, by omega, by omega, fun D hD => ?_⟩
        rw [hnl]
        refine lc_range (lo := 0) (n := ((ns.length : Nat) : Int).toNat) (fun m H4 => Evl.Ex H3 H4 ∧ H4 D = some (.lst (((List.range m).filter (okB ns row)).map fun k : Nat => V.int k))) ⟨Evl.Ex.new hD, upd_same⟩ ?_ ?_
        · rintro m H4 hm ⟨e4, g4⟩
          rw [Int.toNat_natCast] at hm
          rw [Int.zero_add]
          have em : (natV ns)[m]? = some (V.int ((ns.getD m 0 : Nat) : Int)) := by
            rw [List.getElem?_map, List.getElem?_eq_getElem hm, List.getD_eq_getElem?_getD, List.getElem?_eq_getElem hm]
            rfl
          have dno : Evl.Ex H3 H4 → okB ns row m = false → H4 D = some (.lst (((List.range (m + 1)).filter (okB ns row)).map fun k : Nat => V.int k)) := fun _ z => by
            rw [filt_succ, z, g4]
            simp
          refine ⟨rfl, ?_⟩
          refine ⟨_, rfl, .inl ⟨rfl, _, SqL.of (e4 _ _ gr3)⟩, _, rfl, ra, row, (m : Int), rfl, rfl, SqL.of (e4 _ _ gr3), _, rfl, _, rfl, a, _, _, _, rfl, rfl, SqL.exx hq3 e4, atI_nat em, _, _, rfl, rfl, _, rfl, ?_⟩
          refine ite2 (fun hz => ?_) (fun hz => ?_)
          · have hz1 := of_decide_eq_true hz
            refine ⟨_, rfl, _, rfl, _, rfl, ra, _, rfl, SqL.of (e4 _ _ gr3), fun p hp => ⟨_, rfl, by show 1 ≤ sizeLine; decide, fun q hqn => ?_⟩⟩
            have e5 := (e4.trans (Evl.Ex.new (o := .lst (cutV (row.map V.int) (some (-1)) none)) hp)).trans (Evl.Ex.new (o := .lst [.int (m : Int)]) hqn)
            have g5 : upd (upd H4 p (.lst (cutV (row.map V.int) (some (-1)) none))) q (.lst [.int (m : Int)]) p = some (.lst ((row.drop (row.length - 1)).map V.int)) := by
              rw [upd_ne (ne_of_none upd_same hqn), upd_same, cutV_last, List.length_map, List.map_drop]
            have g6 : upd (upd H4 p (.lst (cutV (row.map V.int) (some (-1)) none))) q (.lst [.int (m : Int)]) D = some (.lst (((List.range m).filter (okB ns row)).map fun k : Nat => V.int k)) := by
              rw [upd_ne (ne_of_none ((Evl.Ex.new (o := .lst (cutV (row.map V.int) (some (-1)) none)) hp) _ _ g4) hqn), upd_ne (ne_of_none g4 hp)]
              exact g4
            refine ⟨_, _, dp_ints (ns := row.drop (row.length - 1)) (SqL.of g5), dp_ints (ns := [(m : Int)]) (SqL.of upd_same), shaped_ints _, shaped_ints _, _, rfl, ?_⟩
            rw [eqv_ints]
            have hc : decide (row.count (m : Int) < ns.getD m 0) = true := decide_eq_true (by omega)
            cases hd : decide (row.drop (row.length - 1) = [(m : Int)]) with
            | true =>
              refine iteF ⟨e5, ?_⟩
              rw [g6, filt_succ, okB_eq, hd, hc]
              simp
            | false =>
              refine iteT ⟨_, rfl, _, g6, ?_, e5.mut hD, ?_⟩
              · rw [sizeLine_eq, List.length_map]
                have := List.length_filter_le (okB ns row) (List.range m)
                rw [List.length_range] at this
                omega
              · rw [upd_same, filt_succ, okB_eq, hd, hc, if_pos (by decide), List.map_append]
                rfl
          · refine ⟨e4, ?_⟩
            have hc : decide (row.count (m : Int) < ns.getD m 0) = false := decide_eq_false (fun z => hz (decide_eq_true (by omega)))
            rw [g4, filt_succ, okB_eq, hc]
            simp
        · rintro H4 ⟨e4, g4⟩
          rw [Int.toNat_natCast] at g4
          have gr4 := e4 _ _ gr3
          refine ⟨_, rfl, .inl ⟨rfl, _, SqL.of (e4 _ _ g3)⟩, ?_⟩
          refine ⟨_, rfl, _, rfl, by show 1 ≤ sizeLine; decide, fun p hp => ?_⟩
          have e5 := e4.trans (Evl.Ex.new (o := .lst [.int (-1)]) hp)
          refine ⟨_, rfl, .inl ⟨rfl, _, SqL.of (e5 _ _ gr3)⟩, _, rfl, ra, row, -1, rfl, rfl, SqL.of (e5 _ _ gr3), _, rfl, _, _, rfl, rfl, .inr ⟨_, rfl, ?_⟩⟩
          refine ⟨p, _, _, rfl, rfl, upd_same, by split <;> decide, by split <;> decide, ?_, fun p2 hp2 => ?_⟩
          · rw [sizeLine_eq]
            split <;> decide
          have e6 := e5.trans (Evl.Ex.new (o := .lst (List.replicate (if decide ((row.count (-1) : Int) < (free : Int)) = true then (1 : Int) else 0).toNat [V.int (-1)]).flatten) hp2)
          have g6 : upd (upd H4 p (.lst [.int (-1)])) p2 (.lst (List.replicate (if decide ((row.count (-1) : Int) < (free : Int)) = true then (1 : Int) else 0).toNat [V.int (-1)]).flatten) D = some (.lst (((List.range ns.length).filter (okB ns row)).map fun k : Nat => V.int k)) :=
            (Evl.Ex.new (o := .lst (List.replicate (if decide ((row.count (-1) : Int) < (free : Int)) = true then (1 : Int) else 0).toNat [V.int (-1)]).flatten) hp2) _ _ ((Evl.Ex.new (o := .lst [.int (-1)]) hp) _ _ g4)
          refine ⟨D, p2, _, _, rfl, rfl, g6, upd_same, ?_, fun q hqn => ?_⟩
          · rw [← List.length_append, exts_V, List.length_map, sizeLine_eq]
            have := exts_len ns free row
            omega
          rw [exts_V]
          have e7 := e6.trans (Evl.Ex.new (o := .lst ((exts ns free row).map V.int)) hqn)
          refine ⟨q, rfl, ⟨_, SqL.of upd_same⟩, fun F hF => ?_⟩
          have gq : ∀ {H5 : Hp}, Evl.Ex (upd (upd (upd H4 p (.lst [.int (-1)])) p2 (.lst (List.replicate (if decide ((row.count (-1) : Int) < (free : Int)) = true then (1 : Int) else 0).toNat [V.int (-1)]).flatten)) q (.lst ((exts ns free row).map V.int))) H5 → H5 q = some (.lst ((exts ns free row).map V.int)) := fun {H5} e => e _ _ upd_same
          generalize upd (upd (upd H4 p (.lst [.int (-1)])) p2 (.lst (List.replicate (if decide ((row.count (-1) : Int) < (free : Int)) = true then (1 : Int) else 0).toNat [V.int (-1)]).flatten)) q (.lst ((exts ns free row).map V.int)) = H6 at e7 gq hF
          have gl6 := e7 _ _ g3
          refine lc_list (xs := (exts ns free row).map V.int) (fun m H7 => ∃ cs : List Addr, Evl.Ex H6 H7 ∧ H7 F = some (.lst (cs.map V.ref)) ∧ (∀ c ∈ cs, c ≠ l) ∧ (∀ c ∈ cs, c ≠ F) ∧ RowsA H7 cs (((exts ns free row).take m).map fun k => row ++ [k])) ⟨[], Evl.Ex.new hF, upd_same, fun c hc => (nomatch hc), fun c hc => (nomatch hc), .nil⟩ ?_ ?_ ?_
          · rintro m H7 _ ⟨cs, e8, _⟩
            exact SqL.of (gq e8)
          · rintro m y H7 hy ⟨cs, e8, g8, hc8, hF8, r8⟩
            obtain ⟨kk, hk, rfl⟩ : ∃ kk, (exts ns free row)[m]? = some kk ∧ y = .int kk := by
              rw [List.getElem?_map] at hy
              cases hz : (exts ns free row)[m]? with
              | none => rw [hz] at hy; cases hy
              | some kk =>
                rw [hz] at hy
                exact ⟨kk, rfl, (Option.some.inj hy).symm⟩
            refine ⟨rfl, _, rfl, _, rfl, by show 1 ≤ sizeLine; decide, fun p3 hp3 => ?_⟩
            have gr8 := e8 _ _ (e7 _ _ gr3)
            have x1 := Evl.Ex.new (o := .lst [.int kk]) hp3
            refine ⟨ra, p3, _, _, rfl, rfl, x1 _ _ gr8, upd_same, ?_, fun r hr => ?_⟩
            · rw [sizeLine_eq, List.length_map, rowsM_mem i row (List.mem_of_getElem? hrow)]
              simp
              omega
            have x2 := x1.trans (Evl.Ex.new (o := .lst (row.map V.int ++ [V.int kk])) hr)
            have hrF : r ≠ F := (ne_of_none (x1 _ _ g8) hr).symm
            have hrl : r ≠ l := (ne_of_none (x1 _ _ (e8 _ _ gl6)) hr).symm
            have hml : m < (exts ns free row).length := (List.getElem?_eq_some_iff.mp hk).1
            have hcl : cs.length = min m (exts ns free row).length := by
              rw [r8.length, List.length_map, List.length_take]
            have hel := exts_len ns free row
            refine ⟨_, x2 _ _ g8, ?_, cs ++ [r], (e8.trans x2).mut hF, ?_, ?_, ?_, ?_⟩
            · rw [sizeLine_eq, List.length_map]
              omega
            · rw [upd_same, List.map_append]
              rfl
            · intro c hc
              rcases List.mem_append.mp hc with z | z
              · exact hc8 c z
              · rw [List.mem_singleton.mp z]
                exact hrl
            · intro c hc
              rcases List.mem_append.mp hc with z | z
              · exact hF8 c z
              · rw [List.mem_singleton.mp z]
                exact hrF
            · rw [List.take_succ, hk, List.map_append]
              refine paired_app (RowsA.upd (r8.ex x2) hF8) (.cons ?_ .nil)
              rw [upd_ne hrF, upd_same, List.map_append]
              rfl
          · rintro H7 ⟨cs, e8, g8, hc8, hF8, r8⟩
            rw [List.length_map, List.take_length] at r8
            have hcl : cs.length ≤ 4 := by
              rw [r8.length]
              exact extR_len hl free row
            have hbl : bs.length ≤ 4 * 4 ^ 8 := by
              rw [r3.length]
              have h1 := flat_len (extR_len hl free) ((rowsM ns free i).take j)
              have h2 : ((rowsM ns free i).take j).length ≤ (rowsM ns free i).length := by
                rw [List.length_take]
                omega
              omega
            refine ⟨l, F, _, _, rfl, rfl, e8 _ _ gl6, g8, ?_, ?_⟩
            · rw [sizeLine_eq, List.length_map, List.length_map]
              omega
            · refine ⟨bs ++ cs, _, _, _, rfl, ?_, ?_, ?_, ?_⟩
              · exact (e3.trans (e7.trans e8)).mut hl0
              · rw [upd_same, List.map_append]
              · intro b hb
                rcases List.mem_append.mp hb with z | z
                · exact hb3 b z
                · exact hc8 b z
              · rw [take_flat hrow]
                exact paired_app (RowsA.upd (r3.ex (e7.trans e8)) hb3) (RowsA.upd r8 hc8)
      · rintro σ H3 ⟨bs, w5, w6, w7, rfl, e3, g3, hb3, r3⟩
        refine ⟨_, rfl, l, bs, _, _, _, _, _, rfl, e2.trans e3, hlH, g3, ?_⟩
        rw [List.length_map, hal, List.take_length] at r3
        exact r3
    · rintro σ H2 ⟨f, as, v3, v4, v5, v6, v7, rfl, e2, hf, g2, r2⟩
      rw [Int.toNat_natCast] at r2
      exact ⟨_, rfl, k H2 f as e2 hf g2 r2⟩
end
end K14
namespace K14
open PySem PySem.Spec PyProof.Rows L2 Sq Exs
/-! ### _law_same: of equal things -/
abbrev sSame : Stmt := top 23
def flatS : V → Bool
  | .non => true
  | .bl _ => true
  | .int _ => true
  | .str _ => true
  | _ => false
/-- equal and of the same kinds, to the depth n -/
def Sm (H : Hp) : Nat → V → V → Prop
  | 0, _, _ => False
  | n + 1, x, y => (flatS x = true ∧ x = y) ∨ (∃ a b xs ys, x = .ref a ∧ y = .ref b ∧ H a = some (.lst xs) ∧ H b = some (.lst ys) ∧ xs.length ≤ 1000 ∧ Paired (Sm H n) xs ys) ∨
    (∃ a b xs ys, x = .ref a ∧ y = .ref b ∧ H a = some (.tup xs) ∧ H b = some (.tup ys) ∧ xs.length ≤ 1000 ∧ Paired (Sm H n) xs ys) ∨
    (∃ a b, x = .ref a ∧ y = .ref b ∧ H a = some (.dK []) ∧ H b = some (.dK []) ∧ 1 ≤ n)
theorem Sm.ex {H H' : Hp} (e : Evl.Ex H H') : ∀ n x y, Sm H n x y → Sm H' n x y
  | 0, _, _, h => h
  | n + 1, x, y, h => by
    rcases h with h | ⟨a, b, xs, ys, h1, h2, h3, h4, h5, h6⟩ | ⟨a, b, xs, ys, h1, h2, h3, h4, h5, h6⟩ | ⟨a, b, h1, h2, h3, h4, h5⟩
    · exact .inl h
    · exact .inr (.inl ⟨a, b, xs, ys, h1, h2, e _ _ h3, e _ _ h4, h5, Paired.mapP h6 fun _ _ z => Sm.ex e n _ _ z⟩)
    · exact .inr (.inr (.inl ⟨a, b, xs, ys, h1, h2, e _ _ h3, e _ _ h4, h5, Paired.mapP h6 fun _ _ z => Sm.ex e n _ _ z⟩))
    · exact .inr (.inr (.inr ⟨a, b, h1, h2, e _ _ h3, e _ _ h4, h5⟩))
def spSame (n : Nat) : Sp := fun vs H Q _ => ∃ x y : V, vs = [x, y] ∧ Sm H n x y ∧ ∀ H', Evl.Ex H H' → Q (.bl true) H'
section
variable {P : Program} {w : World} {K : PySem.W.Frag} {mg : Str → Option Value} {base : Heap}
theorem scSame : FnScope ["found", "due", "x", "y"] ["found", "due"] (defScope sSame) := ⟨rfl, rfl, rfl, by decide +kernel, rfl, by decide +kernel, by decide +kernel⟩
theorem ok_same {f : Addr} {fd : FuncData} (F : FnP K "_law_same" sSame f fd) (g : mg "_law_same" = some (.ref f)) (gI : mg "int" = none) (gB : mg "bool" = none) (gL : mg "list" = none) (gT : mg "tuple" = none) (gD : mg "dict" = none) (gS : mg "isinstance" = none) (gLen : mg "len" = none) (gA : mg "all" = none) (gZ : mg "zip" = none) :
    ∀ n, FnOk P w K mg base CX0 n f fd ["found", "due"] (spSame n)
  | 0 => ⟨fun vs H Q E h => by obtain ⟨x, y, _, h, _⟩ := h; exact h.elim, fun A outer s H args us vs Q E _ _ _ _ h => by obtain ⟨x, y, _, h, _⟩ := h; exact h.elim⟩
  | n + 1 => by
    have ih : FnOk P w K mg base CX0 n f fd ["found", "due"] (spSame n) := ok_same F g gI gB gL gT gD gS gLen gA gZ n
    have bS : L2.Binds K fd ["found", "due"] [] := F.bindsN fun _ _ _ _ _ _ us hl => match us, hl with | [_, _], _ => rfl
    refine F.ok scSame (fun vs H Q E h => ?_) (fun cdv A outer s H vs Q E hr h => ?_)
    · obtain ⟨x, y, rfl, _⟩ := h
      rfl
    · obtain ⟨x, y, rfl, hs, k⟩ := h
      refine' ⟨_, PSs.nox (pss_cons (ps_if (pt_val (pe_callB call_isiT (by rfl) gS (by decide +kernel) (pa_cons (pv 1) (pa_cons (pe_tup (pa_cons (pe_bltn (v := .ty "list") rfl gL (by decide +kernel) rfl) (pa_cons (pe_bltn (v := .ty "tuple") rfl gT (by decide +kernel) rfl) pa_nil))) pa_nil))))
          (pss_cons (ps_if (PW.pt (pw_or (pt_cmpR op_ne (pe_callB call_isi (by rfl) gS (by decide +kernel) (pa_cons (pv 0) (pa_cons (pe_bltn (v := .ty "list") rfl gL (by decide +kernel) rfl) pa_nil))) (pe_callB call_isi (by rfl) gS (by decide +kernel) (pa_cons (pv 1) (pa_cons (pe_bltn (v := .ty "list") rfl gL (by decide +kernel) rfl) pa_nil))) (nomark _))
              (pw_or1 (pt_cmpR op_ne (pe_callB call_isi (by rfl) gS (by decide +kernel) (pa_cons (pv 0) (pa_cons (pe_bltn (v := .ty "tuple") rfl gT (by decide +kernel) rfl) pa_nil))) (pe_callB call_isi (by rfl) gS (by decide +kernel) (pa_cons (pv 1) (pa_cons (pe_bltn (v := .ty "tuple") rfl gT (by decide +kernel) rfl) pa_nil))) (nomark _))))) (pss_one (ps_ret pe_bl)) pss_nil)
          (pss_one (ps_ret (pe_and (pe_cmpR op_eq (pe_callB call_len_seq (by rfl) gLen PySem.boot_len (pa_cons (pv 0) pa_nil)) (pe_callB call_len_seq (by rfl) gLen PySem.boot_len (pa_cons (pv 1) pa_nil)) (nomark _)) (pe_one (pe_callB (cr_all rfl) (by rfl) gA (by decide +kernel) (pa_cons ?lc pa_nil))))))) pss_nil)
        (pss_cons (ps_if (pt_val (pe_callB call_isi (by rfl) gS (by decide +kernel) (pa_cons (pv 1) (pa_cons (pe_bltn (v := .ty "dict") rfl gD (by decide +kernel) rfl) pa_nil))))
          (pss_one (ps_ret (pe_and (pe_callB call_isi (by rfl) gS (by decide +kernel) (pa_cons (pv 0) (pa_cons (pe_bltn (v := .ty "dict") rfl gD (by decide +kernel) rfl) pa_nil))) (pe_one (pe_call ih hr rfl g F.kp bS .nil pass0 (pa_cons (LiI.pe_listItems rfl (pv 0) (by rfl) gL (by decide +kernel)) (pa_cons (LiI.pe_listItems rfl (pv 1) (by rfl) gL (by decide +kernel)) pa_nil))))))) pss_nil)
        (pss_cons (ps_if (pt_val (pe_callB call_isi (by rfl) gS (by decide +kernel) (pa_cons (pv 1) (pa_cons (pe_bltn (v := .ty "int") rfl gI (by decide +kernel) rfl) pa_nil))))
          (pss_one (ps_ret (pe_and (pe_callB call_isi (by rfl) gS (by decide +kernel) (pa_cons (pv 0) (pa_cons (pe_bltn (v := .ty "int") rfl gI (by decide +kernel) rfl) pa_nil)))
            (pe_and (pe_cmpR op_eq (pe_callB call_isi (by rfl) gS (by decide +kernel) (pa_cons (pv 0) (pa_cons (pe_bltn (v := .ty "bool") rfl gB (by decide +kernel) rfl) pa_nil))) (pe_callB call_isi (by rfl) gS (by decide +kernel) (pa_cons (pv 1) (pa_cons (pe_bltn (v := .ty "bool") rfl gB (by decide +kernel) rfl) pa_nil))) (nomark _))
            (pe_one (pe_cmpR op_eq (pv 0) (pv 1) (nomark _))))))) pss_nil)
        (pss_one (ps_ret (pe_and (pe_not (pe_callB call_isiT (by rfl) gS (by decide +kernel) (pa_cons (pv 0) (pa_cons (pe_tup (pa_cons (pe_bltn (v := .ty "int") rfl gI (by decide +kernel) rfl) (pa_cons (pe_bltn (v := .ty "list") rfl gL (by decide +kernel) rfl) (pa_cons (pe_bltn (v := .ty "tuple") rfl gT (by decide +kernel) rfl) (pa_cons (pe_bltn (v := .ty "dict") rfl gD (by decide +kernel) rfl) pa_nil))))) pa_nil))))
          (pe_one (pe_cmpR op_eq (pv 0) (pv 1) (nomark _))))))))), ?rd⟩
      case lc =>
        refine pe_lc (own := [("x", 2), ("y", 3)]) (g := gTup K 2 (gCons (gName 2) (gCons (gName 3) gNil))) (tt := tYes) (te := tCall (spSame n) [] E0 (tCons (tVar 2) (tCons (tVar 3) tNil))) rfl scSame.nd (pi_zip2 (by rfl) gZ (pa_cons (pv 0) (pa_cons (pv 1) pa_nil)))
          (blkOk_by (own := [("x", 2), ("y", 3)]) (N := ["found", "due", "x", "y"]) (sc := defScope sSame) (by decide +kernel)) (fun _ _ _ _ _ => pg_tup rfl (pgs_cons (pg_name (i := 2) scSame.nd rfl (.inl rfl)) (pgs_cons (pg_name (i := 3) scSame.nd rfl (.inl rfl)) pgs_nil))) (fun _ _ _ _ _ => pts_nil) ?_
        intro _ _ _ _ _
        exact pe_call ih hr rfl g F.kp bS .nil pass0 (pa_cons (pv 2) (pa_cons (pv 3) pa_nil))
      rcases hs with ⟨hf, rfl⟩ | ⟨a, b, xs, ys, rfl, rfl, ha, hb, hl, hp⟩ | ⟨a, b, xs, ys, rfl, rfl, ha, hb, hl, hp⟩ | ⟨a, b, rfl, rfl, ha, hb, hn⟩
      · cases x with
        | non =>
          refine ⟨_, rfl, by show 2 ≤ sizeLine; decide, fun t ht => ?_⟩
          have e1 := Evl.Ex.new (o := .tup [V.ty "list", V.ty "tuple"]) ht
          have px : Pl (upd H t (.tup [V.ty "list", V.ty "tuple"])) .non "NoneType" := .non
          refine ⟨_, _, _, _, _, _, rfl, upd_same, cls_tys ["list", "tuple"], px.ty, px.any ["list", "tuple"] (by decide), _, rfl, iteF ?_⟩
          refine ⟨_, rfl, _, _, _, _, _, rfl, .ty _, px.ty, px.one "dict", _, rfl, iteF ?_⟩
          refine ⟨_, rfl, _, _, _, _, _, rfl, .ty _, px.ty, px.one "int", _, rfl, iteF ?_⟩
          refine ⟨_, rfl, by show 4 ≤ sizeLine; decide, fun t2 ht2 => ?_⟩
          have e2 := Evl.Ex.new (o := .tup [V.ty "int", V.ty "list", V.ty "tuple", V.ty "dict"]) ht2
          refine ⟨_, _, _, _, _, _, rfl, upd_same, cls_tys ["int", "list", "tuple", "dict"], (px.ext e2).ty, (px.ext e2).any ["int", "list", "tuple", "dict"] (by decide), _, rfl, _, rfl, iteT ?_⟩
          refine ⟨_, rfl, _, rfl, rfl, ?_⟩
          rw [decide_eq_true (rfl : (.non : V) = .non)]
          exact k _ (e1.trans e2)
        | bl z =>
          refine ⟨_, rfl, by show 2 ≤ sizeLine; decide, fun t ht => ?_⟩
          have e1 := Evl.Ex.new (o := .tup [V.ty "list", V.ty "tuple"]) ht
          have px : Pl (upd H t (.tup [V.ty "list", V.ty "tuple"])) (.bl z) "bool" := .bl z
          refine ⟨_, _, _, _, _, _, rfl, upd_same, cls_tys ["list", "tuple"], px.ty, px.any ["list", "tuple"] (by decide), _, rfl, iteF ?_⟩
          refine ⟨_, rfl, _, _, _, _, _, rfl, .ty _, px.ty, px.one "dict", _, rfl, iteF ?_⟩
          refine ⟨_, rfl, _, _, _, _, _, rfl, .ty _, px.ty, px.one "int", _, rfl, iteT ?_⟩
          refine ⟨_, rfl, _, _, _, _, _, rfl, .ty _, px.ty, px.one "int", _, rfl, iteT ?_⟩
          refine ⟨_, rfl, _, _, _, _, _, rfl, .ty _, px.ty, px.one "bool", _, rfl, _, _, _, _, _, rfl, .ty _, px.ty, px.one "bool", rfl, _, rfl, iteT ?_⟩
          refine ⟨_, rfl, _, rfl, rfl, ?_⟩
          rw [decide_eq_true (rfl : ((.bl z) : V) = (.bl z))]
          exact k _ e1
        | int z =>
          refine ⟨_, rfl, by show 2 ≤ sizeLine; decide, fun t ht => ?_⟩
          have e1 := Evl.Ex.new (o := .tup [V.ty "list", V.ty "tuple"]) ht
          have px : Pl (upd H t (.tup [V.ty "list", V.ty "tuple"])) (.int z) "int" := .int z
          refine ⟨_, _, _, _, _, _, rfl, upd_same, cls_tys ["list", "tuple"], px.ty, px.any ["list", "tuple"] (by decide), _, rfl, iteF ?_⟩
          refine ⟨_, rfl, _, _, _, _, _, rfl, .ty _, px.ty, px.one "dict", _, rfl, iteF ?_⟩
          refine ⟨_, rfl, _, _, _, _, _, rfl, .ty _, px.ty, px.one "int", _, rfl, iteT ?_⟩
          refine ⟨_, rfl, _, _, _, _, _, rfl, .ty _, px.ty, px.one "int", _, rfl, iteT ?_⟩
          refine ⟨_, rfl, _, _, _, _, _, rfl, .ty _, px.ty, px.one "bool", _, rfl, _, _, _, _, _, rfl, .ty _, px.ty, px.one "bool", rfl, _, rfl, iteT ?_⟩
          refine ⟨_, rfl, _, rfl, rfl, ?_⟩
          rw [decide_eq_true (rfl : ((.int z) : V) = (.int z))]
          exact k _ e1
        | str z =>
          refine ⟨_, rfl, by show 2 ≤ sizeLine; decide, fun t ht => ?_⟩
          have e1 := Evl.Ex.new (o := .tup [V.ty "list", V.ty "tuple"]) ht
          have px : Pl (upd H t (.tup [V.ty "list", V.ty "tuple"])) (.str z) "str" := .str z
          refine ⟨_, _, _, _, _, _, rfl, upd_same, cls_tys ["list", "tuple"], px.ty, px.any ["list", "tuple"] (by decide), _, rfl, iteF ?_⟩
          refine ⟨_, rfl, _, _, _, _, _, rfl, .ty _, px.ty, px.one "dict", _, rfl, iteF ?_⟩
          refine ⟨_, rfl, _, _, _, _, _, rfl, .ty _, px.ty, px.one "int", _, rfl, iteF ?_⟩
          refine ⟨_, rfl, by show 4 ≤ sizeLine; decide, fun t2 ht2 => ?_⟩
          have e2 := Evl.Ex.new (o := .tup [V.ty "int", V.ty "list", V.ty "tuple", V.ty "dict"]) ht2
          refine ⟨_, _, _, _, _, _, rfl, upd_same, cls_tys ["int", "list", "tuple", "dict"], (px.ext e2).ty, (px.ext e2).any ["int", "list", "tuple", "dict"] (by decide), _, rfl, _, rfl, iteT ?_⟩
          refine ⟨_, rfl, _, rfl, rfl, ?_⟩
          rw [decide_eq_true (rfl : ((.str z) : V) = (.str z))]
          exact k _ (e1.trans e2)
        | _ => cases hf
      · refine ⟨_, rfl, by show 2 ≤ sizeLine; decide, fun t ht => ?_⟩
        have e1 := Evl.Ex.new (o := .tup [V.ty "list", V.ty "tuple"]) ht
        have pa : Pl (upd H t (.tup [V.ty "list", V.ty "tuple"])) (.ref a) "list" := .lst (e1 _ _ ha)
        have pb : Pl (upd H t (.tup [V.ty "list", V.ty "tuple"])) (.ref b) "list" := .lst (e1 _ _ hb)
        refine ⟨_, _, _, _, _, _, rfl, upd_same, cls_tys ["list", "tuple"], pb.ty, pb.any ["list", "tuple"] (by decide), _, rfl, iteT ?_⟩
        refine ⟨_, rfl, _, _, _, _, _, rfl, .ty _, pa.ty, pa.one "list", _, rfl, _, _, _, _, _, rfl, .ty _, pb.ty, pb.one "list", rfl, _, rfl, iteF ?_⟩
        refine ⟨_, rfl, _, _, _, _, _, rfl, .ty _, pa.ty, pa.one "tuple", _, rfl, _, _, _, _, _, rfl, .ty _, pb.ty, pb.one "tuple", rfl, _, rfl, iteF ?_⟩
        refine ⟨_, rfl, a, _, rfl, .inl (SqL.of (e1 _ _ ha)), _, rfl, b, _, rfl, .inl (SqL.of (e1 _ _ hb)), rfl, _, rfl, ?_⟩
        have hlen : xs.length = ys.length := hp.length
        refine ite2 (fun _ => ?_) (fun z => absurd (decide_eq_true (by rw [hlen])) z)
        refine ⟨_, rfl, _, rfl, false, false, a, b, xs, ys, rfl, SqL.of (e1 _ _ ha), SqL.of (e1 _ _ hb), fun D hD => ?_⟩
        refine lc_it (walk_zip2 (t1 := false) (t2 := false) (xs := xs) (ys := ys) (n := xs.length) (by rw [hlen, Nat.min_self])) (fun i H' => Evl.Ex (upd H t (.tup [V.ty "list", V.ty "tuple"])) H' ∧ H' D = some (.lst ((List.replicate i true).map V.bl))) ⟨Evl.Ex.new hD, upd_same⟩ ?_ ?_ ?_
        · rintro i H' _ ⟨e2, _⟩
          exact ⟨SqL.of (e2 _ _ (e1 _ _ ha)), SqL.of (e2 _ _ (e1 _ _ hb))⟩
        · rintro i z H' H'' hi ⟨e2, g2⟩ ⟨T, u, v, rfl, hT, rfl, hu, hv⟩
          replace hu : xs[i]? = some u := hu
          replace hv : ys[i]? = some v := hv
          obtain ⟨v', hv', hsm⟩ := paired_get hp hu
          rw [hv] at hv'
          cases hv'
          have e3 := e2.trans (Evl.Ex.new (o := .tup [u, v]) hT)
          refine ⟨T, _, rfl, SqT.of upd_same, rfl, _, _, rfl, _, _, rfl, rfl, rfl, ?_⟩
          refine ⟨_, rfl, _, rfl, u, v, rfl, Sm.ex (e1.trans e3) n u v hsm, fun H3 e4 => ?_⟩
          have g3 := e4 _ _ ((Evl.Ex.new (o := .tup [u, v]) hT) _ _ g2)
          refine ⟨_, g3, ?_, (e3.trans e4).mut hD, ?_⟩
          · rw [sizeLine_eq, List.length_map, List.length_replicate]
            omega
          · rw [upd_same, List.replicate_succ', List.map_append]
            rfl
        · rintro H' ⟨e2, g2⟩
          refine ⟨D, _, rfl, SqL.of g2, ?_⟩
          rw [List.all_replicate]
          have : (if xs.length = 0 then true else id true) = true := by split <;> rfl
          first | (rw [this]; exact k H' (e1.trans e2)) | (simp; exact k H' (e1.trans e2))
      · refine ⟨_, rfl, by show 2 ≤ sizeLine; decide, fun t ht => ?_⟩
        have e1 := Evl.Ex.new (o := .tup [V.ty "list", V.ty "tuple"]) ht
        have pa : Pl (upd H t (.tup [V.ty "list", V.ty "tuple"])) (.ref a) "tuple" := .tup (e1 _ _ ha)
        have pb : Pl (upd H t (.tup [V.ty "list", V.ty "tuple"])) (.ref b) "tuple" := .tup (e1 _ _ hb)
        refine ⟨_, _, _, _, _, _, rfl, upd_same, cls_tys ["list", "tuple"], pb.ty, pb.any ["list", "tuple"] (by decide), _, rfl, iteT ?_⟩
        refine ⟨_, rfl, _, _, _, _, _, rfl, .ty _, pa.ty, pa.one "list", _, rfl, _, _, _, _, _, rfl, .ty _, pb.ty, pb.one "list", rfl, _, rfl, iteF ?_⟩
        refine ⟨_, rfl, _, _, _, _, _, rfl, .ty _, pa.ty, pa.one "tuple", _, rfl, _, _, _, _, _, rfl, .ty _, pb.ty, pb.one "tuple", rfl, _, rfl, iteF ?_⟩
        refine ⟨_, rfl, a, _, rfl, .inr (SqT.of (e1 _ _ ha)), _, rfl, b, _, rfl, .inr (SqT.of (e1 _ _ hb)), rfl, _, rfl, ?_⟩
        have hlen : xs.length = ys.length := hp.length
        refine ite2 (fun _ => ?_) (fun z => absurd (decide_eq_true (by rw [hlen])) z)
        refine ⟨_, rfl, _, rfl, true, true, a, b, xs, ys, rfl, SqT.of (e1 _ _ ha), SqT.of (e1 _ _ hb), fun D hD => ?_⟩
        refine lc_it (walk_zip2 (t1 := true) (t2 := true) (xs := xs) (ys := ys) (n := xs.length) (by rw [hlen, Nat.min_self])) (fun i H' => Evl.Ex (upd H t (.tup [V.ty "list", V.ty "tuple"])) H' ∧ H' D = some (.lst ((List.replicate i true).map V.bl))) ⟨Evl.Ex.new hD, upd_same⟩ ?_ ?_ ?_
        · rintro i H' _ ⟨e2, _⟩
          exact ⟨SqT.of (e2 _ _ (e1 _ _ ha)), SqT.of (e2 _ _ (e1 _ _ hb))⟩
        · rintro i z H' H'' hi ⟨e2, g2⟩ ⟨T, u, v, rfl, hT, rfl, hu, hv⟩
          replace hu : xs[i]? = some u := hu
          replace hv : ys[i]? = some v := hv
          obtain ⟨v', hv', hsm⟩ := paired_get hp hu
          rw [hv] at hv'
          cases hv'
          have e3 := e2.trans (Evl.Ex.new (o := .tup [u, v]) hT)
          refine ⟨T, _, rfl, SqT.of upd_same, rfl, _, _, rfl, _, _, rfl, rfl, rfl, ?_⟩
          refine ⟨_, rfl, _, rfl, u, v, rfl, Sm.ex (e1.trans e3) n u v hsm, fun H3 e4 => ?_⟩
          have g3 := e4 _ _ ((Evl.Ex.new (o := .tup [u, v]) hT) _ _ g2)
          refine ⟨_, g3, ?_, (e3.trans e4).mut hD, ?_⟩
          · rw [sizeLine_eq, List.length_map, List.length_replicate]
            omega
          · rw [upd_same, List.replicate_succ', List.map_append]
            rfl
        · rintro H' ⟨e2, g2⟩
          refine ⟨D, _, rfl, SqL.of g2, ?_⟩
          rw [List.all_replicate]
          have : (if xs.length = 0 then true else id true) = true := by split <;> rfl
          first | (rw [this]; exact k H' (e1.trans e2)) | (simp; exact k H' (e1.trans e2))
      · refine ⟨_, rfl, by show 2 ≤ sizeLine; decide, fun t ht => ?_⟩
        have e1 := Evl.Ex.new (o := .tup [V.ty "list", V.ty "tuple"]) ht
        have pa : Pl (upd H t (.tup [V.ty "list", V.ty "tuple"])) (.ref a) "dict" := .dic (e1 _ _ ha)
        have pb : Pl (upd H t (.tup [V.ty "list", V.ty "tuple"])) (.ref b) "dict" := .dic (e1 _ _ hb)
        refine ⟨_, _, _, _, _, _, rfl, upd_same, cls_tys ["list", "tuple"], pb.ty, pb.any ["list", "tuple"] (by decide), _, rfl, iteF ?_⟩
        refine ⟨_, rfl, _, _, _, _, _, rfl, .ty _, pb.ty, pb.one "dict", _, rfl, iteT ?_⟩
        refine ⟨_, rfl, _, _, _, _, _, rfl, .ty _, pa.ty, pa.one "dict", _, rfl, iteT ?_⟩
        refine ⟨_, rfl, a, [], rfl, e1 _ _ ha, fun H2 p ts e2 hp1 hp2 hp3 g2 hpr => ?_⟩
        have hts : ts = [] := by
          cases hpr
          rfl
        subst hts
        refine ⟨_, rfl, b, [], rfl, e2 _ _ (e1 _ _ hb), fun H3 q ts e3 hq1 hq2 hq3 g3 hqr => ?_⟩
        have hts : ts = [] := by
          cases hqr
          rfl
        subst hts
        obtain ⟨m, rfl⟩ : ∃ m, n = m + 1 := ⟨n - 1, by omega⟩
        exact ⟨_, _, rfl, .inr (.inl ⟨p, q, [], [], rfl, rfl, e3 _ _ g2, g3, Nat.zero_le _, .nil⟩), fun H4 e4 => k H4 (e1.trans ((show Evl.Ex _ H2 from e2).trans ((show Evl.Ex H2 H3 from e3).trans e4)))⟩
end
end K14
namespace K14
open PySem PySem.Spec PyProof.Rows L2 Sq Exs Nk
/-! ### _law_on -/
abbrev sOn : Stmt := top 26
def lastV : Option Int → V
  | none => .non
  | some i => .int i
def lastK : Option Int → NestedKey
  | none => .none
  | some i => .num i
def kE (ns : List Nat) (free : Nat) (last : Option Int) : NestedKey := .tup [.tup (ns.map fun k : Nat => .num k), .num free, lastK last]
def decN (ns : List Nat) (kind : Nat) : List Nat := ns.set kind (ns.getD kind 0 - 1)
def onS (rec : List Nat → Nat → Option Int → Int) (ns : List Nat) (free : Nat) (last : Option Int) (acc : Int) (kind : Nat) : Int := if 0 < ns.getD kind 0 ∧ some (kind : Int) ≠ last then acc + rec (decN ns kind) free (some (kind : Int)) else acc
def onF (fin : Option Int) : Nat → List Nat → Nat → Option Int → Int
  | 0, _, _, last => if last = fin then 0 else 1
  | n + 1, ns, free, last => (List.range ns.length).foldl (onS (onF fin n) ns free last) (if 0 < free then onF fin n ns (free - 1) (some (-1)) else 0)
def uL : Nat → List (List Nat)
  | 0 => [[]]
  | n + 1 => (List.range 7).flatMap fun x => (uL n).map fun r => x :: r
def uK (L : Nat) : List NestedKey := (uL L).flatMap fun ns => (List.range 4).flatMap fun f => (none :: some (-1) :: (List.range L).map fun k : Nat => some (k : Int)).map fun l => kE ns f l
def Fit (L : Nat) (ns : List Nat) (free : Nat) (last : Option Int) : Prop := ns.length = L ∧ (∀ x ∈ ns, x ≤ 6) ∧ free ≤ 3 ∧ last ∈ (none :: some (-1) :: (List.range L).map fun k : Nat => some (k : Int))
theorem mem_uL : ∀ {L : Nat} {ns : List Nat}, ns.length = L → (∀ x ∈ ns, x ≤ 6) → ns ∈ uL L
  | 0, [], _, _ => List.mem_singleton.mpr rfl
  | L + 1, x :: r, h, hx => by
    unfold uL
    refine List.mem_flatMap.mpr ⟨x, List.mem_range.mpr ?_, List.mem_map.mpr ⟨r, mem_uL (by simpa using h) fun y hy => hx y (List.mem_cons_of_mem _ hy), rfl⟩⟩
    have := hx x List.mem_cons_self
    omega
theorem mem_uK {L : Nat} {ns : List Nat} {free : Nat} {last : Option Int} (h : Fit L ns free last) : kE ns free last ∈ uK L := by
  obtain ⟨h1, h2, h3, h4⟩ := h
  unfold uK
  exact List.mem_flatMap.mpr ⟨ns, mem_uL h1 h2, List.mem_flatMap.mpr ⟨free, List.mem_range.mpr (by omega), List.mem_map.mpr ⟨last, h4, rfl⟩⟩⟩
theorem uK_len : ∀ L ∈ List.range 4, (uK L).length ≤ 10000 := by decide +kernel
theorem nodup_le {α : Type} [DecidableEq α] : ∀ {l m : List α}, l.Nodup → (∀ x ∈ l, x ∈ m) → l.length ≤ m.length
  | [], _, _, _ => Nat.zero_le _
  | a :: r, m, h, hm => by
    have h1 := List.nodup_cons.mp h
    have ha := hm a List.mem_cons_self
    have := nodup_le (l := r) (m := m.erase a) h1.2 fun x hx => by
      refine (List.mem_erase_of_ne ?_).mpr (hm x (List.mem_cons_of_mem _ hx))
      rintro rfl
      exact h1.1 hx
    rw [List.length_erase_of_mem ha] at this
    have h0 : 0 < m.length := List.length_pos_of_mem ha
    rw [List.length_cons]
    omega
theorem kE_inj {ns ms : List Nat} {f g : Nat} {l j : Option Int} (h : kE ns f l = kE ms g j) : ns = ms ∧ f = g ∧ l = j := by
  unfold kE at h
  injection h with h
  injection h with h1 h
  injection h with h2 h
  injection h with h3 _
  injection h1 with h1
  injection h2 with h2
  refine ⟨?_, Int.ofNat.inj h2, ?_⟩
  · refine List.map_inj_right (f := fun k : Nat => NestedKey.num k) (fun x y e => ?_) |>.mp h1
    injection e with e
    exact Int.ofNat.inj e
  · cases l <;> cases j <;> first
      | rfl
      | (injection h3 with h3; rw [h3])
      | (cases h3)
theorem depth_nums : ∀ ns : List Nat, NestedKey.depthAll (ns.map fun k : Nat => NestedKey.num k) = 0
  | [] => rfl
  | n :: r => by
    rw [List.map_cons, NestedKey.depthAll, depth_nums r]
    rfl
theorem kE_depth (ns : List Nat) (f : Nat) (l : Option Int) : (kE ns f l).depth ≤ 8 := by
  unfold kE
  cases l <;> simp [NestedKey.depth, NestedKey.depthAll, depth_nums, lastK]
/-- what the memo's entries are -/
def Due (L : Nat) (fin : Option Int) (kvs : List (NestedKey × V)) : Prop := (kvs.map (·.1)).Nodup ∧ ∀ key v, valV kvs key = some v → ∃ ns f l, key = kE ns f l ∧ Fit L ns f l ∧ v = .int (onF fin (ns.sum + f) ns f l)
def Memo (P : Program) (w : World) (H : Hp) (d : Addr) (L : Nat) (fin : Option Int) : Prop := ∃ kvs, DN P w H d kvs ∧ Due L fin kvs
theorem Due.le {L : Nat} {fin : Option Int} {kvs : List (NestedKey × V)} (hL : L ≤ 3) (h : Due L fin kvs) : kvs.length ≤ 10000 := by
  have := nodup_le h.1 (m := uK L) fun x hx => by
    cases hv : valV kvs x with
    | none => exact absurd hx (valV_not hv)
    | some v =>
      obtain ⟨ns, f, l, e, hf, _⟩ := h.2 x v hv
      rw [e]
      exact mem_uK hf
  have h3 := uK_len L (List.mem_range.mpr (by omega))
  rw [List.length_map] at this
  omega
theorem Due.val {L : Nat} {fin : Option Int} {kvs : List (NestedKey × V)} (h : Due L fin kvs) {ns : List Nat} {f : Nat} {l : Option Int} {v : V} (hv : valV kvs (kE ns f l) = some v) : v = .int (onF fin (ns.sum + f) ns f l) := by
  obtain ⟨ms, g, j, e, _, e2⟩ := h.2 _ _ hv
  obtain ⟨rfl, rfl, rfl⟩ := kE_inj e
  exact e2
theorem keys_over {kvs : List (NestedKey × V)} {k : NestedKey} {v : V} : (kvs.map fun e => if e.1 = k then (e.1, v) else e).map (·.1) = kvs.map (·.1) := by
  rw [List.map_map]
  refine List.map_congr_left fun e _ => ?_
  show (if e.1 = k then (e.1, v) else e).1 = e.1
  split <;> rfl
theorem Due.put {L : Nat} {fin : Option Int} {kvs : List (NestedKey × V)} (h : Due L fin kvs) {ns : List Nat} {f : Nat} {l : Option Int} (hf : Fit L ns f l) : Due L fin (putK kvs (kE ns f l) (.int (onF fin (ns.sum + f) ns f l))) := by
  refine ⟨?_, fun key v hv => ?_⟩
  · cases hn : valV kvs (kE ns f l) with
    | none => exact nd_putK _ h.1 hn
    | some v0 =>
      unfold putK
      rw [valV_any, hn, if_pos (show (some v0).isSome = true from rfl), keys_over]
      exact h.1
  · rw [valV_put] at hv
    by_cases e : key = kE ns f l
    · rw [if_pos e] at hv
      exact ⟨ns, f, l, e, hf, (Option.some.inj hv).symm⟩
    · rw [if_neg e] at hv
      exact h.2 key v hv
theorem Due.nil {L : Nat} {fin : Option Int} : Due L fin [] := ⟨List.nodup_nil, fun key v hv => by cases hv⟩
theorem sum_set : ∀ (ns : List Nat) (k v : Nat), k < ns.length → (ns.set k v).sum + ns.getD k 0 = ns.sum + v
  | [], k, v, h => by simp at h
  | a :: r, 0, v, _ => by
    simp
    omega
  | a :: r, k + 1, v, h => by
    have := sum_set r k v (by simpa using h)
    simp at this ⊢
    omega
theorem decN_sum {ns : List Nat} {k : Nat} (hk : k < ns.length) (h0 : 0 < ns.getD k 0) : (decN ns k).sum + 1 = ns.sum := by
  have := sum_set ns k (ns.getD k 0 - 1) hk
  unfold decN
  omega
theorem decN_fit {L : Nat} {ns : List Nat} {k f : Nat} {l : Option Int} (h : Fit L ns f l) (hk : k < ns.length) : Fit L (decN ns k) f (some (k : Int)) := by
  obtain ⟨h1, h2, h3, h4⟩ := h
  unfold decN
  refine ⟨by rw [List.length_set]; exact h1, fun x hx => ?_, h3, ?_⟩
  · rcases List.mem_or_eq_of_mem_set hx with z | z
    · exact h2 x z
    · have hg : ns.getD k 0 = ns[k] := by
        rw [List.getD_eq_getElem?_getD, List.getElem?_eq_getElem hk]
        rfl
      have := h2 ns[k] (List.getElem_mem hk)
      omega
  · refine List.mem_cons_of_mem _ (List.mem_cons_of_mem _ (List.mem_map.mpr ⟨k, List.mem_range.mpr (by omega), rfl⟩))
theorem free_fit {L : Nat} {ns : List Nat} {f : Nat} {l : Option Int} (h : Fit L ns f l) : Fit L ns (f - 1) (some (-1)) := by
  obtain ⟨h1, h2, h3, h4⟩ := h
  exact ⟨h1, h2, by omega, List.mem_cons_of_mem _ List.mem_cons_self⟩
theorem natV_dec {ns : List Nat} {k : Nat} (hk : k < ns.length) (h0 : 0 < ns.getD k 0) : natV (decN ns k) = (List.range ns.length).map fun j => V.int ((ns.getD j 0 : Nat) - (if decide (V.int (j : Int) = V.int (k : Int)) = true then (1 : Int) else 0)) := by
  refine List.ext_getElem (by simp [decN]) fun j h1 h2 => ?_
  have hj : j < ns.length := by simpa using h2
  have hg : ns.getD j 0 = ns[j] := by
    rw [List.getD_eq_getElem?_getD, List.getElem?_eq_getElem hj]
    rfl
  rw [List.getElem_map, List.getElem_map, List.getElem_range, hg]
  congr 1
  unfold decN
  by_cases e : j = k
  · subst e
    rw [List.getElem_set_self, if_pos (by simp)]
    omega
  · rw [List.getElem_set_ne (fun z => e z.symm), if_neg (fun z => e (by have := of_decide_eq_true z; injection this with q; exact Int.ofNat.inj q))]
    omega
end K14
namespace K14
open PySem PySem.Spec PyProof.Rows L2 Sq Exs Nk
abbrev rInt1 : List V → Hp → VK → Prop := fun xs H Q => (∃ i, xs = [.int i] ∧ Q (.int i) H) ∨ ∃ k, xs = [.bl k] ∧ Q (.int (if k then 1 else 0)) H
theorem iteFb {b : Bool} {A B : Prop} (hb : b = false) (h : B) : if b = true then A else B := by
  rw [hb]
  exact h
theorem iteTb {b : Bool} {A B : Prop} (hb : b = true) (h : A) : if b = true then A else B := by
  rw [hb]
  exact h
/-- all but d stays -/
def Kd (d : Addr) (H H' : Hp) : Prop := ∀ b o, b ≠ d → H b = some o → H' b = some o
theorem Kd.refl {d : Addr} (H : Hp) : Kd d H H := fun _ _ _ h => h
theorem Kd.trans {d : Addr} {H H1 H2 : Hp} (a : Kd d H H1) (b : Kd d H1 H2) : Kd d H H2 := fun x o h e => b x o h (a x o h e)
theorem Kd.of {d : Addr} {H H' : Hp} (e : Evl.Ex H H') : Kd d H H' := fun b o _ h => e b o h
theorem Kd.put {d : Addr} {H H' : Hp} (e : ∀ c, c ≠ d → H' c = H c) : Kd d H H' := fun b o h q => by
  rw [e b h]
  exact q
theorem Memo.isD {P : Program} {w : World} {H : Hp} {d : Addr} {L : Nat} {fin : Option Int} (m : Memo P w H d L fin) : ∃ xs, H d = some (DObj P w d xs) := by
  obtain ⟨kvs, ⟨_, xs, _, h⟩, _⟩ := m
  exact ⟨xs, h⟩
theorem SqL.kd {K : PySem.W.Frag} {H H' : Hp} {d a : Addr} {ys : List V} (h : SqL K H a ys) (e : Kd d H H') {o : HO} (hd : H d = some o) (ho : ∀ u, o ≠ .lst u) (ho2 : ∀ u v, o ≠ .frz u v) : SqL K H' a ys :=
  h.imp (fun r => r.elim (fun q => .inl (e _ _ (fun z => by rw [z, hd] at q; exact ho _ (Option.some.inj q)) q)) fun ⟨u, q⟩ => .inr ⟨u, e _ _ (fun z => by rw [z, hd] at q; exact ho2 _ _ (Option.some.inj q)) q⟩) id
theorem SqL.memo {P : Program} {w : World} {K : PySem.W.Frag} {H H' : Hp} {d a : Addr} {L : Nat} {fin : Option Int} {ys : List V} (h : SqL K H a ys) (e : Kd d H H') (m : Memo P w H d L fin) : SqL K H' a ys := by
  obtain ⟨xs, hx⟩ := m.isD
  exact SqL.kd h e hx (fun _ z => by cases z) (fun _ _ z => by cases z)
theorem Memo.ex {P : Program} {w : World} {H H' : Hp} {d : Addr} {L : Nat} {fin : Option Int} (m : Memo P w H d L fin) (e : Evl.Ex H H') : Memo P w H' d L fin := by
  obtain ⟨kvs, h1, h2⟩ := m
  exact ⟨kvs, h1.ex e, h2⟩
theorem kall_nums {H : Hp} : ∀ ns : List Nat, KAll H (ns.map fun k : Nat => NestedKey.num k) (natV ns)
  | [] => .nil
  | n :: r => .cons (.int n) (kall_nums r)
theorem kat_key {H : Hp} {t u : Addr} {ns : List Nat} {free : Nat} {last : Option Int} (h1 : H t = some (.tup [.ref u, .int free, lastV last])) (h2 : H u = some (.tup (natV ns))) : KAt H (kE ns free last) (.ref t) := by
  refine .tup h1 (.cons (.tup h2 (kall_nums ns)) (.cons (.int free) (.cons ?_ .nil)))
  cases last with
  | none => exact .non
  | some i => exact .int i
theorem lastV_scal (a b : Option Int) : scal (lastV a) (lastV b) = true := by cases a <;> cases b <;> rfl
theorem lastV_eq (a b : Option Int) : decide (lastV a = lastV b) = decide (a = b) := by
  cases a <;> cases b <;> simp [lastV]
theorem kd_tup {P : Program} {w : World} {H H' : Hp} {d : Addr} {xs : List (NestedKey × Addr × Value)} (e : Kd d H H') (hd : H d = some (DObj P w d xs)) : TupStay H H' := fun b ys h => e b _ (fun z => by
  rw [z, hd] at h
  cases h) h
def spOn (P : Program) (w : World) (K : PySem.W.Frag) (L : Nat) (fin : Option Int) : Nat → Sp
  | 0 => fun _ _ _ _ => False
  | n + 1 => fun vs H Q _ => ∃ (a d : Addr) (ns : List Nat) (free : Nat) (last : Option Int), vs = [.ref a, .int free, lastV last, lastV fin, .ref d] ∧ SqL K H a (natV ns) ∧ ns.sum + free = n ∧ Fit L ns free last ∧ Memo P w H d L fin ∧
    ∀ H', Kd d H H' → Memo P w H' d L fin → Q (.int (onF fin n ns free last)) H'
section
variable {P : Program} {w : World} {K : PySem.W.Frag} {mg : Str → Option Value} {base : Heap}
abbrev nmOn : List Str := ["signs", "free", "last", "end", "known", "key", "found", "kind", "many", "less", "at", "count"]
theorem scOn : FnScope nmOn ["signs", "free", "last", "end", "known"] (defScope sOn) := ⟨rfl, rfl, rfl, by decide +kernel, rfl, by decide +kernel, by decide +kernel⟩
theorem ok_on {f : Addr} {fd : FuncData} (F : FnP K "_law_on" sOn f fd) (g : mg "_law_on" = some (.ref f)) (gT : mg "tuple" = none) (gS : mg "sum" = none) (gI : mg "int" = none) (gE : mg "enumerate" = none) {L : Nat} (hL : L ≤ 3) (fin : Option Int) :
    ∀ n, FnOk P w K mg base CX0 n f fd ["signs", "free", "last", "end", "known"] (spOn P w K L fin n)
  | 0 => ⟨fun vs H Q E h => h.elim, fun A outer s H args us vs Q E _ _ _ _ h => h.elim⟩
  | n + 1 => by
    have ih : FnOk P w K mg base CX0 n f fd ["signs", "free", "last", "end", "known"] (spOn P w K L fin n) := ok_on F g gT gS gI gE hL fin n
    have bO : L2.Binds K fd ["signs", "free", "last", "end", "known"] [] := F.bindsN fun _ _ _ _ _ _ us hl => match us, hl with | [_, _, _, _, _], _ => rfl
    refine F.ok scOn (fun vs H Q E h => ?_) (fun cdv A outer s H vs Q E hr h => ?_)
    · obtain ⟨a, d, ns, free, last, rfl, _⟩ := h
      rfl
    · obtain ⟨a, d, ns, free, last, rfl, hq, hn, hfit, hm, k⟩ := h
      have hu9 : (A.deeper (envOfC "_law_on" (defScope sOn) s.heap.objs.size f cdv)).units + 9 < cLine := by
        have := hr.units
        omega
      refine' ⟨_, PSs.nox (pss_cons (ps_set (i := 5) scOn.nd rfl (.inl rfl) (pe_tup (pa_cons (pe_callTy call_tuple_of (by rfl) gT (by decide +kernel) (pa_cons (pv 0) pa_nil)) (pa_cons (pv 1) (pa_cons (pv 2) pa_nil)))))
        (Evl.pss_cut (ps_if (pt_cmpR (op_nkNotIn hu9) (pv 5) (pv 4) (by rfl))
          (pss_one (ps_if (pt_cmpR op_eq (pe_op op_add (pe_callB (cr_sumK rfl) (by rfl) gS (by decide +kernel) (pa_cons (pv 0) pa_nil)) (pv 1)) pe_int (nomark _))
            (pss_one (ps_asg (pe_callTy call_int1 (by rfl) gI (by decide +kernel) (pa_cons (pe_cmpR op_ne (pv 2) (pv 3) (nomark _)) pa_nil)) (pg_sub (pv 4) (pv 5) (set_nk hu9))))
            (Evl.pss_cut (ps_set (i := 6) scOn.nd rfl (.inl rfl) (pe_ifExp (pt_cmpR op_gt (pv 1) pe_int (nomark _)) (pe_call ih hr rfl g F.kp bO .nil pass0 (pa_cons (pv 0) (pa_cons (pe_op op_sub (pv 1) pe_int) (pa_cons (pe_un un_neg pe_int) (pa_cons (pv 3) (pa_cons (pv 4) pa_nil)))))) pe_int))
            (pss_cons (ps_for PassesOwn.never rfl (pi_enumA (by rfl) gE (pa_cons (pv 0) pa_nil)) (pg_tup rfl (pgs_cons (pg_name (i := 7) scOn.nd rfl (.inr rfl)) (pgs_cons (pg_name (i := 8) scOn.nd rfl (.inl rfl)) pgs_nil)))
              (pss_one (ps_if (PW.pt (pw_and (pt_cmpR op_gt (pv 8) pe_int (nomark _)) (pw_and1 (pt_cmpR op_ne (pv 7) (pv 2) (nomark _)))))
                (pss_cons ?sl (pss_one (ps_set (i := 6) scOn.nd rfl (.inl rfl) (pe_op op_add (pv 6) (pe_call ih hr rfl g F.kp bO .nil pass0 (pa_cons (pv 9) (pa_cons (pv 1) (pa_cons (pv 7) (pa_cons (pv 3) (pa_cons (pv 4) pa_nil)))))))))) pss_nil)))
            (pss_one (ps_asg (pv 6) (pg_sub (pv 4) (pv 5) (set_nk hu9)))))))) pss_nil)
        (pss_one (ps_ret (pe_ix (ix_nk hu9) (pv 4) (pv 5) (fun _ _ => rfl)))))), ?rd⟩
      case sl =>
        refine ps_setLc (i := 9) (own := [("at", 10), ("count", 11)]) (g := gTup K 2 (gCons (gName 10) (gCons (gName 11) gNil))) (tt := tYes) (te := tOp (rI0 fun i j => V.int (i - j)) (tVar 11) (tCB rInt1 (tCons (tOp rEq (tVar 10) (tVar 7)) tNil))) (by rfl) scOn.nd rfl rfl (sw_true rfl rfl rfl (by decide +kernel))
          (pi_enumA (by rfl) gE (pa_cons (pv 0) pa_nil)) (blkOk_by (own := [("at", 10), ("count", 11)]) (N := nmOn) (sc := defScope sOn) (by decide +kernel)) (fun _ _ _ _ _ => pg_tup rfl (pgs_cons (pg_name (i := 10) scOn.nd rfl (.inl rfl)) (pgs_cons (pg_name (i := 11) scOn.nd rfl (.inl rfl)) pgs_nil))) (fun _ _ _ _ _ => pts_nil) ?_
        intro _ _ _ _ _
        exact pe_op op_sub (pv 11) (pe_callTy call_int1 (by rfl) gI (by decide +kernel) (pa_cons (pe_cmpR op_eq (pv 10) (pv 7) (nomark _)) pa_nil))
      refine ⟨_, rfl, a, _, rfl, .inl ⟨hq, fun u hu => ?_⟩⟩
      refine ⟨_, rfl, _, rfl, by show 3 ≤ sizeLine; decide, fun t ht => ?_⟩
      have e1 := (Evl.Ex.new (o := .tup (natV ns)) hu).trans (Evl.Ex.new (o := .tup [.ref u, .int free, lastV last]) ht)
      have gt : upd (upd H u (.tup (natV ns))) t (.tup [.ref u, .int free, lastV last]) t = some (.tup [.ref u, .int free, lastV last]) := upd_same
      have gu := (Evl.Ex.new (o := .tup [.ref u, .int free, lastV last]) ht) u (.tup (natV ns)) upd_same
      show Evl.tCut _ _ _ _ (upd (upd H u (.tup (natV ns))) t (.tup [.ref u, .int free, lastV last]))
      generalize upd (upd H u (.tup (natV ns))) t (.tup [.ref u, .int free, lastV last]) = H1 at e1 gt gu
      have key1 : KAt H1 (kE ns free last) (.ref t) := kat_key gt gu
      have m1 := hm.ex e1
      obtain ⟨xs1, hd1⟩ := m1.isD
      have hdep := kE_depth ns free last
      refine ⟨fun σ H' => (∃ v6 v7 v8 v9 v10 v11, σ = [some (.ref a), some (.int free), some (lastV last), some (lastV fin), some (.ref d), some (.ref t), v6, v7, v8, v9, v10, v11]) ∧ Kd d H1 H' ∧ ∃ kvs, DN P w H' d kvs ∧ Due L fin kvs ∧ valV kvs (kE ns free last) = some (.int (onF fin n ns free last)), ?_, ?_⟩
      · obtain ⟨kvs, hdn, hdue⟩ := m1
        refine ⟨_, rfl, _, rfl, kE ns free last, t, d, kvs, rfl, rfl, key1, hdep, hdn, _, rfl, ?_⟩
        cases hv : valV kvs (kE ns free last) with
        | some v0 =>
          refine iteFb (by show (!(valV kvs (kE ns free last)).isSome) = false; rw [hv]; rfl) ⟨⟨_, _, _, _, _, _, rfl⟩, Kd.refl _, kvs, hdn, hdue, ?_⟩
          rw [hv, hdue.val hv, hn]
        | none =>
          refine iteTb (by show (!(valV kvs (kE ns free last)).isSome) = true; rw [hv]; rfl) ?_
          have hcast : (ns.map fun k : Nat => (k : Int)).sum + (free : Int) = (n : Int) := by
            rw [sum_cast, ← Int.natCast_add, hn]
          refine ⟨_, rfl, false, a, _, rfl, natV_int ns ▸ SqL.exx hq e1, _, rfl, _, _, rfl, rfl, rfl, decide (V.int (n : Int) = V.int 0), ?_, ?_⟩
          · show V.bl (decide (V.int ((ns.map fun k : Nat => (k : Int)).sum + (free : Int)) = V.int 0)) = _
            rw [hcast]
          have fin2 : ∀ {σ : L2.St} {H2 : Hp} {v : Int}, (∃ v6 v7 v8 v9 v10 v11, σ = [some (.ref a), some (.int free), some (lastV last), some (lastV fin), some (.ref d), some (.ref t), v6, v7, v8, v9, v10, v11]) → Kd d H1 H2 → Memo P w H2 d L fin → v = onF fin n ns free last →
              rNkSet P w (.ref d) (.ref t) (.int v) H2 (fun H' => (∃ v6 v7 v8 v9 v10 v11, σ = [some (.ref a), some (.int free), some (lastV last), some (lastV fin), some (.ref d), some (.ref t), v6, v7, v8, v9, v10, v11]) ∧ Kd d H1 H' ∧ ∃ kvs, DN P w H' d kvs ∧ Due L fin kvs ∧ valV kvs (kE ns free last) = some (.int (onF fin n ns free last))) := fun {σ H2 v} hσ hk2 hm2 hv2 => by
            obtain ⟨kvs2, hdn2, hdue2⟩ := hm2
            subst hv2
            have hle := hdue2.le hL
            refine ⟨kE ns free last, t, d, kvs2, rfl, rfl, KAt.stay (kd_tup hk2 hd1) _ _ key1, hdep, hdn2, by rw [sizeLine_eq]; omega, fun H3 e3 hdn3 => ⟨hσ, hk2.trans (Kd.put e3), _, hdn3, ?_, ?_⟩⟩
            · have := hdue2.put hfit
              rw [hn] at this
              exact this
            · rw [valV_put, if_pos rfl]
          refine ite2 (fun hz => ?_) (fun hz => ?_)
          · have hn0 : n = 0 := by
              have q := of_decide_eq_true hz
              injection q with q
              exact Int.ofNat.inj q
            refine ⟨_, rfl, _, rfl, lastV_scal last fin, .inr ⟨_, rfl, ?_⟩⟩
            refine ⟨_, rfl, _, rfl, fin2 ⟨_, _, _, _, _, _, rfl⟩ (Kd.refl _) ⟨kvs, hdn, hdue⟩ ?_⟩
            rw [lastV_eq]
            subst hn0
            show _ = if last = fin then (0 : Int) else 1
            by_cases e : last = fin
            · rw [if_pos e, decide_eq_true e]
              rfl
            · rw [if_neg e, decide_eq_false e]
              rfl
          · obtain ⟨m, rfl⟩ : ∃ m, n = m + 1 := by
              cases n with
              | zero => exact absurd (decide_eq_true rfl) hz
              | succ m => exact ⟨m, rfl⟩
            refine ⟨fun σ H2 => σ = [some (.ref a), some (.int free), some (lastV last), some (lastV fin), some (.ref d), some (.ref t), some (.int (if 0 < free then onF fin m ns (free - 1) (some (-1)) else 0)), none, none, none, none, none] ∧ Kd d H1 H2 ∧ Memo P w H2 d L fin, ?_, ?_⟩
            · refine ⟨_, rfl, _, _, rfl, rfl, _, rfl, ?_⟩
              refine ite2 (fun hp => ?_) (fun hp => ⟨?_, Kd.refl _, ⟨kvs, hdn, hdue⟩⟩)
              · have hpos : 0 < free := by
                  have := of_decide_eq_true hp
                  omega
                refine ⟨_, rfl, _, rfl, _, _, rfl, rfl, _, rfl, _, rfl, _, rfl, a, d, ns, free - 1, some (-1), ?_, SqL.exx hq e1, by omega, free_fit hfit, ⟨kvs, hdn, hdue⟩, fun H2 k2 m2 => ⟨?_, k2, m2⟩⟩
                · show [V.ref a, V.int ((free : Int) - 1), V.int (-1), lastV fin, V.ref d] = [V.ref a, V.int ((free - 1 : Nat) : Int), V.int (-1), lastV fin, V.ref d]
                  rw [show (free : Int) - 1 = ((free - 1 : Nat) : Int) by omega]
                · rw [if_pos hpos]
                  rfl
              · have hpos : ¬ 0 < free := fun z => hp (decide_eq_true (by omega))
                rw [if_neg hpos]
                rfl
            · rintro σ H2 ⟨rfl, hk2, hm2⟩
              have hqK : ∀ {H3 : Hp}, Kd d H1 H3 → SqL K H3 a (natV ns) := fun {H3} e => SqL.memo (SqL.exx hq e1) e ⟨kvs, hdn, hdue⟩
              refine ⟨_, rfl, false, a, _, rfl, hqK hk2, ?_⟩
              refine for_it (walk_enumA (xs := natV ns)) (fun i σ H3 => ∃ v7 v8 v9 v10 v11, σ = [some (.ref a), some (.int free), some (lastV last), some (lastV fin), some (.ref d), some (.ref t), some (.int ((List.range i).foldl (onS (onF fin m) ns free last) (if 0 < free then onF fin m ns (free - 1) (some (-1)) else 0))), v7, v8, v9, v10, v11] ∧ Kd d H1 H3 ∧ Memo P w H3 d L fin)
                ⟨_, _, _, _, _, rfl, hk2, hm2⟩ ?_ ?_ ?_
              · rintro i σ H3 _ ⟨_, _, _, _, _, _, hk3, _⟩
                exact hqK hk3
              · rintro i y σ H3 H4 hi ⟨v7, v8, v9, v10, v11, rfl, hk3, hm3⟩ ⟨T, z, c, rfl, hT, rfl, hz2, hc⟩
                injection hz2 with hz2
                subst hz2
                replace hc : (natV ns)[i]? = some c := hc
                rw [List.length_map] at hi
                rw [List.getElem?_map, List.getElem?_eq_getElem hi] at hc
                injection hc with hc
                subst hc
                have en : ns.getD i 0 = ns[i] := by
                  rw [List.getD_eq_getElem?_getD, List.getElem?_eq_getElem hi]
                  rfl
                have e4 := Evl.Ex.new (o := .tup [.int (i : Nat), .int ((ns[i] : Nat) : Int)]) hT
                have hk4 := hk3.trans (Kd.of (d := d) e4)
                have hm4 := hm3.ex e4
                generalize hac : (List.range i).foldl (onS (onF fin m) ns free last) (if 0 < free then onF fin m ns (free - 1) (some (-1)) else 0) = ac
                have hsuc : (List.range (i + 1)).foldl (onS (onF fin m) ns free last) (if 0 < free then onF fin m ns (free - 1) (some (-1)) else 0) = onS (onF fin m) ns free last ac i := by
                  rw [List.range_succ, List.foldl_append, hac]
                  rfl
                rw [hsuc]
                refine ⟨T, _, rfl, SqT.of upd_same, rfl, _, _, rfl, _, _, rfl, rfl, ?_⟩
                refine ⟨_, rfl, _, _, rfl, rfl, _, rfl, ?_⟩
                refine ite2 (fun hp => ?_) (fun hp => ?_)
                · have hpos : 0 < ns.getD i 0 := by
                    have := of_decide_eq_true hp
                    omega
                  refine ⟨_, rfl, _, rfl, lastV_scal (some (i : Int)) last, !decide (some (i : Int) = last), ?_, ?_⟩
                  · show V.bl (!decide (lastV (some (i : Int)) = lastV last)) = _
                    rw [lastV_eq]
                  refine ite2 (fun hy => ?_) (fun hy => ?_)
                  · have hne : some (i : Int) ≠ last := by simpa using hy
                    refine ⟨_, rfl, false, a, _, rfl, hqK hk4, fun D hD => ?_⟩
                    refine lc_it (walk_enumA (xs := natV ns)) (fun j H5 => Evl.Ex (upd H3 T (.tup [.int (i : Nat), .int ((ns[i] : Nat) : Int)])) H5 ∧ H5 D = some (.lst ((List.range j).map fun j => V.int ((ns.getD j 0 : Nat) - (if decide (V.int (j : Int) = V.int (i : Int)) = true then (1 : Int) else 0))))) ⟨Evl.Ex.new hD, upd_same⟩ ?_ ?_ ?_
                    · rintro j H5 _ ⟨e5, _⟩
                      exact hqK (hk4.trans (Kd.of e5))
                    · rintro j y H5 H6 hj ⟨e5, g5⟩ ⟨T2, z, c, rfl, hT2, rfl, hz2, hc⟩
                      injection hz2 with hz2
                      subst hz2
                      replace hc : (natV ns)[j]? = some c := hc
                      rw [List.length_map] at hj
                      rw [List.getElem?_map, List.getElem?_eq_getElem hj] at hc
                      injection hc with hc
                      subst hc
                      have e6 := Evl.Ex.new (o := .tup [.int (j : Nat), .int ((ns[j] : Nat) : Int)]) hT2
                      refine ⟨T2, _, rfl, SqT.of upd_same, rfl, _, _, rfl, _, _, rfl, rfl, rfl, ?_⟩
                      refine ⟨_, rfl, _, rfl, _, rfl, rfl, .inr ⟨_, rfl, _, _, rfl, rfl, _, e6 _ _ g5, ?_, (e5.trans e6).mut hD, ?_⟩⟩
                      · rw [sizeLine_eq, List.length_map, List.length_range]
                        have := hfit.1
                        omega
                      · rw [upd_same, List.range_succ, List.map_append]
                        show some (HO.lst (_ ++ [V.int (((ns[j] : Nat) : Int) - _)])) = some (HO.lst (_ ++ [V.int (((ns.getD j 0 : Nat) : Int) - _)]))
                        rw [List.getD_eq_getElem?_getD, List.getElem?_eq_getElem hj]
                        rfl
                    · rintro H5 ⟨e5, g5⟩
                      rw [List.length_map, ← natV_dec hi hpos] at g5
                      have hs5 := decN_sum hi hpos
                      refine ⟨_, rfl, _, rfl, _, rfl, _, rfl, _, rfl, _, rfl, D, d, decN ns i, free, some (i : Int), rfl, SqL.of g5, by omega, decN_fit hfit hi, hm4.ex e5, fun H6 k6 m6 => ⟨_, _, rfl, rfl, ?_⟩⟩
                      refine ⟨some (.int (i : Int)), some (.int ((ns[i] : Nat) : Int)), some (.ref D), v10, v11, ?_, (hk4.trans (Kd.of e5)).trans k6, m6⟩
                      unfold onS
                      rw [if_pos ⟨hpos, hne⟩]
                      rfl
                  · refine ⟨some (.int (i : Int)), some (.int ((ns[i] : Nat) : Int)), v9, v10, v11, ?_, hk4, hm4⟩
                    unfold onS
                    rw [if_neg (fun z => hy (by simpa using z.2))]
                    rfl
                · refine ⟨some (.int (i : Int)), some (.int ((ns[i] : Nat) : Int)), v9, v10, v11, ?_, hk4, hm4⟩
                  unfold onS
                  rw [if_neg (fun z => hp (decide_eq_true (by omega)))]
                  rfl
              · rintro σ H3 ⟨v7, v8, v9, v10, v11, rfl, hk3, hm3⟩
                rw [List.length_map]
                refine ⟨_, rfl, _, rfl, _, rfl, fin2 ⟨_, _, _, _, _, _, rfl⟩ hk3 hm3 rfl⟩
      · rintro σ H' ⟨⟨v6, v7, v8, v9, v10, v11, rfl⟩, hk2, kvs, hdn, hdue, hv⟩
        refine ⟨_, rfl, _, rfl, kE ns free last, t, d, kvs, _, rfl, rfl, KAt.stay (kd_tup hk2 hd1) _ _ key1, hdep, hdn, hv, ?_⟩
        exact k H' ((Kd.of e1).trans hk2) ⟨kvs, hdn, hdue⟩
end
end K14
namespace K14
open PySem PySem.Spec PyProof.Rows L2 Sq Exs Nk
/-! ### _law_small_right -/
abbrev sSr : Stmt := top 27
def frB (row : List Int) : Bool := decide (row.take 1 = [0]) && !(decide (row.getD (row.length - 1) 0 = 0))
def dom : List (List Nat) := [[]] ++ ((List.range 4).map fun a => [a]) ++ ((List.range 4).flatMap fun a => (List.range 4).map fun b => [a, b]) ++ ((List.range 4).flatMap fun a => (List.range 4).flatMap fun b => (List.range 4).map fun c => [a, b, c])
def canon (ns : List Nat) : List Nat := List.replicate (ns.count 0) 0 ++ List.replicate (ns.count 1) 1 ++ List.replicate (ns.count 2) 2 ++ List.replicate (ns.count 3) 3
def okS (ns : List Nat) (free : Nat) : Bool := if ns.sum + free ≤ 8 then decide (((rowsM ns free (ns.sum + free)).length : Int) = ctM false ns free) && (decide ((((rowsM ns free (ns.sum + free)).filter frB).length : Int) = cfM ns free) && decide (ctM false ns free = ctM false (canon ns) free)) else true
theorem small_tab : (dom.all fun ns => (List.range 3).all fun f => okS ns f) = true := by decide +kernel
end K14
namespace K14
open PySem PySem.Spec PyProof.Rows L2 Sq Exs Nk
theorem mem_dom {ns : List Nat} (hl : ns.length ≤ 3) (hx : ∀ x ∈ ns, x ≤ 3) : ns ∈ dom := by
  unfold dom
  match ns, hl, hx with
  | [], _, _ => simp
  | [a], _, hx =>
    have := hx a (by simp)
    simp
    omega
  | [a, b], _, hx =>
    have := hx a (by simp)
    have := hx b (by simp)
    simp
    omega
  | [a, b, c], _, hx =>
    have := hx a (by simp)
    have := hx b (by simp)
    have := hx c (by simp)
    exact List.mem_append_right _ (List.mem_flatMap.mpr ⟨a, List.mem_range.mpr (by omega), List.mem_flatMap.mpr ⟨b, List.mem_range.mpr (by omega), List.mem_map.mpr ⟨c, List.mem_range.mpr (by omega), rfl⟩⟩⟩)
theorem small_of {ns : List Nat} {free : Nat} (hl : ns.length ≤ 3) (hx : ∀ x ∈ ns, x ≤ 3) (hf : free ≤ 2) (hs : ns.sum + free ≤ 8) :
    ((rowsM ns free (ns.sum + free)).length : Int) = ctM false ns free ∧ (((rowsM ns free (ns.sum + free)).filter frB).length : Int) = cfM ns free ∧ ctM false ns free = ctM false (canon ns) free := by
  have h := List.all_eq_true.mp (List.all_eq_true.mp small_tab ns (mem_dom hl hx)) free (List.mem_range.mpr (by omega))
  unfold okS at h
  rw [if_pos hs] at h
  simp only [Bool.and_eq_true, decide_eq_true_eq] at h
  exact ⟨h.1, h.2.1, h.2.2⟩
theorem perm_sum {ms ns : List Nat} (h : ms.Perm ns) : ms.sum = ns.sum := by
  induction h with
  | nil => rfl
  | cons a _ ih => rw [List.sum_cons, List.sum_cons, ih]
  | swap a b l =>
    rw [List.sum_cons, List.sum_cons, List.sum_cons, List.sum_cons]
    omega
  | trans _ _ h1 h2 => rw [h1, h2]
theorem small_perm {ms ns : List Nat} {free : Nat} (h : ms.Perm ns) (hl : ns.length ≤ 3) (hx : ∀ x ∈ ns, x ≤ 3) (hf : free ≤ 2) (hs : ns.sum + free ≤ 8) : ctM false ms free = ctM false ns free := by
  have h1 := small_of hl hx hf hs
  have h2 := small_of (ns := ms) (free := free) (by rw [h.length_eq]; exact hl) (fun x hm => hx x (h.mem_iff.mp hm)) hf (by rw [perm_sum h]; exact hs)
  have hc : canon ms = canon ns := by
    unfold canon
    rw [h.count_eq 0, h.count_eq 1, h.count_eq 2, h.count_eq 3]
  rw [h2.2.2, hc, ← h1.2.2]
end K14
namespace K14
open PySem PySem.Spec PyProof.Rows L2 Sq Exs Nk
def spTurn : Sp := fun vs H Q _ => ∃ (p c : Addr) (n : Nat), vs = [.ref p] ∧ StrAt H p c n ∧ n ≤ 100000000 ∧ ∀ (H' : Hp) (n' : Nat), Kp p c H H' → StrAt H' p c n' → n' ≤ n + 1000 → Q (.bl true) H'
theorem Kp.ex {p c : Addr} {H H' : Hp} (e : Evl.Ex H H') : Kp p c H H' := fun b o h _ _ => e b o h
theorem Kp.free {p c q : Addr} {H H' : Hp} (k : Kp p c H H') (h : H' q = none) (h1 : q ≠ p) (h2 : q ≠ c) : H q = none := by
  cases z : H q with
  | none => rfl
  | some o =>
    rw [k q o z h1 h2] at h
    cases h
theorem StrAt.ex {H H' : Hp} {p c : Addr} {n : Nat} (h : StrAt H p c n) (e : Evl.Ex H H') : StrAt H' p c n := h.keep e
def spOnA (P : Program) (w : World) (K : PySem.W.Frag) : Sp := fun vs H Q E => ∃ (L : Nat) (fin : Option Int) (n : Nat), L ≤ 3 ∧ n ≤ 24 ∧ spOn P w K L fin n vs H Q E
theorem onA_of {P : Program} {w : World} {K : PySem.W.Frag} {mg : Str → Option Value} {base : Heap} {f : Addr} {fd : FuncData} {ps : List Str} (h : ∀ L fin n, L ≤ 3 → FnOk P w K mg base CX0 n f fd ps (spOn P w K L fin n)) : FnOk P w K mg base CX0 24 f fd ps (spOnA P w K) :=
  ⟨fun vs H Q E ⟨L, fin, n, hL, _, q⟩ => (h L fin n hL).len vs H Q E q, fun A outer s H args us vs Q E hr e0 hb hv ⟨L, fin, n, hL, hn, q⟩ => ((h L fin n hL).mono hn).run A outer s H args us vs Q E hr e0 hb hv q⟩
/-- what the law's head tells of the names that stand behind all of it -/
structure Env14 (P : Program) (w : World) (K : PySem.W.Frag) (mg : Str → Option Value) (base : Heap) (C1 C2 : Addr) : Prop where
  draw : ∃ f fd, mg "_law_draw" = some (.ref f) ∧ FnOk P w K mg base CX0 1 f fd ["stream", "many"] spDraw ∧ PySem.W.keepIn K (.ref f) = true ∧ L2.Binds K fd ["stream", "many"] []
  pick : ∃ f fd, mg "_law_pick" = some (.ref f) ∧ FnOk P w K mg base CX0 2 f fd ["stream", "some"] (spPick K) ∧ PySem.W.keepIn K (.ref f) = true ∧ L2.Binds K fd ["stream", "some"] []
  mixed : ∃ f fd, mg "_law_mixed" = some (.ref f) ∧ FnOk P w K mg base CX0 2 f fd ["stream", "some"] (spMixed K) ∧ PySem.W.keepIn K (.ref f) = true ∧ L2.Binds K fd ["stream", "some"] []
  same : ∃ f fd, mg "_law_same" = some (.ref f) ∧ (∀ n, FnOk P w K mg base CX0 n f fd ["found", "due"] (spSame n)) ∧ PySem.W.keepIn K (.ref f) = true ∧ L2.Binds K fd ["found", "due"] []
  rows : ∃ f fd, mg "_law_rows" = some (.ref f) ∧ FnOk P w K mg base CX0 1 f fd ["signs", "free"] (spRows K) ∧ PySem.W.keepIn K (.ref f) = true ∧ L2.Binds K fd ["signs", "free"] []
  on_ : ∃ f fd, mg "_law_on" = some (.ref f) ∧ FnOk P w K mg base CX0 24 f fd ["signs", "free", "last", "end", "known"] (spOnA P w K) ∧ PySem.W.keepIn K (.ref f) = true ∧ L2.Binds K fd ["signs", "free", "last", "end", "known"] []
  choose : ∃ f fd, mg "_law_m_choose" = some (.ref f) ∧ FnOk P w K mg base CX0 1 f fd ["many", "some"] spCh ∧ PySem.W.keepIn K (.ref f) = true ∧ L2.Binds K fd ["many", "some"] []
  words : ∃ f fd, mg "count_words" = some (.ref f) ∧ FnOk P w K mg base (L2.CX P w) 5 f fd ["signs", "free"] (spCnt K C1 C2 (ctM false)) ∧ PySem.W.keepIn K (.ref f) = true ∧ L2.Binds K fd ["signs", "free"] []
  framed : ∃ f fd, mg "count_framed" = some (.ref f) ∧ FnOk P w K mg base (L2.CX P w) 5 f fd ["signs", "free"] (spCnt K C1 C2 cfM) ∧ PySem.W.keepIn K (.ref f) = true ∧ L2.Binds K fd ["signs", "free"] []
  range : mg "range" = none
  len : mg "len" = none
  list : mg "list" = none
  tuple : mg "tuple" = none
  sum : mg "sum" = none
  int : mg "int" = none
section
variable {P : Program} {w : World} {K : PySem.W.Frag} {mg : Str → Option Value} {base : Heap} {C1 C2 : Addr}
abbrev nmSr : List Str := ["stream", "signs", "free", "rows", "framed", "handed", "k", "row"]
theorem scSr : FnScope nmSr ["stream"] (defScope sSr) := ⟨rfl, rfl, rfl, by decide +kernel, rfl, by decide +kernel, by decide +kernel⟩
/-- a good call of both counts -/
theorem cnt_ok {H : Hp} {t : Bool} {a : Addr} {ns : List Nat} {free : Nat} {m : List Nat → Nat → Int} {Q : VK} {E : XK} (hq : if t then H a = some (.tup (natV ns)) else H a = some (.lst (natV ns))) (hl : ns.length ≤ 99) (hs : ns.sum + free ≤ 49) (k : ∀ H', Evl.Ex H H' → Q (.int (m ns free)) H') :
    spCnt K C1 C2 m [.ref a, .int free] H Q E := by
  have hpl : ∀ y ∈ natV ns, ∃ ty, Pl H y ty := fun y hy => by
    obtain ⟨z, _, rfl⟩ := List.mem_map.mp hy
    exact ⟨_, .int _⟩
  have hnum : fnn (natV ns) = none := fnn_none fun j z hj hz => by
    obtain ⟨z', _, rfl⟩ := List.mem_map.mp (List.mem_of_getElem? hz)
    exact (show decide (0 ≤ ((z' : Nat) : Int)) = true from decide_eq_true (by omega))
  have hv : fnnV true (natV ns) = .non := by
    unfold fnnV
    rw [hnum]
    rfl
  cases t with
  | true =>
    refine ⟨.ref a, .int free, "tuple", "int", natV ns, rfl, ⟨.tup hq, fun _ => ⟨true, a, rfl, SqT.of hq, hpl⟩⟩, .int _, fun z => absurd hv z, fun _ z => ?_, fun _ _ => ⟨true, a, ns, free, rfl, rfl, SqT.of hq, hl, hs, k⟩⟩
    have : numV (.int (free : Int)) = true := (show decide (0 ≤ ((free : Nat) : Int)) = true from decide_eq_true (by omega))
    rw [this] at z
    cases z
  | false =>
    refine ⟨.ref a, .int free, "list", "int", natV ns, rfl, ⟨.lst hq, fun _ => ⟨false, a, rfl, SqL.of hq, hpl⟩⟩, .int _, fun z => absurd hv z, fun _ z => ?_, fun _ _ => ⟨false, a, ns, free, rfl, rfl, SqL.of hq, hl, hs, k⟩⟩
    have : numV (.int (free : Int)) = true := (show decide (0 ≤ ((free : Nat) : Int)) = true from decide_eq_true (by omega))
    rw [this] at z
    cases z
theorem cutV_take2 (xs : List V) : cutV xs none (some 2) = xs.take 2 := by
  unfold cutV
  have e1 : HT.sIx xs.length 0 none = 0 := rfl
  have e2 : HT.sIx xs.length xs.length (some 2) = min 2 xs.length := HT.sIx_nat xs.length xs.length 2
  rw [e1, e2, List.drop_zero, Nat.sub_zero, ← List.take_take, List.take_length]
theorem cutV_take1 (xs : List V) : cutV xs none (some 1) = xs.take 1 := by
  unfold cutV
  have e1 : HT.sIx xs.length 0 none = 0 := rfl
  have e2 : HT.sIx xs.length xs.length (some 1) = min 1 xs.length := HT.sIx_nat xs.length xs.length 1
  rw [e1, e2, List.drop_zero, Nat.sub_zero, ← List.take_take, List.take_length]
theorem atI_neg1 {row : List Int} (h : row ≠ []) : atI (row.map V.int) (-1) = some (V.int (row.getD (row.length - 1) 0)) := by
  have hl : 0 < row.length := List.length_pos_iff.mpr h
  have e : ixN (row.map V.int).length (-1) = some (row.length - 1) := by
    unfold ixN
    rw [List.length_map, if_neg (by decide), if_pos (by omega)]
    congr 1
    omega
  unfold atI
  rw [e]
  show (row.map V.int)[row.length - 1]? = _
  rw [List.getElem?_map, List.getD_eq_getElem?_getD, List.getElem?_eq_getElem (by omega)]
  rfl
def backN : V → Nat
  | .int i => i.toNat
  | _ => 0
theorem perm_nat {ys : List V} {ns : List Nat} (h : ys.Perm (natV ns)) : ∃ ms : List Nat, ys = natV ms ∧ ms.Perm ns := by
  refine ⟨ys.map backN, ?_, ?_⟩
  · unfold natV
    rw [List.map_map]
    refine (List.map_id ys).symm.trans (List.map_congr_left fun y hy => ?_)
    obtain ⟨k, _, rfl⟩ := List.mem_map.mp (h.mem_iff.mp hy)
    rfl
  · have := h.map backN
    unfold natV at this
    rw [List.map_map] at this
    refine this.trans (List.Perm.of_eq ?_)
    exact (List.map_congr_left fun k _ => rfl).trans (List.map_id ns)
theorem ok_sr {f : Addr} {fd : FuncData} (F : FnP K "_law_small_right" sSr f fd) (T : Env14 P w K mg base C1 C2) : FnOk P w K mg base CX0 6 f fd ["stream"] spTurn := by
  obtain ⟨fD, fdD, gD, GD, kD, bD⟩ := T.draw
  obtain ⟨fP, fdP, gP, GP, kP, bP⟩ := T.pick
  obtain ⟨fM, fdM, gM, GM, kM, bM⟩ := T.mixed
  obtain ⟨fS, fdS, gS, GS, kS, bS⟩ := T.same
  obtain ⟨fR, fdR, gR, GR, kR, bR⟩ := T.rows
  obtain ⟨fW, fdW, gW, GW, kW, bW⟩ := T.words
  obtain ⟨fF, fdF, gF, GF, kF, bF⟩ := T.framed
  refine F.ok scSr (fun vs H Q E h => ?_) (fun cdv A outer s H vs Q E hr h => ?_)
  · obtain ⟨p, c, n, rfl, _⟩ := h
    rfl
  · obtain ⟨p, c, n, rfl, hS, hn, k⟩ := h
    refine' ⟨_, PSs.nox (pss_cons (ps_par (i := 1) (j := 2) (by rfl) scSr.nd rfl rfl (by decide) rfl rfl (pa_cons ?lc (pa_cons (pe_call GD (hr.mono (by decide)) (by rfl) gD kD bD .nil pass0 (pa_cons (pv 0) (pa_cons pe_int pa_nil))) pa_nil)) (by rfl))
      (Evl.pss_cut (ps_set (i := 1) scSr.nd rfl (.inl rfl) (pe_ifExp (pt_cmpR op_lt (pe_op op_add (pe_callB (cr_sumK rfl) (by rfl) T.sum (by decide +kernel) (pa_cons (pv 1) pa_nil)) (pv 2)) pe_int (nomark _)) (pv 1) (pe_slice sl_list (pv 1) po_none (po_some pe_int))))
      (pss_cons (ps_set (i := 3) scSr.nd rfl (.inl rfl) (pe_call GR (hr.mono (by decide)) (by rfl) gR kR bR .nil pass0 (pa_cons (pv 1) (pa_cons (pv 2) pa_nil))))
      (pss_cons ?sl
      (pss_cons (ps_set (i := 5) scSr.nd rfl (.inl rfl) (pe_call GP (hr.mono (by decide)) (by rfl) gP kP bP .nil pass0 (pa_cons (pv 0) (pa_cons (pe_lst (pa_cons (pe_callTy call_list_of (by rfl) T.list (by decide +kernel) (pa_cons (pv 1) pa_nil)) (pa_cons (pe_callTy call_tuple_of (by rfl) T.tuple (by decide +kernel) (pa_cons (pv 1) pa_nil)) pa_nil))) pa_nil))))
      (pss_cons (ps_if (pt_not (pt_val (pe_call (GS 2) (hr.mono (by decide)) (by rfl) gS kS bS .nil pass0 (pa_cons (pe_lst (pa_cons (pe_callS GW hr (by rfl) gW kW bW (fun σ => passAt takes0 σ) (pa_cons (pv 5) (pa_cons (pv 2) pa_nil))) (pa_cons (pe_callS GF hr (by rfl) gF kF bF (fun σ => passAt takes0 σ) (pa_cons (pv 5) (pa_cons (pv 2) pa_nil))) pa_nil)))
          (pa_cons (pe_lst (pa_cons (pe_callB call_len_seq (by rfl) T.len PySem.boot_len (pa_cons (pv 3) pa_nil)) (pa_cons (pe_callB call_len_seq (by rfl) T.len PySem.boot_len (pa_cons (pv 4) pa_nil)) pa_nil))) pa_nil))))) (pss_one (ps_ret pe_bl)) pss_nil)
      (pss_one (ps_ret (pe_and (pe_cmpR op_eq (pe_callS GW hr (by rfl) gW kW bW (fun σ => passAt takes0 σ) (pa_cons (pe_call GM (hr.mono (by decide)) (by rfl) gM kM bM .nil pass0 (pa_cons (pv 0) (pa_cons (pv 1) pa_nil))) (pa_cons (pv 2) pa_nil))) (pe_callB call_len_seq (by rfl) T.len PySem.boot_len (pa_cons (pv 3) pa_nil)) (nomark _))
          (pe_one (pe_cmpR (op_eqD hr.units) (pe_callTy call_list_of (by rfl) T.list (by decide +kernel) (pa_cons (pv 5) pa_nil)) (pv 1) (nomark _)))))))))))), ?rd⟩
    case lc =>
      refine pe_lc (own := [("k", 6)]) (g := gName 6) (tt := tYes) (te := tCall spDraw [] E0 (tCons (tVar 0) (tCons (tC (.int 4)) tNil))) rfl scSr.nd (pi_range1 (by rfl) T.range (pa_cons (pe_call GD (hr.mono (by decide)) (by rfl) gD kD bD .nil pass0 (pa_cons (pv 0) (pa_cons pe_int pa_nil))) pa_nil))
        (blkOk_by (own := [("k", 6)]) (N := nmSr) (sc := defScope sSr) (by decide +kernel)) (fun _ _ _ _ _ => pg_name (i := 6) scSr.nd rfl (.inl rfl)) (fun _ _ _ _ _ => pts_nil) ?_
      intro _ _ _ _ _
      exact pe_call GD (hr.mono (by decide)) (by rfl) gD kD bD .nil pass0 (pa_cons (pv 0) (pa_cons pe_int pa_nil))
    case sl =>
      refine ps_setLc (i := 4) (own := [("row", 7)]) (g := gName 7) (tt := tAnd (tTest (tOp (rEqD K) (tSl (rSlL K) (tVar 7) tNoPart (tPart (tC (.int 1)))) (tLst (tCons (tC (.int 0)) tNil)))) (tTest (tOp rNe (tOp (rIxL K) (tVar 7) (tUn (rU fun i => V.int (-i)) (tC (.int 1)))) (tC (.int 0))))) (te := tVar 7) (by rfl) scSr.nd rfl rfl (sw_true rfl rfl rfl (by decide +kernel))
        (pi_list (pv 3)) (blkOk_by (own := [("row", 7)]) (N := nmSr) (sc := defScope sSr) (by decide +kernel)) (fun _ _ _ _ _ => pg_name (i := 7) scSr.nd rfl (.inl rfl)) ?_ (fun _ _ _ _ _ => pv 7)
      intro _ _ _ _ _
      exact pts_one (PW.pt (pw_and (pt_cmpR (op_eqD hr.units) (pe_slice sl_list (pv 7) po_none (po_some pe_int)) (pe_lst (pa_cons pe_int pa_nil)) (nomark _)) (pw_and1 (pt_cmpR op_ne (pe_ix ix_list (pv 7) (pe_un un_neg pe_int) (fun _ _ => rfl)) pe_int (nomark _)))))
    refine ⟨_, rfl, p, c, n, 4, rfl, hS, by omega, by decide, by decide, fun d H1 d0 d1 hK1 hS1 => ⟨_, rfl, by omega, by omega, fun D hD => ?_⟩⟩
    obtain ⟨hDp, hDc⟩ := hS1.ne hD
    refine lc_range (lo := 0) (n := d.toNat) (fun i H' => ∃ ms : List Nat, H' D = some (.lst (natV ms)) ∧ ms.length = i ∧ (∀ x ∈ ms, x ≤ 3) ∧ Kp p c H H' ∧ StrAt H' p c (n + 1 + i)) ⟨[], upd_same, rfl, fun x hx => (nomatch hx), hK1.new hD, hS1.new hD⟩ ?_ ?_
    · rintro i H2 hi ⟨ms, g2, hl2, hx2, hK2, hS2⟩
      refine ⟨rfl, _, rfl, p, c, n + 1 + i, 4, rfl, hS2, by omega, by decide, by decide, fun e H3 e0 e1 hK3 hS3 => ?_⟩
      have g3 := hK3 D _ g2 hDp hDc
      refine ⟨_, g3, ?_, ms ++ [e.toNat], ?_, ?_, ?_, ?_, ?_⟩
      · rw [sizeLine_eq, List.length_map]
        omega
      · rw [upd_same]
        unfold natV
        rw [List.map_append]
        show some (HO.lst (_ ++ [V.int e])) = some (HO.lst (_ ++ [V.int ((e.toNat : Nat) : Int)]))
        rw [show ((e.toNat : Nat) : Int) = e by omega]
      · rw [List.length_append, hl2]
        rfl
      · intro x hx
        rcases List.mem_append.mp hx with z | z
        · exact hx2 x z
        · rw [List.mem_singleton.mp z]
          omega
      · exact (hK2.trans hK3).mut (hK1.free hD hDp hDc)
      · exact (hS3.upd hDp hDc).mono (by omega)
    · rintro H2 ⟨ms, g2, hl2, hx2, hK2, hS2⟩
      refine ⟨_, rfl, p, c, _, 3, rfl, hS2, by omega, by decide, by decide, fun e H3 e0 e1 hK3 hS3 => ⟨_, _, rfl, ?_⟩⟩
      have g3 := hK3 D _ g2 hDp hDc
      have hfe : ((e.toNat : Nat) : Int) = e := by omega
      rw [← hfe]
      refine ⟨fun σ H' => ∃ (a : Addr) (ns : List Nat) (free n' : Nat), σ = [some (.ref p), some (.ref a), some (.int free), none, none, none, none, none] ∧ H' a = some (.lst (natV ns)) ∧ a ≠ p ∧ a ≠ c ∧ ns.length ≤ 3 ∧ (∀ x ∈ ns, x ≤ 3) ∧ free ≤ 2 ∧ ns.sum + free ≤ 8 ∧ Kp p c H H' ∧ StrAt H' p c n' ∧ n' ≤ n + 10, ?_, ?_⟩
      · have g3c : H3 D = some (.lst ((ms.map fun k : Nat => (k : Int)).map V.int)) := by rw [← natV_int]; exact g3
        refine ⟨_, rfl, false, D, _, rfl, SqL.of g3c, _, rfl, _, _, rfl, rfl, _, _, rfl, rfl, decide (ms.sum + e.toNat < 8), ?_, ?_⟩
        · show V.bl (decide ((ms.map fun k : Nat => (k : Int)).sum + ((e.toNat : Nat) : Int) < 8)) = _
          rw [sum_cast]
          congr 1
          rw [decide_eq_decide]
          omega
        · have hKx : Kp p c H H3 := hK2.trans hK3
          refine ite2 (fun hz => ⟨_, rfl, D, ms, e.toNat, _, rfl, g3, hDp, hDc, by omega, hx2, by omega, ?_, hKx, hS3, by omega⟩) (fun hz => ?_)
          · have := of_decide_eq_true hz
            omega
          · refine ⟨_, rfl, _, rfl, D, _, rfl, SqL.of g3, fun q hq => ?_⟩
            obtain ⟨hqp, hqc⟩ := hS3.ne hq
            refine ⟨q, ms.take 2, e.toNat, _, rfl, ?_, hqp, hqc, ?_, ?_, by omega, ?_, hKx.new hq, hS3.new hq, by omega⟩
            · rw [upd_same, cutV_take2]
              unfold natV
              rw [List.map_take]
            · rw [List.length_take]
              omega
            · exact fun x hx => hx2 x (List.mem_of_mem_take hx)
            · have h2 : (ms.take 2).sum ≤ 6 := by
                match ms, hx2 with
                | [], _ => simp
                | [a], hx => have := hx a (by simp); simp; omega
                | a :: b :: r, hx =>
                  have := hx a (by simp)
                  have := hx b (by simp)
                  simp
                  omega
              omega
      · rintro σ H4 ⟨a, ns, free, n', rfl, g4, hap, hac, hl4, hx4, hf4, hs4, hK4, hS4, hn4⟩
        obtain ⟨t1, t2, _⟩ := small_of hl4 hx4 hf4 hs4
        refine ⟨_, rfl, _, rfl, a, ns, free, rfl, SqL.of g4, hl4, hs4, fun H5 fo as e5 hfo g5 r5 => ?_⟩
        obtain ⟨hfop, hfoc⟩ := hS4.ne hfo
        generalize hrows : rowsM ns free (ns.sum + free) = rows at r5 t1 t2
        have hbig : rows.length ≤ 4 ^ 8 := by
          rw [← hrows]
          exact Nat.le_trans (rowsM_len hl4 free _) (Nat.pow_le_pow_right (by decide) (by omega))
        have hasl : as.length = rows.length := r5.length
        refine ⟨_, rfl, fo, rfl, ⟨_, SqL.of g5⟩, fun G hG => ?_⟩
        refine lc_list (xs := as.map V.ref) (fun i H6 => ∃ L : List Addr, Evl.Ex H5 H6 ∧ H6 G = some (.lst (L.map V.ref)) ∧ L.length = ((rows.take i).filter frB).length) ⟨[], Evl.Ex.new hG, upd_same, rfl⟩ ?_ ?_ ?_
        · rintro i H6 _ ⟨L, e6, _⟩
          exact SqL.of (e6 _ _ g5)
        · rintro i x H6 hx ⟨L, e6, g6, hL6⟩
          obtain ⟨ra, row, hra, hrow, gra, rfl⟩ : ∃ ra row, as[i]? = some ra ∧ rows[i]? = some row ∧ H5 ra = some (.lst (row.map V.int)) ∧ x = .ref ra := by
            rw [List.getElem?_map] at hx
            cases ha : as[i]? with
            | none => rw [ha] at hx; cases hx
            | some ra =>
              rw [ha] at hx
              obtain ⟨row, h1, h2⟩ := paired_get r5 ha
              exact ⟨ra, row, rfl, h1, h2, (Option.some.inj hx).symm⟩
          have gr6 := e6 _ _ gra
          have hno : frB row = false → L.length = ((rows.take (i + 1)).filter frB).length := fun z => by
            rw [List.take_succ, hrow, List.filter_append, List.length_append, ← hL6]
            simp [z]
          refine ⟨rfl, _, rfl, _, rfl, ra, _, rfl, SqL.of gr6, fun q hq => ⟨by show 1 ≤ sizeLine; decide, fun q2 hq2 => ?_⟩⟩
          have x1 := (Evl.Ex.new (o := .lst (cutV (row.map V.int) none (some 1))) hq).trans (Evl.Ex.new (o := .lst [.int 0]) hq2)
          have gq := ((Evl.Ex.new (o := .lst [.int 0]) hq2) q _ upd_same).trans (congrArg (fun l => some (HO.lst l)) (show cutV (row.map V.int) none (some 1) = (row.take 1).map V.int by rw [cutV_take1, ← List.map_take]))
          refine ⟨_, _, dp_ints (ns := row.take 1) (SqL.of gq), dp_ints (ns := [0]) (SqL.of upd_same), shaped_ints _, shaped_ints _, _, rfl, ?_⟩
          rw [eqv_ints]
          cases hd : decide (row.take 1 = [0]) with
          | false => exact iteF ⟨L, e6.trans x1, x1 _ _ g6, hno (by unfold frB; rw [hd]; rfl)⟩
          | true =>
            have hne : row ≠ [] := by
              rintro rfl
              simp at hd
            refine iteT ⟨_, rfl, _, rfl, ra, _, -1, _, rfl, rfl, SqL.of (x1 _ _ gr6), atI_neg1 hne, rfl, !decide (row.getD (row.length - 1) 0 = 0), ?_, ?_⟩
            · show V.bl (!decide (V.int (row.getD (row.length - 1) 0) = V.int 0)) = _
              congr 2
              rw [decide_eq_decide]
              exact ⟨fun z => by injection z, fun z => congrArg V.int z⟩
            · cases hd2 : decide (row.getD (row.length - 1) 0 = 0) with
              | true => exact iteF ⟨L, e6.trans x1, x1 _ _ g6, hno (by unfold frB; rw [hd, hd2]; rfl)⟩
              | false =>
                have hyes : frB row = true := by unfold frB; rw [hd, hd2]; rfl
                refine iteT ⟨_, rfl, _, x1 _ _ g6, ?_, L ++ [ra], (e6.trans x1).mut hG, ?_, ?_⟩
                · rw [sizeLine_eq, List.length_map, hL6]
                  have h1 := List.length_filter_le frB (rows.take i)
                  rw [List.length_take] at h1
                  omega
                · rw [upd_same, List.map_append]
                  rfl
                · rw [List.take_succ, hrow, List.filter_append, List.length_append, List.length_append, ← hL6]
                  simp [hyes]
        · rintro H6 ⟨L, e6, g6, hL6⟩
          rw [List.length_map, hasl, List.take_length] at hL6
          have e46 := e5.trans e6
          have S6 := hS4.ex e46
          refine ⟨_, rfl, _, rfl, a, _, rfl, .inl (SqL.of (e46 _ _ g4)), fun l1 hl1 => ?_⟩
          have x1 := Evl.Ex.new (o := .lst (natV ns)) hl1
          refine ⟨_, rfl, a, _, rfl, .inl ⟨SqL.of (x1 _ _ (e46 _ _ g4)), fun l2 hl2 => ⟨by show 2 ≤ sizeLine; decide, fun l3 hl3 => ?_⟩⟩⟩
          have x2 := Evl.Ex.new (o := .tup (natV ns)) hl2
          have x3 := Evl.Ex.new (o := .lst [V.ref l1, V.ref l2]) hl3
          have e7 := (x1.trans x2).trans x3
          have S7 := S6.ex e7
          obtain ⟨a1, a2⟩ := S6.ne hl1
          obtain ⟨b1, b2⟩ := (S6.ex x1).ne hl2
          obtain ⟨c1, c2⟩ := (S6.ex (x1.trans x2)).ne hl3
          obtain ⟨d1, d2⟩ := (hS4.ex e5).ne hG
          refine ⟨p, c, l3, n', [V.ref l1, V.ref l2], rfl, S7, by omega, c1, c2, .inl upd_same, by show 1 ≤ 2; decide, by show 2 < 1000000; decide, fun x j H8 hj hK8 hS8 => ?_⟩
          have g1 := hK8 l1 _ ((x2.trans x3) _ _ upd_same) a1 a2
          have g2 := hK8 l2 _ (x3 _ _ upd_same) b1 b2
          obtain ⟨t, hb, rfl, hbp, hbc, ghb⟩ : ∃ (t : Bool) (hb : Addr), x = .ref hb ∧ hb ≠ p ∧ hb ≠ c ∧ if t then H8 hb = some (.tup (natV ns)) else H8 hb = some (.lst (natV ns)) := by
            match j, hj with
            | 0, hj =>
              simp at hj
              exact ⟨false, l1, hj.symm, a1, a2, g1⟩
            | 1, hj =>
              simp at hj
              exact ⟨true, l2, hj.symm, b1, b2, g2⟩
            | j + 2, hj => simp at hj
          have ga8 := hK8 a _ (e7 _ _ (e46 _ _ g4)) hap hac
          have gfo8 := hK8 fo _ (e7 _ _ (e6 _ _ g5)) hfop hfoc
          have gG8 := hK8 G _ (e7 _ _ g6) d1 d2
          have hK08 : Kp p c H H8 := (hK4.trans (Kp.ex (e46.trans e7))).trans hK8
          have hbe : ∀ {H9 : Hp}, Evl.Ex H8 H9 → if t then H9 hb = some (.tup (natV ns)) else H9 hb = some (.lst (natV ns)) := fun {H9} e => by
            cases t with
            | true => exact e _ _ ghb
            | false => exact e _ _ ghb
          refine ⟨_, rfl, _, rfl, ?_⟩
          dsimp only [tNil]
          refine cnt_ok (K := K) (C1 := C1) (C2 := C2) (t := t) (a := hb) (ns := ns) (free := free) (m := ctM false) (hbe (Evl.Ex.refl _)) (by omega) (by omega) fun H9 e9 => ?_
          refine ⟨_, rfl, _, rfl, ?_⟩
          dsimp only [tNil]
          refine cnt_ok (K := K) (C1 := C1) (C2 := C2) (t := t) (a := hb) (ns := ns) (free := free) (m := cfM) (hbe e9) (by omega) (by omega) fun H10 e10 => ⟨by show 2 ≤ sizeLine; decide, fun m1 hm1 => ?_⟩
          have y1 := Evl.Ex.new (o := .lst [V.int (ctM false ns free), V.int (cfM ns free)]) hm1
          have e11 := (e9.trans e10).trans y1
          refine ⟨_, rfl, fo, _, rfl, .inl (SqL.of (e11 _ _ gfo8)), _, rfl, G, _, rfl, .inl (SqL.of (e11 _ _ gG8)), by show 2 ≤ sizeLine; decide, fun m2 hm2 => ?_⟩
          have y2 := Evl.Ex.new (o := .lst [V.int (((as.map V.ref).length : Nat) : Int), V.int (((L.map V.ref).length : Nat) : Int)]) hm2
          have hv1 : (((as.map V.ref).length : Nat) : Int) = ctM false ns free := by rw [List.length_map, hasl, t1]
          have hv2 : (((L.map V.ref).length : Nat) : Int) = cfM ns free := by rw [List.length_map, hL6, t2]
          refine ⟨_, _, rfl, .inr (.inl ⟨m1, m2, _, _, rfl, rfl, y2 _ _ upd_same, upd_same, by show 2 ≤ 1000; decide, .cons (.inl ⟨rfl, by rw [hv1]⟩) (.cons (.inl ⟨rfl, by rw [hv2]⟩) .nil)⟩), fun H12 e12 => ⟨_, rfl, iteF ?_⟩⟩
          have e8 := (e11.trans y2).trans e12
          have S12 := hS8.ex e8
          refine ⟨_, rfl, _, rfl, p, c, a, _, natV ns, rfl, S12, by rw [List.length_map]; omega, .inl (SqL.of (e8 _ _ ga8)), by rw [List.length_map]; omega, fun q ys H13 hq13 gq13 hperm hK13 hS13 => ?_⟩
          obtain ⟨ms, rfl, hpm⟩ := perm_nat hperm
          refine ⟨_, rfl, ?_⟩
          dsimp only [tNil]
          refine cnt_ok (K := K) (C1 := C1) (C2 := C2) (t := false) (a := q) (ns := ms) (free := free) (m := ctM false) gq13 (by rw [hpm.length_eq]; omega) (by rw [perm_sum hpm]; omega) fun H14 e14 => ?_
          have hfo14 := e14 _ _ (hK13 fo _ (e8 _ _ gfo8) hfop hfoc)
          refine ⟨_, rfl, fo, _, rfl, .inl (SqL.of hfo14), rfl, _, rfl, ?_⟩
          have hv3 : ctM false ms free = (((as.map V.ref).length : Nat) : Int) := by rw [small_perm hpm hl4 hx4 hf4 hs4, hv1]
          refine ite2 (fun _ => ?_) (fun z => absurd (decide_eq_true (by rw [hv3])) z)
          have ghb14 : if t then H14 hb = some (.tup (natV ns)) else H14 hb = some (.lst (natV ns)) := by
            have := hbe e8
            cases t with
            | true => exact e14 _ _ (hK13 hb _ this hbp hbc)
            | false => exact e14 _ _ (hK13 hb _ this hbp hbc)
          have ga14 := e14 _ _ (hK13 a _ (e8 _ _ ga8) hap hac)
          have hsq : SqL K H14 hb (natV ns) ∨ SqT K H14 hb (natV ns) := by
            cases t with
            | true => exact .inr (SqT.of ghb14)
            | false => exact .inl (SqL.of ghb14)
          refine ⟨_, rfl, hb, natV ns, rfl, hsq, fun l4 hl4' => ?_⟩
          have z1 := Evl.Ex.new (o := .lst (natV ns)) hl4'
          refine ⟨_, rfl, _, _, dp_ints (ns := ns.map fun k : Nat => (k : Int)) (SqL.of ?_), dp_ints (ns := ns.map fun k : Nat => (k : Int)) (SqL.of ?_), shaped_ints _, shaped_ints _, ?_⟩
          · rw [upd_same, natV_int]
          · rw [← natV_int]
            exact z1 _ _ ga14
          · rw [eqv_ints, decide_eq_true rfl]
            refine k _ _ (((hK08.trans (Kp.ex e8)).trans hK13).trans (Kp.ex (e14.trans z1))) ((hS13.ex e14).ex z1) ?_
            rw [List.length_map]
            omega
end
end K14
namespace K14
open PySem PySem.Spec PyProof.Rows L2 Sq Exs Nk
/-! ### the numbers of _law_on, as tables -/
abbrev Tb : Type := List (List (List (List (List Nat))))
def tbN0 : List (List (List (List Nat))) := [[[[1,1,1,1],[1,1,1,1],[1,1,1,1],[1,1,1,1]],[[1,1,1,0],[2,2,2,1],[3,3,3,2],[4,4,4,3]],[[0,0,0,0],[1,1,1,0],[3,3,3,1],[6,6,6,3]],[[0,0,0,0],[0,0,0,0],[1,1,1,0],[4,4,4,1]],[[0,0,0,0],[0,0,0,0],[0,0,0,0],[1,1,1,0]],[[0,0,0,0],[0,0,0,0],[0,0,0,0],[0,0,0,0]]],[[[1,1,0,1],[2,2,1,2],[3,3,2,3],[4,4,3,4]],[[2,2,1,1],[6,6,4,4],[12,12,9,9],[20,20,16,16]],[[1,1,1,0],[6,6,5,2],[18,18,15,9],[40,40,34,24]],[[0,0,0,0],[2,2,2,0],[12,12,11,3],[40,40,36,16]],[[0,0,0,0],[0,0,0,0],[3,3,3,0],[20,20,19,4]],[[0,0,0,0],[0,0,0,0],[0,0,0,0],[4,4,4,0]]],[[[0,0,0,0],[1,1,0,1],[3,3,1,3],[6,6,3,6]],[[1,1,0,1],[6,6,2,5],[18,18,9,15],[40,40,24,34]],[[2,2,1,1],[12,12,7,7],[42,42,27,27],[110,110,76,76]],[[1,1,1,0],[10,10,8,3],[48,48,37,21],[160,160,124,84]],[[0,0,0,0],[3,3,3,0],[27,27,24,6],[130,130,111,46]],[[0,0,0,0],[0,0,0,0],[6,6,6,0],[56,56,52,10]]],[[[0,0,0,0],[0,0,0,0],[1,1,0,1],[4,4,1,4]],[[0,0,0,0],[2,2,0,2],[12,12,3,11],[40,40,16,36]],[[1,1,0,1],[10,10,3,8],[48,48,21,37],[160,160,84,124]],[[2,2,1,1],[18,18,10,10],[92,92,55,55],[340,340,216,216]],[[1,1,1,0],[14,14,11,4],[93,93,69,38],[420,420,309,204]],[[0,0,0,0],[4,4,4,0],[48,48,42,10],[304,304,252,100]]],[[[0,0,0,0],[0,0,0,0],[0,0,0,0],[1,1,0,1]],[[0,0,0,0],[0,0,0,0],[3,3,0,3],[20,20,4,19]],[[0,0,0,0],[3,3,0,3],[27,27,6,24],[130,130,46,111]],[[1,1,0,1],[14,14,4,11],[93,93,38,69],[420,420,204,309]],[[2,2,1,1],[24,24,13,13],[162,162,93,93],[780,780,471,471]],[[1,1,1,0],[18,18,14,5],[153,153,111,60],[876,876,624,405]]],[[[0,0,0,0],[0,0,0,0],[0,0,0,0],[0,0,0,0]],[[0,0,0,0],[0,0,0,0],[0,0,0,0],[4,4,0,4]],[[0,0,0,0],[0,0,0,0],[6,6,0,6],[56,56,10,52]],[[0,0,0,0],[4,4,0,4],[48,48,10,42],[304,304,100,252]],[[1,1,0,1],[18,18,5,14],[153,153,60,111],[876,876,405,624]],[[2,2,1,1],[30,30,16,16],[252,252,141,141],[1500,1500,876,876]]]]
def tbN1 : List (List (List (List Nat))) := [[[[1,0,1,1],[2,1,2,2],[3,2,3,3],[4,3,4,4]],[[2,1,2,1],[6,4,6,4],[12,9,12,9],[20,16,20,16]],[[1,1,1,0],[6,5,6,2],[18,15,18,9],[40,34,40,24]],[[0,0,0,0],[2,2,2,0],[12,11,12,3],[40,36,40,16]],[[0,0,0,0],[0,0,0,0],[3,3,3,0],[20,19,20,4]],[[0,0,0,0],[0,0,0,0],[0,0,0,0],[4,4,4,0]]],[[[2,1,1,2],[6,4,4,6],[12,9,9,12],[20,16,16,20]],[[6,4,4,4],[24,18,18,18],[60,48,48,48],[120,100,100,100]],[[6,5,5,2],[36,30,30,18],[120,102,102,72],[300,260,260,200]],[[2,2,2,0],[24,22,22,6],[120,108,108,48],[400,360,360,200]],[[0,0,0,0],[6,6,6,0],[60,57,57,12],[300,280,280,100]],[[0,0,0,0],[0,0,0,0],[12,12,12,0],[120,116,116,20]]],[[[1,1,0,1],[6,5,2,6],[18,15,9,18],[40,34,24,40]],[[6,5,2,5],[36,30,18,30],[120,102,72,102],[300,260,200,260]],[[12,10,7,7],[84,72,54,54],[330,288,228,228],[960,850,700,700]],[[10,9,8,3],[96,86,74,42],[480,432,372,252],[1700,1540,1340,1000]],[[3,3,3,0],[54,51,48,12],[390,363,333,138],[1800,1670,1520,800]],[[0,0,0,0],[12,12,12,0],[168,162,156,30],[1140,1084,1024,340]]],[[[0,0,0,0],[2,2,0,2],[12,11,3,12],[40,36,16,40]],[[2,2,0,2],[24,22,6,22],[120,108,48,108],[400,360,200,360]],[[10,9,3,8],[96,86,42,74],[480,432,252,372],[1700,1540,1000,1340]],[[18,16,10,10],[184,166,110,110],[1020,928,648,648],[4040,3700,2700,2700]],[[14,13,11,4],[186,172,138,76],[1260,1167,927,612],[5900,5480,4380,3200]],[[4,4,4,0],[96,92,84,20],[912,864,756,300],[5440,5136,4416,2240]]],[[[0,0,0,0],[0,0,0,0],[3,3,0,3],[20,19,4,20]],[[0,0,0,0],[6,6,0,6],[60,57,12,57],[300,280,100,280]],[[3,3,0,3],[54,51,12,48],[390,363,138,333],[1800,1670,800,1520]],[[14,13,4,11],[186,172,76,138],[1260,1167,612,927],[5900,5480,3200,4380]],[[24,22,13,13],[324,300,186,186],[2340,2178,1413,1413],[11880,11100,7500,7500]],[[18,17,14,5],[306,288,222,120],[2628,2475,1872,1215],[15420,14544,11004,7920]]],[[[0,0,0,0],[0,0,0,0],[0,0,0,0],[4,4,0,4]],[[0,0,0,0],[0,0,0,0],[12,12,0,12],[120,116,20,116]],[[0,0,0,0],[12,12,0,12],[168,162,30,156],[1140,1084,340,1024]],[[4,4,0,4],[96,92,20,84],[912,864,300,756],[5440,5136,2240,4416]],[[18,17,5,14],[306,288,120,222],[2628,2475,1215,1872],[15420,14544,7920,11004]],[[30,28,16,16],[504,474,282,282],[4500,4248,2628,2628],[28008,26508,17004,17004]]]]
def tbN2 : List (List (List (List Nat))) := [[[[0,0,0,0],[1,0,1,1],[3,1,3,3],[6,3,6,6]],[[1,0,1,1],[6,2,6,5],[18,9,18,15],[40,24,40,34]],[[2,1,2,1],[12,7,12,7],[42,27,42,27],[110,76,110,76]],[[1,1,1,0],[10,8,10,3],[48,37,48,21],[160,124,160,84]],[[0,0,0,0],[3,3,3,0],[27,24,27,6],[130,111,130,46]],[[0,0,0,0],[0,0,0,0],[6,6,6,0],[56,52,56,10]]],[[[1,0,1,1],[6,2,5,6],[18,9,15,18],[40,24,34,40]],[[6,2,5,5],[36,18,30,30],[120,72,102,102],[300,200,260,260]],[[12,7,10,7],[84,54,72,54],[330,228,288,228],[960,700,850,700]],[[10,8,9,3],[96,74,86,42],[480,372,432,252],[1700,1340,1540,1000]],[[3,3,3,0],[54,48,51,12],[390,333,363,138],[1800,1520,1670,800]],[[0,0,0,0],[12,12,12,0],[168,156,162,30],[1140,1024,1084,340]]],[[[2,1,1,2],[12,7,7,12],[42,27,27,42],[110,76,76,110]],[[12,7,7,10],[84,54,54,72],[330,228,228,288],[960,700,700,850]],[[30,20,20,20],[246,174,174,174],[1110,822,822,822],[3660,2810,2810,2810]],[[38,29,29,18],[384,298,298,210],[2070,1638,1638,1248],[7960,6420,6420,5150]],[[24,21,21,6],[336,285,285,126],[2310,1947,1947,1062],[10800,9130,9130,5650]],[[6,6,6,0],[156,144,144,30],[1542,1380,1380,480],[9360,8276,8276,3710]]],[[[1,1,0,1],[10,8,3,10],[48,37,21,48],[160,124,84,160]],[[10,8,3,9],[96,74,42,86],[480,372,252,432],[1700,1340,1000,1540]],[[38,29,18,29],[384,298,210,298],[2070,1638,1248,1638],[7960,6420,5150,6420]],[[74,58,45,45],[836,670,538,538],[5040,4112,3402,3402],[21580,17880,15160,15160]],[[79,66,58,34],[1074,902,789,536],[7590,6423,5643,4188],[37360,31880,28230,22200]],[[44,40,38,10],[816,724,672,280],[7248,6384,5868,3060],[42860,37724,34584,20660]]],[[[0,0,0,0],[3,3,0,3],[27,24,6,27],[130,111,46,130]],[[3,3,0,3],[54,48,12,51],[390,333,138,363],[1800,1520,800,1670]],[[24,21,6,21],[336,285,126,285],[2310,1947,1062,1947],[10800,9130,5650,9130]],[[79,66,34,58],[1074,902,536,789],[7590,6423,4188,5643],[37360,31880,22200,28230]],[[138,116,80,80],[2016,1716,1227,1227],[15480,13302,9837,9837],[83040,71940,54810,54810]],[[135,118,97,55],[2322,2034,1650,1095],[20502,18027,14634,10665],[124440,109896,89856,69630]]],[[[0,0,0,0],[0,0,0,0],[6,6,0,6],[56,52,10,56]],[[0,0,0,0],[12,12,0,12],[168,156,30,162],[1140,1024,340,1084]],[[6,6,0,6],[156,144,30,144],[1542,1380,480,1380],[9360,8276,3710,8276]],[[44,40,10,38],[816,724,280,672],[7248,6384,3060,5868],[42860,37724,20660,34584]],[[135,118,55,97],[2322,2034,1095,1650],[20502,18027,10665,14634],[124440,109896,69630,89856]],[[222,194,125,125],[3996,3522,2346,2346],[37512,33264,22878,22878],[243732,217224,153876,153876]]]]
def tbN3 : List (List (List (List Nat))) := [[[[0,0,0,0],[0,0,0,0],[1,0,1,1],[4,1,4,4]],[[0,0,0,0],[2,0,2,2],[12,3,12,11],[40,16,40,36]],[[1,0,1,1],[10,3,10,8],[48,21,48,37],[160,84,160,124]],[[2,1,2,1],[18,10,18,10],[92,55,92,55],[340,216,340,216]],[[1,1,1,0],[14,11,14,4],[93,69,93,38],[420,309,420,204]],[[0,0,0,0],[4,4,4,0],[48,42,48,10],[304,252,304,100]]],[[[0,0,0,0],[2,0,2,2],[12,3,11,12],[40,16,36,40]],[[2,0,2,2],[24,6,22,22],[120,48,108,108],[400,200,360,360]],[[10,3,9,8],[96,42,86,74],[480,252,432,372],[1700,1000,1540,1340]],[[18,10,16,10],[184,110,166,110],[1020,648,928,648],[4040,2700,3700,2700]],[[14,11,13,4],[186,138,172,76],[1260,927,1167,612],[5900,4380,5480,3200]],[[4,4,4,0],[96,84,92,20],[912,756,864,300],[5440,4416,5136,2240]]],[[[1,0,1,1],[10,3,8,10],[48,21,37,48],[160,84,124,160]],[[10,3,8,9],[96,42,74,86],[480,252,372,432],[1700,1000,1340,1540]],[[38,18,29,29],[384,210,298,298],[2070,1248,1638,1638],[7960,5150,6420,6420]],[[74,45,58,45],[836,538,670,538],[5040,3402,4112,3402],[21580,15160,17880,15160]],[[79,58,66,34],[1074,789,902,536],[7590,5643,6423,4188],[37360,28230,31880,22200]],[[44,38,40,10],[816,672,724,280],[7248,5868,6384,3060],[42860,34584,37724,20660]]],[[[2,1,1,2],[18,10,10,18],[92,55,55,92],[340,216,216,340]],[[18,10,10,16],[184,110,110,166],[1020,648,648,928],[4040,2700,2700,3700]],[[74,45,45,58],[836,538,538,670],[5040,3402,3402,4112],[21580,15160,15160,17880]],[[174,116,116,116],[2184,1514,1514,1514],[14520,10408,10408,10408],[68160,50280,50280,50280]],[[248,182,182,132],[3566,2664,2664,2052],[26820,20397,20397,16412],[140860,108980,108980,90580]],[[212,172,172,80],[3712,2988,2988,1660],[32892,26508,26508,16480],[198920,161196,161196,108340]]],[[[1,1,0,1],[14,11,4,14],[93,69,38,93],[420,309,204,420]],[[14,11,4,13],[186,138,76,172],[1260,927,612,1167],[5900,4380,3200,5480]],[[79,58,34,66],[1074,789,536,902],[7590,5643,4188,6423],[37360,28230,22200,31880]],[[248,182,132,182],[3566,2664,2052,2664],[26820,20397,16412,20397],[140860,108980,90580,108980]],[[480,364,298,298],[7524,5808,4860,4860],[61620,48318,41223,41223],[351520,279580,242540,242540]],[[588,470,416,290],[10470,8436,7482,5610],[96228,78201,69720,55005],[609860,499964,448664,367320]]],[[[0,0,0,0],[4,4,0,4],[48,42,10,48],[304,252,100,304]],[[4,4,0,4],[96,84,20,92],[912,756,300,864],[5440,4416,2240,5136]],[[44,38,10,40],[816,672,280,724],[7248,5868,3060,6384],[42860,34584,20660,37724]],[[212,172,80,172],[3712,2988,1660,2988],[32892,26508,16480,26508],[198920,161196,108340,161196]],[[588,470,290,416],[10470,8436,5610,7482],[96228,78201,55005,69720],[609860,499964,367320,448664]],[[1026,832,610,610],[19512,15990,12030,12030],[192216,158952,122496,122496],[1306768,1089544,858104,858104]]]]
def tbN4 : List (List (List (List Nat))) := [[[[0,0,0,0],[0,0,0,0],[0,0,0,0],[1,0,1,1]],[[0,0,0,0],[0,0,0,0],[3,0,3,3],[20,4,20,19]],[[0,0,0,0],[3,0,3,3],[27,6,27,24],[130,46,130,111]],[[1,0,1,1],[14,4,14,11],[93,38,93,69],[420,204,420,309]],[[2,1,2,1],[24,13,24,13],[162,93,162,93],[780,471,780,471]],[[1,1,1,0],[18,14,18,5],[153,111,153,60],[876,624,876,405]]],[[[0,0,0,0],[0,0,0,0],[3,0,3,3],[20,4,19,20]],[[0,0,0,0],[6,0,6,6],[60,12,57,57],[300,100,280,280]],[[3,0,3,3],[54,12,51,48],[390,138,363,333],[1800,800,1670,1520]],[[14,4,13,11],[186,76,172,138],[1260,612,1167,927],[5900,3200,5480,4380]],[[24,13,22,13],[324,186,300,186],[2340,1413,2178,1413],[11880,7500,11100,7500]],[[18,14,17,5],[306,222,288,120],[2628,1872,2475,1215],[15420,11004,14544,7920]]],[[[0,0,0,0],[3,0,3,3],[27,6,24,27],[130,46,111,130]],[[3,0,3,3],[54,12,48,51],[390,138,333,363],[1800,800,1520,1670]],[[24,6,21,21],[336,126,285,285],[2310,1062,1947,1947],[10800,5650,9130,9130]],[[79,34,66,58],[1074,536,902,789],[7590,4188,6423,5643],[37360,22200,31880,28230]],[[138,80,116,80],[2016,1227,1716,1227],[15480,9837,13302,9837],[83040,54810,71940,54810]],[[135,97,118,55],[2322,1650,2034,1095],[20502,14634,18027,10665],[124440,89856,109896,69630]]],[[[1,0,1,1],[14,4,11,14],[93,38,69,93],[420,204,309,420]],[[14,4,11,13],[186,76,138,172],[1260,612,927,1167],[5900,3200,4380,5480]],[[79,34,58,66],[1074,536,789,902],[7590,4188,5643,6423],[37360,22200,28230,31880]],[[248,132,182,182],[3566,2052,2664,2664],[26820,16412,20397,20397],[140860,90580,108980,108980]],[[480,298,364,298],[7524,4860,5808,4860],[61620,41223,48318,41223],[351520,242540,279580,242540]],[[588,416,470,290],[10470,7482,8436,5610],[96228,69720,78201,55005],[609860,448664,499964,367320]]],[[[2,1,1,2],[24,13,13,24],[162,93,93,162],[780,471,471,780]],[[24,13,13,22],[324,186,186,300],[2340,1413,1413,2178],[11880,7500,7500,11100]],[[138,80,80,116],[2016,1227,1227,1716],[15480,9837,9837,13302],[83040,54810,54810,71940]],[[480,298,298,364],[7524,4860,4860,5808],[61620,41223,41223,48318],[351520,242540,242540,279580]],[[1092,728,728,728],[18516,12708,12708,12708],[163470,115152,115152,115152],[1002210,722630,722630,722630]],[[1668,1198,1198,940],[31248,22812,22812,18540],[302802,224601,224601,187650],[2025360,1525396,1525396,1302730]]],[[[1,1,0,1],[18,14,5,18],[153,111,60,153],[876,624,405,876]],[[18,14,5,17],[306,222,120,288],[2628,1872,1215,2475],[15420,11004,7920,14544]],[[135,97,55,118],[2322,1650,1095,2034],[20502,14634,10665,18027],[124440,89856,69630,109896]],[[588,416,290,470],[10470,7482,5610,8436],[96228,69720,55005,78201],[609860,448664,367320,499964]],[[1668,1198,940,1198],[31248,22812,18540,22812],[302802,224601,187650,224601],[2025360,1525396,1302730,1525396]],[[3228,2396,2030,2030],[64842,48852,42030,42030],[672996,514044,448395,448395],[4813332,3723788,3287936,3287936]]]]
def tbN5 : List (List (List (List Nat))) := [[[[0,0,0,0],[0,0,0,0],[0,0,0,0],[0,0,0,0]],[[0,0,0,0],[0,0,0,0],[0,0,0,0],[4,0,4,4]],[[0,0,0,0],[0,0,0,0],[6,0,6,6],[56,10,56,52]],[[0,0,0,0],[4,0,4,4],[48,10,48,42],[304,100,304,252]],[[1,0,1,1],[18,5,18,14],[153,60,153,111],[876,405,876,624]],[[2,1,2,1],[30,16,30,16],[252,141,252,141],[1500,876,1500,876]]],[[[0,0,0,0],[0,0,0,0],[0,0,0,0],[4,0,4,4]],[[0,0,0,0],[0,0,0,0],[12,0,12,12],[120,20,116,116]],[[0,0,0,0],[12,0,12,12],[168,30,162,156],[1140,340,1084,1024]],[[4,0,4,4],[96,20,92,84],[912,300,864,756],[5440,2240,5136,4416]],[[18,5,17,14],[306,120,288,222],[2628,1215,2475,1872],[15420,7920,14544,11004]],[[30,16,28,16],[504,282,474,282],[4500,2628,4248,2628],[28008,17004,26508,17004]]],[[[0,0,0,0],[0,0,0,0],[6,0,6,6],[56,10,52,56]],[[0,0,0,0],[12,0,12,12],[168,30,156,162],[1140,340,1024,1084]],[[6,0,6,6],[156,30,144,144],[1542,480,1380,1380],[9360,3710,8276,8276]],[[44,10,40,38],[816,280,724,672],[7248,3060,6384,5868],[42860,20660,37724,34584]],[[135,55,118,97],[2322,1095,2034,1650],[20502,10665,18027,14634],[124440,69630,109896,89856]],[[222,125,194,125],[3996,2346,3522,2346],[37512,22878,33264,22878],[243732,153876,217224,153876]]],[[[0,0,0,0],[4,0,4,4],[48,10,42,48],[304,100,252,304]],[[4,0,4,4],[96,20,84,92],[912,300,756,864],[5440,2240,4416,5136]],[[44,10,38,40],[816,280,672,724],[7248,3060,5868,6384],[42860,20660,34584,37724]],[[212,80,172,172],[3712,1660,2988,2988],[32892,16480,26508,26508],[198920,108340,161196,161196]],[[588,290,470,416],[10470,5610,8436,7482],[96228,55005,78201,69720],[609860,367320,499964,448664]],[[1026,610,832,610],[19512,12030,15990,12030],[192216,122496,158952,122496],[1306768,858104,1089544,858104]]],[[[1,0,1,1],[18,5,14,18],[153,60,111,153],[876,405,624,876]],[[18,5,14,17],[306,120,222,288],[2628,1215,1872,2475],[15420,7920,11004,14544]],[[135,55,97,118],[2322,1095,1650,2034],[20502,10665,14634,18027],[124440,69630,89856,109896]],[[588,290,416,470],[10470,5610,7482,8436],[96228,55005,69720,78201],[609860,367320,448664,499964]],[[1668,940,1198,1198],[31248,18540,22812,22812],[302802,187650,224601,224601],[2025360,1302730,1525396,1525396]],[[3228,2030,2396,2030],[64842,42030,48852,42030],[672996,448395,514044,448395],[4813332,3287936,3723788,3287936]]],[[[2,1,1,2],[30,16,16,30],[252,141,141,252],[1500,876,876,1500]],[[30,16,16,28],[504,282,282,474],[4500,2628,2628,4248],[28008,17004,17004,26508]],[[222,125,125,194],[3996,2346,2346,3522],[37512,22878,22878,33264],[243732,153876,153876,217224]],[[1026,610,610,832],[19512,12030,12030,15990],[192216,122496,122496,158952],[1306768,858104,858104,1089544]],[[3228,2030,2030,2396],[64842,42030,42030,48852],[672996,448395,448395,514044],[4813332,3287936,3287936,3723788]],[[7188,4792,4792,4792],[153744,104892,104892,104892],[1695876,1181832,1181832,1181832],[12867240,9143452,9143452,9143452]]]]
def tbN : Tb := [tbN0, tbN1, tbN2, tbN3, tbN4, tbN5]
def tbZ0 : List (List (List (List Nat))) := [[[[1,0,1,1],[1,1,1,1],[1,1,1,1],[1,1,1,1]],[[1,1,1,0],[2,2,2,1],[3,3,3,2],[4,4,4,3]],[[0,0,0,0],[1,1,1,0],[3,3,3,1],[6,6,6,3]],[[0,0,0,0],[0,0,0,0],[1,1,1,0],[4,4,4,1]],[[0,0,0,0],[0,0,0,0],[0,0,0,0],[1,1,1,0]],[[0,0,0,0],[0,0,0,0],[0,0,0,0],[0,0,0,0]]],[[[1,1,0,1],[2,2,1,2],[3,3,2,3],[4,4,3,4]],[[2,2,1,1],[6,6,4,4],[12,12,9,9],[20,20,16,16]],[[1,1,1,0],[6,6,5,2],[18,18,15,9],[40,40,34,24]],[[0,0,0,0],[2,2,2,0],[12,12,11,3],[40,40,36,16]],[[0,0,0,0],[0,0,0,0],[3,3,3,0],[20,20,19,4]],[[0,0,0,0],[0,0,0,0],[0,0,0,0],[4,4,4,0]]],[[[0,0,0,0],[1,1,0,1],[3,3,1,3],[6,6,3,6]],[[1,1,0,1],[6,6,2,5],[18,18,9,15],[40,40,24,34]],[[2,2,1,1],[12,12,7,7],[42,42,27,27],[110,110,76,76]],[[1,1,1,0],[10,10,8,3],[48,48,37,21],[160,160,124,84]],[[0,0,0,0],[3,3,3,0],[27,27,24,6],[130,130,111,46]],[[0,0,0,0],[0,0,0,0],[6,6,6,0],[56,56,52,10]]],[[[0,0,0,0],[0,0,0,0],[1,1,0,1],[4,4,1,4]],[[0,0,0,0],[2,2,0,2],[12,12,3,11],[40,40,16,36]],[[1,1,0,1],[10,10,3,8],[48,48,21,37],[160,160,84,124]],[[2,2,1,1],[18,18,10,10],[92,92,55,55],[340,340,216,216]],[[1,1,1,0],[14,14,11,4],[93,93,69,38],[420,420,309,204]],[[0,0,0,0],[4,4,4,0],[48,48,42,10],[304,304,252,100]]],[[[0,0,0,0],[0,0,0,0],[0,0,0,0],[1,1,0,1]],[[0,0,0,0],[0,0,0,0],[3,3,0,3],[20,20,4,19]],[[0,0,0,0],[3,3,0,3],[27,27,6,24],[130,130,46,111]],[[1,1,0,1],[14,14,4,11],[93,93,38,69],[420,420,204,309]],[[2,2,1,1],[24,24,13,13],[162,162,93,93],[780,780,471,471]],[[1,1,1,0],[18,18,14,5],[153,153,111,60],[876,876,624,405]]],[[[0,0,0,0],[0,0,0,0],[0,0,0,0],[0,0,0,0]],[[0,0,0,0],[0,0,0,0],[0,0,0,0],[4,4,0,4]],[[0,0,0,0],[0,0,0,0],[6,6,0,6],[56,56,10,52]],[[0,0,0,0],[4,4,0,4],[48,48,10,42],[304,304,100,252]],[[1,1,0,1],[18,18,5,14],[153,153,60,111],[876,876,405,624]],[[2,2,1,1],[30,30,16,16],[252,252,141,141],[1500,1500,876,876]]]]
def tbZ1 : List (List (List (List Nat))) := [[[[0,0,0,0],[1,0,1,1],[2,1,2,2],[3,2,3,3]],[[1,0,1,1],[4,2,4,3],[9,6,9,7],[16,12,16,13]],[[1,1,1,0],[5,4,5,2],[15,12,15,8],[34,28,34,21]],[[0,0,0,0],[2,2,2,0],[11,10,11,3],[36,32,36,15]],[[0,0,0,0],[0,0,0,0],[3,3,3,0],[19,18,19,4]],[[0,0,0,0],[0,0,0,0],[0,0,0,0],[4,4,4,0]]],[[[1,0,1,1],[4,2,3,4],[9,6,7,9],[16,12,13,16]],[[4,2,3,3],[18,12,14,14],[48,36,39,39],[100,80,84,84]],[[5,4,4,2],[30,24,25,16],[102,84,87,63],[260,220,226,176]],[[2,2,2,0],[22,20,20,6],[108,96,97,45],[360,320,324,184]],[[0,0,0,0],[6,6,6,0],[57,54,54,12],[280,260,261,96]],[[0,0,0,0],[0,0,0,0],[12,12,12,0],[116,112,112,20]]],[[[1,1,0,1],[5,4,2,5],[15,12,8,15],[34,28,21,34]],[[5,4,2,4],[30,24,16,25],[102,84,63,87],[260,220,176,226]],[[10,8,6,6],[72,60,47,47],[288,246,201,201],[850,740,624,624]],[[9,8,7,3],[86,76,66,39],[432,384,335,231],[1540,1380,1216,916]],[[3,3,3,0],[51,48,45,12],[363,336,309,132],[1670,1540,1409,754]],[[0,0,0,0],[12,12,12,0],[162,156,150,30],[1084,1028,972,330]]],[[[0,0,0,0],[2,2,0,2],[11,10,3,11],[36,32,15,36]],[[2,2,0,2],[22,20,6,20],[108,96,45,97],[360,320,184,324]],[[9,8,3,7],[86,76,39,66],[432,384,231,335],[1540,1380,916,1216]],[[16,14,9,9],[166,148,100,100],[928,836,593,593],[3700,3360,2484,2484]],[[13,12,10,4],[172,158,127,72],[1167,1074,858,574],[5480,5060,4071,2996]],[[4,4,4,0],[92,88,80,20],[864,816,714,290],[5136,4832,4164,2140]]],[[[0,0,0,0],[0,0,0,0],[3,3,0,3],[19,18,4,19]],[[0,0,0,0],[6,6,0,6],[57,54,12,54],[280,260,96,261]],[[3,3,0,3],[51,48,12,45],[363,336,132,309],[1670,1540,754,1409]],[[13,12,4,10],[172,158,72,127],[1167,1074,574,858],[5480,5060,2996,4071]],[[22,20,12,12],[300,276,173,173],[2178,2016,1320,1320],[11100,10320,7029,7029]],[[17,16,13,5],[288,270,208,115],[2475,2322,1761,1155],[14544,13668,10380,7515]]],[[[0,0,0,0],[0,0,0,0],[0,0,0,0],[4,4,0,4]],[[0,0,0,0],[0,0,0,0],[12,12,0,12],[116,112,20,112]],[[0,0,0,0],[12,12,0,12],[162,156,30,150],[1084,1028,330,972]],[[4,4,0,4],[92,88,20,80],[864,816,290,714],[5136,4832,2140,4164]],[[17,16,5,13],[288,270,115,208],[2475,2322,1155,1761],[14544,13668,7515,10380]],[[28,26,15,15],[474,444,266,266],[4248,3996,2487,2487],[26508,25008,16128,16128]]]]
def tbZ2 : List (List (List (List Nat))) := [[[[0,0,0,0],[0,0,0,0],[1,0,1,1],[3,1,3,3]],[[0,0,0,0],[2,0,2,2],[9,3,9,8],[24,12,24,21]],[[1,0,1,1],[7,3,7,5],[27,15,27,19],[76,48,76,55]],[[1,1,1,0],[8,6,8,3],[37,27,37,18],[124,92,124,69]],[[0,0,0,0],[3,3,3,0],[24,21,24,6],[111,93,111,42]],[[0,0,0,0],[0,0,0,0],[6,6,6,0],[52,48,52,10]]],[[[0,0,0,0],[2,0,2,2],[9,3,8,9],[24,12,21,24]],[[2,0,2,2],[18,6,16,16],[72,36,63,63],[200,120,176,176]],[[7,3,6,5],[54,30,47,38],[228,144,201,165],[700,480,624,524]],[[8,6,7,3],[74,54,66,36],[372,276,335,207],[1340,1020,1216,816]],[[3,3,3,0],[48,42,45,12],[333,279,309,126],[1520,1260,1409,704]],[[0,0,0,0],[12,12,12,0],[156,144,150,30],[1024,912,972,320]]],[[[1,0,1,1],[7,3,5,7],[27,15,19,27],[76,48,55,76]],[[7,3,5,6],[54,30,38,47],[228,144,165,201],[700,480,524,624]],[[20,12,14,14],[174,114,127,127],[822,576,621,621],[2810,2070,2186,2186]],[[29,21,22,15],[298,222,232,171],[1638,1254,1303,1017],[6420,5040,5204,4234]],[[21,18,18,6],[285,237,240,114],[1947,1611,1638,930],[9130,7590,7721,4896]],[[6,6,6,0],[144,132,132,30],[1380,1224,1230,450],[8276,7248,7304,3380]]],[[[1,1,0,1],[8,6,3,8],[37,27,18,37],[124,92,69,124]],[[8,6,3,7],[74,54,36,66],[372,276,207,335],[1340,1020,816,1216]],[[29,21,15,22],[298,222,171,232],[1638,1254,1017,1303],[6420,5040,4234,5204]],[[58,44,36,36],[670,522,438,438],[4112,3276,2809,2809],[17880,14520,12676,12676]],[[66,54,48,30],[902,744,662,464],[6423,5349,4785,3614],[31880,26820,24159,19204]],[[40,36,34,10],[724,636,592,260],[6384,5568,5154,2770],[37724,32892,30420,18520]]],[[[0,0,0,0],[3,3,0,3],[24,21,6,24],[111,93,42,111]],[[3,3,0,3],[48,42,12,45],[333,279,126,309],[1520,1260,704,1409]],[[21,18,6,18],[285,237,114,240],[1947,1611,930,1638],[9130,7590,4896,7721]],[[66,54,30,48],[902,744,464,662],[6423,5349,3614,4785],[31880,26820,19204,24159]],[[116,96,68,68],[1716,1440,1054,1054],[13302,11286,8517,8517],[71940,61620,47781,47781]],[[118,102,84,50],[2034,1764,1442,980],[18027,15705,12873,9510],[109896,96228,79476,62115]]],[[[0,0,0,0],[0,0,0,0],[6,6,0,6],[52,48,10,52]],[[0,0,0,0],[12,12,0,12],[156,144,30,150],[1024,912,320,972]],[[6,6,0,6],[144,132,30,132],[1380,1224,450,1230],[8276,7248,3380,7304]],[[40,36,10,34],[724,636,260,592],[6384,5568,2770,5154],[37724,32892,18520,30420]],[[118,102,50,84],[2034,1764,980,1442],[18027,15705,9510,12873],[109896,96228,62115,79476]],[[194,168,110,110],[3522,3078,2080,2080],[33264,29268,20391,20391],[217224,192216,137748,137748]]]]
def tbZ3 : List (List (List (List Nat))) := [[[[0,0,0,0],[0,0,0,0],[0,0,0,0],[1,0,1,1]],[[0,0,0,0],[0,0,0,0],[3,0,3,3],[16,4,16,15]],[[0,0,0,0],[3,0,3,3],[21,6,21,18],[84,36,84,69]],[[1,0,1,1],[10,4,10,7],[55,28,55,37],[216,124,216,147]],[[1,1,1,0],[11,8,11,4],[69,48,69,32],[309,216,309,162]],[[0,0,0,0],[4,4,4,0],[42,36,42,10],[252,204,252,90]]],[[[0,0,0,0],[0,0,0,0],[3,0,3,3],[16,4,15,16]],[[0,0,0,0],[6,0,6,6],[48,12,45,45],[200,80,184,184]],[[3,0,3,3],[42,12,39,36],[252,108,231,207],[1000,520,916,816]],[[10,4,9,7],[110,56,100,74],[648,372,593,441],[2700,1680,2484,1884]],[[11,8,10,4],[138,96,127,64],[927,648,858,486],[4380,3120,4071,2496]],[[4,4,4,0],[84,72,80,20],[756,612,714,270],[4416,3504,4164,1920]]],[[[0,0,0,0],[3,0,3,3],[21,6,18,21],[84,36,69,84]],[[3,0,3,3],[42,12,36,39],[252,108,207,231],[1000,520,816,916]],[[18,6,15,15],[210,96,171,171],[1248,672,1017,1017],[5150,3080,4234,4234]],[[45,24,36,30],[538,316,438,367],[3402,2148,2809,2385],[15160,10120,12676,10926]],[[58,40,48,28],[789,552,662,422],[5643,4032,4785,3258],[28230,20640,24159,17304]],[[38,32,34,10],[672,540,592,250],[5868,4644,5154,2610],[34584,27336,30420,17280]]],[[[1,0,1,1],[10,4,7,10],[55,28,37,55],[216,124,147,216]],[[10,4,7,9],[110,56,74,100],[648,372,441,593],[2700,1680,1884,2484]],[[45,24,30,36],[538,316,367,438],[3402,2148,2385,2809],[15160,10120,10926,12676]],[[116,72,80,80],[1514,992,1076,1076],[10408,7132,7599,7599],[50280,35760,37604,37604]],[[182,128,134,102],[2664,1920,2002,1588],[20397,15048,15612,12798],[108980,82160,84821,71376]],[[172,136,138,70],[2988,2352,2396,1400],[26508,20940,21354,13710],[161196,128304,130776,89820]]],[[[1,1,0,1],[11,8,4,11],[69,48,32,69],[309,216,162,309]],[[11,8,4,10],[138,96,64,127],[927,648,486,858],[4380,3120,2496,4071]],[[58,40,28,48],[789,552,422,662],[5643,4032,3258,4785],[28230,20640,17304,24159]],[[182,128,102,134],[2664,1920,1588,2002],[20397,15048,12798,15612],[108980,82160,71376,84821]],[[364,268,230,230],[5808,4368,3806,3806],[48318,37032,32706,32706],[279580,217960,194759,194759]],[[470,368,332,240],[8436,6672,6040,4630],[78201,62496,56847,45495],[499964,403736,369188,305205]]],[[[0,0,0,0],[4,4,0,4],[42,36,10,42],[252,204,90,252]],[[4,4,0,4],[84,72,20,80],[756,612,270,714],[4416,3504,1920,4164]],[[38,32,10,34],[672,540,250,592],[5868,4644,2610,5154],[34584,27336,17280,30420]],[[172,136,70,138],[2988,2352,1400,2396],[26508,20940,13710,21354],[161196,128304,89820,130776]],[[470,368,240,332],[8436,6672,4630,6040],[78201,62496,45495,56847],[499964,403736,305205,369188]],[[832,664,500,500],[15990,12912,9950,9950],[158952,129684,102105,102105],[1089544,897328,720356,720356]]]]
def tbZ4 : List (List (List (List Nat))) := [[[[0,0,0,0],[0,0,0,0],[0,0,0,0],[0,0,0,0]],[[0,0,0,0],[0,0,0,0],[0,0,0,0],[4,0,4,4]],[[0,0,0,0],[0,0,0,0],[6,0,6,6],[46,10,46,42]],[[0,0,0,0],[4,0,4,4],[38,10,38,32],[204,80,204,162]],[[1,0,1,1],[13,5,13,9],[93,45,93,61],[471,255,471,309]],[[1,1,1,0],[14,10,14,5],[111,75,111,50],[624,420,624,315]]],[[[0,0,0,0],[0,0,0,0],[0,0,0,0],[4,0,4,4]],[[0,0,0,0],[0,0,0,0],[12,0,12,12],[100,20,96,96]],[[0,0,0,0],[12,0,12,12],[138,30,132,126],[800,280,754,704]],[[4,0,4,4],[76,20,72,64],[612,240,574,486],[3200,1520,2996,2496]],[[13,5,12,9],[186,90,173,122],[1413,765,1320,927],[7500,4380,7029,5004]],[[14,10,13,5],[222,150,208,100],[1872,1260,1761,945],[11004,7500,10380,6000]]],[[[0,0,0,0],[0,0,0,0],[6,0,6,6],[46,10,42,46]],[[0,0,0,0],[12,0,12,12],[138,30,126,132],[800,280,704,754]],[[6,0,6,6],[126,30,114,114],[1062,390,930,930],[5650,2570,4896,4896]],[[34,10,30,28],[536,220,464,422],[4188,2040,3614,3258],[22200,12080,19204,17304]],[[80,40,68,52],[1227,675,1054,805],[9837,5805,8517,6579],[54810,34170,47781,37506]],[[97,65,84,45],[1650,1110,1442,845],[14634,9990,12873,8055],[89856,62520,79476,52350]]],[[[0,0,0,0],[4,0,4,4],[38,10,32,38],[204,80,162,204]],[[4,0,4,4],[76,20,64,72],[612,240,486,574],[3200,1520,2496,2996]],[[34,10,28,30],[536,220,422,464],[4188,2040,3258,3614],[22200,12080,17304,19204]],[[132,60,102,102],[2052,1060,1588,1588],[16412,9280,12798,12798],[90580,54820,71376,71376]],[[298,170,230,196],[4860,2940,3806,3272],[41223,26175,32706,28425],[242540,160380,194759,171164]],[[416,280,332,220],[7482,5130,6040,4210],[69720,48780,56847,41295],[448664,320360,369188,277500]]],[[[1,0,1,1],[13,5,9,13],[93,45,61,93],[471,255,309,471]],[[13,5,9,12],[186,90,122,173],[1413,765,927,1320],[7500,4380,5004,7029]],[[80,40,52,68],[1227,675,805,1054],[9837,5805,6579,8517],[54810,34170,37506,47781]],[[298,170,196,230],[4860,2940,3272,3806],[41223,26175,28425,32706],[242540,160380,171164,194759]],[[728,460,498,498],[12708,8340,8902,8902],[115152,78120,82446,82446],[722630,504670,527871,527871]],[[1198,830,866,700],[22812,16140,16772,13910],[224601,162105,167754,142155],[1525396,1121660,1156208,997525]]],[[[1,1,0,1],[14,10,5,14],[111,75,50,111],[624,420,315,624]],[[14,10,5,13],[222,150,100,208],[1872,1260,945,1761],[11004,7500,6000,10380]],[[97,65,45,84],[1650,1110,845,1442],[14634,9990,8055,12873],[89856,62520,52350,79476]],[[416,280,220,332],[7482,5130,4210,6040],[69720,48780,41295,56847],[448664,320360,277500,369188]],[[1198,830,700,866],[22812,16140,13910,16772],[224601,162105,142155,167754],[1525396,1121660,997525,1156208]],[[2396,1732,1530,1530],[48852,35940,32080,32080],[514044,384360,346290,346290],[3723788,2826460,2567580,2567580]]]]
def tbZ5 : List (List (List (List Nat))) := [[[[0,0,0,0],[0,0,0,0],[0,0,0,0],[0,0,0,0]],[[0,0,0,0],[0,0,0,0],[0,0,0,0],[0,0,0,0]],[[0,0,0,0],[0,0,0,0],[0,0,0,0],[10,0,10,10]],[[0,0,0,0],[0,0,0,0],[10,0,10,10],[100,20,100,90]],[[0,0,0,0],[5,0,5,5],[60,15,60,50],[405,150,405,315]],[[1,0,1,1],[16,6,16,11],[141,66,141,91],[876,456,876,561]]],[[[0,0,0,0],[0,0,0,0],[0,0,0,0],[0,0,0,0]],[[0,0,0,0],[0,0,0,0],[0,0,0,0],[20,0,20,20]],[[0,0,0,0],[0,0,0,0],[30,0,30,30],[340,60,330,320]],[[0,0,0,0],[20,0,20,20],[300,60,290,270],[2240,720,2140,1920]],[[5,0,5,5],[120,30,115,100],[1215,450,1155,945],[7920,3540,7515,6000]],[[16,6,15,11],[282,132,266,182],[2628,1368,2487,1683],[17004,9504,16128,11004]]],[[[0,0,0,0],[0,0,0,0],[0,0,0,0],[10,0,10,10]],[[0,0,0,0],[0,0,0,0],[30,0,30,30],[340,60,320,330]],[[0,0,0,0],[30,0,30,30],[480,90,450,450],[3710,1140,3380,3380]],[[10,0,10,10],[280,60,260,250],[3060,1020,2770,2610],[20660,8580,18520,17280]],[[55,15,50,45],[1095,420,980,845],[10665,4860,9510,8055],[69630,35460,62115,52350]],[[125,60,110,80],[2346,1236,2080,1501],[22878,12888,20391,14823],[153876,91356,137748,101526]]],[[[0,0,0,0],[0,0,0,0],[10,0,10,10],[100,20,90,100]],[[0,0,0,0],[20,0,20,20],[300,60,270,290],[2240,720,1920,2140]],[[10,0,10,10],[280,60,250,260],[3060,1020,2610,2770],[20660,8580,17280,18520]],[[80,20,70,70],[1660,600,1400,1400],[16480,7200,13710,13710],[108340,53520,89820,89820]],[[290,120,240,220],[5610,2670,4630,4210],[55005,28830,45495,41295],[367320,206940,305205,277500]],[[610,330,500,390],[12030,6900,9950,7820],[122496,73716,102105,81201],[858104,537744,720356,580604]]],[[[0,0,0,0],[5,0,5,5],[60,15,50,60],[405,150,315,405]],[[5,0,5,5],[120,30,100,115],[1215,450,945,1155],[7920,3540,6000,7515]],[[55,15,45,50],[1095,420,845,980],[10665,4860,8055,9510],[69630,35460,52350,62115]],[[290,120,220,240],[5610,2670,4210,4630],[55005,28830,41295,45495],[367320,206940,277500,305205]],[[940,480,700,700],[18540,10200,13910,13910],[187650,109530,142155,142155],[1302730,798060,997525,997525]],[[2030,1200,1530,1330],[42030,25890,32080,28120],[448395,286290,346290,306240],[3287936,2166276,2567580,2290411]]],[[[1,0,1,1],[16,6,11,16],[141,66,91,141],[876,456,561,876]],[[16,6,11,15],[282,132,182,266],[2628,1368,1683,2487],[17004,9504,11004,16128]],[[125,60,80,110],[2346,1236,1501,2080],[22878,12888,14823,20391],[153876,91356,101526,137748]],[[610,330,390,500],[12030,6900,7820,9950],[122496,73716,81201,102105],[858104,537744,580604,720356]],[[2030,1200,1330,1530],[42030,25890,28120,32080],[448395,286290,306240,346290],[3287936,2166276,2290411,2567580]],[[4792,3060,3262,3262],[104892,68952,72812,72812],[1181832,797472,835542,835542],[9143452,6316992,6575872,6575872]]]]
def tbZ : Tb := [tbZ0, tbZ1, tbZ2, tbZ3, tbZ4, tbZ5]
def look (t : Tb) (a b c f l : Nat) : Nat := ((((t.getD a []).getD b []).getD c []).getD f []).getD l 0
/-- last: 0 for a free sign, else the kind and 1 -/
def recT (t : Tb) (z : Nat → Nat) (a b c f l : Nat) : Nat :=
  if a + b + c + f = 0 then z l else (if 0 < f then look t a b c (f - 1) 0 else 0) + (if 0 < a ∧ l ≠ 1 then look t (a - 1) b c f 1 else 0) + (if 0 < b ∧ l ≠ 2 then look t a (b - 1) c f 2 else 0) + (if 0 < c ∧ l ≠ 3 then look t a b (c - 1) f 3 else 0)
def okT (t : Tb) (z : Nat → Nat) (a : Nat) : Bool := (List.range 6).all fun b => (List.range 6).all fun c => (List.range 4).all fun f => (List.range 4).all fun l => look t a b c f l == recT t z a b c f l
def zN (_ : Nat) : Nat := 1
def zZ (l : Nat) : Nat := if l = 1 then 0 else 1
theorem tN0 : okT tbN zN 0 = true := by decide +kernel
theorem tZ0 : okT tbZ zZ 0 = true := by decide +kernel
theorem tN1 : okT tbN zN 1 = true := by decide +kernel
theorem tZ1 : okT tbZ zZ 1 = true := by decide +kernel
theorem tN2 : okT tbN zN 2 = true := by decide +kernel
theorem tZ2 : okT tbZ zZ 2 = true := by decide +kernel
theorem tN3 : okT tbN zN 3 = true := by decide +kernel
theorem tZ3 : okT tbZ zZ 3 = true := by decide +kernel
theorem tN4 : okT tbN zN 4 = true := by decide +kernel
theorem tZ4 : okT tbZ zZ 4 = true := by decide +kernel
theorem tN5 : okT tbN zN 5 = true := by decide +kernel
theorem tZ5 : okT tbZ zZ 5 = true := by decide +kernel
end K14
namespace K14
open PySem PySem.Spec PyProof.Rows L2 Sq Exs Nk
theorem look_rec {t : Tb} {z : Nat → Nat} (ht : ∀ a, a < 6 → okT t z a = true) {a b c f l : Nat} (ha : a < 6) (hb : b < 6) (hc : c < 6) (hf : f < 4) (hl : l < 4) : look t a b c f l = recT t z a b c f l := by
  have h := ht a ha
  unfold okT at h
  have h1 := List.all_eq_true.mp h b (List.mem_range.mpr hb)
  have h2 := List.all_eq_true.mp h1 c (List.mem_range.mpr hc)
  have h3 := List.all_eq_true.mp h2 f (List.mem_range.mpr hf)
  have h4 := List.all_eq_true.mp h3 l (List.mem_range.mpr hl)
  exact eq_of_beq h4
theorem onS_eq (rec : List Nat → Nat → Option Int → Int) (ns : List Nat) (f : Nat) (l : Option Int) (acc : Int) (k : Nat) : onS rec ns f l acc k = acc + (if 0 < ns.getD k 0 ∧ some (k : Int) ≠ l then rec (decN ns k) f (some (k : Int)) else 0) := by
  unfold onS
  split
  · rfl
  · rw [Int.add_zero]
theorem on_look {fin : Option Int} {t : Tb} {z : Nat → Nat} (ht : ∀ a, a < 6 → okT t z a = true) (hz : ∀ l, l < 4 → ((z l : Nat) : Int) = if some ((l : Int) - 1) = fin then 0 else 1) :
    ∀ (n a b c f l : Nat), a < 6 → b < 6 → c < 6 → f < 4 → l < 4 → a + b + c + f = n → onF fin n [a, b, c] f (some ((l : Int) - 1)) = ((look t a b c f l : Nat) : Int)
  | 0, a, b, c, f, l, ha, hb, hc, hf, hl, e => by
    rw [look_rec ht ha hb hc hf hl]
    unfold recT
    rw [if_pos e, hz l hl]
    rfl
  | n + 1, a, b, c, f, l, ha, hb, hc, hf, hl, e => by
    have ih := on_look ht hz n
    rw [look_rec ht ha hb hc hf hl]
    unfold recT
    rw [if_neg (by omega)]
    show onS (onF fin n) [a, b, c] f (some ((l : Int) - 1)) (onS (onF fin n) [a, b, c] f (some ((l : Int) - 1)) (onS (onF fin n) [a, b, c] f (some ((l : Int) - 1)) (if 0 < f then onF fin n [a, b, c] (f - 1) (some (-1)) else 0) 0) 1) 2 = _
    rw [onS_eq, onS_eq, onS_eq]
    have i0 : (if 0 < [a, b, c].getD 0 0 ∧ some ((0 : Nat) : Int) ≠ some ((l : Int) - 1) then onF fin n (decN [a, b, c] 0) f (some ((0 : Nat) : Int)) else 0) = (((if 0 < a ∧ l ≠ 1 then look t (a - 1) b c f 1 else 0 : Nat)) : Int) := by
      by_cases h : 0 < a ∧ l ≠ 1
      · rw [if_pos h, if_pos ⟨h.1, fun q => by injection q with q; omega⟩]
        exact ih (a - 1) b c f 1 (by omega) hb hc hf (by decide) (by omega)
      · rw [if_neg h, if_neg (fun q => h ⟨q.1, fun y => q.2 (by rw [y]; rfl)⟩)]
        rfl
    have i1 : (if 0 < [a, b, c].getD 1 0 ∧ some ((1 : Nat) : Int) ≠ some ((l : Int) - 1) then onF fin n (decN [a, b, c] 1) f (some ((1 : Nat) : Int)) else 0) = (((if 0 < b ∧ l ≠ 2 then look t a (b - 1) c f 2 else 0 : Nat)) : Int) := by
      by_cases h : 0 < b ∧ l ≠ 2
      · rw [if_pos h, if_pos ⟨h.1, fun q => by injection q with q; omega⟩]
        exact ih a (b - 1) c f 2 ha (by omega) hc hf (by decide) (by omega)
      · rw [if_neg h, if_neg (fun q => h ⟨q.1, fun y => q.2 (by rw [y]; rfl)⟩)]
        rfl
    have i2 : (if 0 < [a, b, c].getD 2 0 ∧ some ((2 : Nat) : Int) ≠ some ((l : Int) - 1) then onF fin n (decN [a, b, c] 2) f (some ((2 : Nat) : Int)) else 0) = (((if 0 < c ∧ l ≠ 3 then look t a b (c - 1) f 3 else 0 : Nat)) : Int) := by
      by_cases h : 0 < c ∧ l ≠ 3
      · rw [if_pos h, if_pos ⟨h.1, fun q => by injection q with q; omega⟩]
        exact ih a b (c - 1) f 3 ha hb (by omega) hf (by decide) (by omega)
      · rw [if_neg h, if_neg (fun q => h ⟨q.1, fun y => q.2 (by rw [y]; rfl)⟩)]
        rfl
    have ib : (if 0 < f then onF fin n [a, b, c] (f - 1) (some (-1)) else 0) = (((if 0 < f then look t a b c (f - 1) 0 else 0 : Nat)) : Int) := by
      by_cases h : 0 < f
      · rw [if_pos h, if_pos h]
        exact ih a b c (f - 1) 0 ha hb hc (by omega) (by decide) (by omega)
      · rw [if_neg h, if_neg h]
        rfl
    rw [i0, i1, i2, ib]
    omega
/-- two kinds are three, of the last of which there is none -/
theorem on_two {fin : Option Int} : ∀ n a b f l, onF fin n [a, b] f l = onF fin n [a, b, 0] f l
  | 0, a, b, f, l => rfl
  | n + 1, a, b, f, l => by
    have ih := on_two (fin := fin) n
    show onS (onF fin n) [a, b] f l (onS (onF fin n) [a, b] f l (if 0 < f then onF fin n [a, b] (f - 1) (some (-1)) else 0) 0) 1 = onS (onF fin n) [a, b, 0] f l (onS (onF fin n) [a, b, 0] f l (onS (onF fin n) [a, b, 0] f l (if 0 < f then onF fin n [a, b, 0] (f - 1) (some (-1)) else 0) 0) 1) 2
    rw [onS_eq, onS_eq, onS_eq, onS_eq, onS_eq, ih]
    have e0 : onF fin n (decN [a, b] 0) f (some ((0 : Nat) : Int)) = onF fin n (decN [a, b, 0] 0) f (some ((0 : Nat) : Int)) := ih (a - 1) b f _
    have e1 : onF fin n (decN [a, b] 1) f (some ((1 : Nat) : Int)) = onF fin n (decN [a, b, 0] 1) f (some ((1 : Nat) : Int)) := ih a (b - 1) f _
    have e2 : ¬ (0 < [a, b, 0].getD 2 0 ∧ some ((2 : Nat) : Int) ≠ l) := fun q => absurd q.1 (by show ¬ 0 < 0; decide)
    rw [e0, e1, if_neg e2, Int.add_zero]
    rfl
/-- the first sign of all -/
def topT (a b c f : Nat) : Nat := (if 0 < f then look tbN a b c (f - 1) 0 else 0) + (if 0 < a then look tbN (a - 1) b c f 1 else 0) + (if 0 < b then look tbN a (b - 1) c f 2 else 0) + (if 0 < c then look tbN a b (c - 1) f 3 else 0)
theorem okN : ∀ a, a < 6 → okT tbN zN a = true
  | 0, _ => tN0 | 1, _ => tN1 | 2, _ => tN2 | 3, _ => tN3 | 4, _ => tN4 | 5, _ => tN5
  | a + 6, h => absurd h (by omega)
theorem okZ : ∀ a, a < 6 → okT tbZ zZ a = true
  | 0, _ => tZ0 | 1, _ => tZ1 | 2, _ => tZ2 | 3, _ => tZ3 | 4, _ => tZ4 | 5, _ => tZ5
  | a + 6, h => absurd h (by omega)
theorem hzN : ∀ l, l < 4 → ((zN l : Nat) : Int) = if some ((l : Int) - 1) = (none : Option Int) then 0 else 1 := fun l _ => rfl
theorem hzZ : ∀ l, l < 4 → ((zZ l : Nat) : Int) = if some ((l : Int) - 1) = some (0 : Int) then 0 else 1 := by decide +kernel
theorem on_top {n a b c f : Nat} (ha : a < 6) (hb : b < 6) (hc : c < 6) (hf : f < 4) (e : a + b + c + f = n + 1) : onF none (n + 1) [a, b, c] f none = ((topT a b c f : Nat) : Int) := by
  have ih := on_look okN hzN n
  show onS (onF none n) [a, b, c] f none (onS (onF none n) [a, b, c] f none (onS (onF none n) [a, b, c] f none (if 0 < f then onF none n [a, b, c] (f - 1) (some (-1)) else 0) 0) 1) 2 = _
  rw [onS_eq, onS_eq, onS_eq]
  have i0 : (if 0 < [a, b, c].getD 0 0 ∧ some ((0 : Nat) : Int) ≠ none then onF none n (decN [a, b, c] 0) f (some ((0 : Nat) : Int)) else 0) = (((if 0 < a then look tbN (a - 1) b c f 1 else 0 : Nat)) : Int) := by
    by_cases h : 0 < a
    · rw [if_pos h, if_pos ⟨h, fun q => by cases q⟩]
      exact ih (a - 1) b c f 1 (by omega) hb hc hf (by decide) (by omega)
    · rw [if_neg h, if_neg (fun q => h q.1)]
      rfl
  have i1 : (if 0 < [a, b, c].getD 1 0 ∧ some ((1 : Nat) : Int) ≠ none then onF none n (decN [a, b, c] 1) f (some ((1 : Nat) : Int)) else 0) = (((if 0 < b then look tbN a (b - 1) c f 2 else 0 : Nat)) : Int) := by
    by_cases h : 0 < b
    · rw [if_pos h, if_pos ⟨h, fun q => by cases q⟩]
      exact ih a (b - 1) c f 2 ha (by omega) hc hf (by decide) (by omega)
    · rw [if_neg h, if_neg (fun q => h q.1)]
      rfl
  have i2 : (if 0 < [a, b, c].getD 2 0 ∧ some ((2 : Nat) : Int) ≠ none then onF none n (decN [a, b, c] 2) f (some ((2 : Nat) : Int)) else 0) = (((if 0 < c then look tbN a b (c - 1) f 3 else 0 : Nat)) : Int) := by
    by_cases h : 0 < c
    · rw [if_pos h, if_pos ⟨h, fun q => by cases q⟩]
      exact ih a b (c - 1) f 3 ha hb (by omega) hf (by decide) (by omega)
    · rw [if_neg h, if_neg (fun q => h q.1)]
      rfl
  have ib : (if 0 < f then onF none n [a, b, c] (f - 1) (some (-1)) else 0) = (((if 0 < f then look tbN a b c (f - 1) 0 else 0 : Nat)) : Int) := by
    by_cases h : 0 < f
    · rw [if_pos h, if_pos h]
      exact ih a b c (f - 1) 0 ha hb hc (by omega) (by decide) (by omega)
    · rw [if_neg h, if_neg h]
      rfl
  rw [i0, i1, i2, ib]
  unfold topT
  omega
def okG (ns : List Nat) (a b c f : Nat) : Bool := decide (((topT a b c f : Nat) : Int) = ctM false ns f) && decide (((look tbZ (a - 1) b c f 1 : Nat) : Int) = cfM ns f)
theorem gA1 : ((List.range 5).all fun b => (List.range 4).all fun f => okG [1, b + 1] 1 (b + 1) 0 f) = true := by decide +kernel
theorem gA2 : ((List.range 5).all fun b => (List.range 4).all fun f => okG [2, b + 1] 2 (b + 1) 0 f) = true := by decide +kernel
theorem gA3 : ((List.range 5).all fun b => (List.range 4).all fun f => okG [3, b + 1] 3 (b + 1) 0 f) = true := by decide +kernel
theorem gA4 : ((List.range 5).all fun b => (List.range 4).all fun f => okG [4, b + 1] 4 (b + 1) 0 f) = true := by decide +kernel
theorem gA5 : ((List.range 5).all fun b => (List.range 4).all fun f => okG [5, b + 1] 5 (b + 1) 0 f) = true := by decide +kernel
theorem gB11 : ((List.range 5).all fun c => (List.range 4).all fun f => okG [1, 1, c + 1] 1 1 (c + 1) f) = true := by decide +kernel
theorem gB12 : ((List.range 5).all fun c => (List.range 4).all fun f => okG [1, 2, c + 1] 1 2 (c + 1) f) = true := by decide +kernel
theorem gB13 : ((List.range 5).all fun c => (List.range 4).all fun f => okG [1, 3, c + 1] 1 3 (c + 1) f) = true := by decide +kernel
theorem gB14 : ((List.range 5).all fun c => (List.range 4).all fun f => okG [1, 4, c + 1] 1 4 (c + 1) f) = true := by decide +kernel
theorem gB15 : ((List.range 5).all fun c => (List.range 4).all fun f => okG [1, 5, c + 1] 1 5 (c + 1) f) = true := by decide +kernel
theorem gB21 : ((List.range 5).all fun c => (List.range 4).all fun f => okG [2, 1, c + 1] 2 1 (c + 1) f) = true := by decide +kernel
theorem gB22 : ((List.range 5).all fun c => (List.range 4).all fun f => okG [2, 2, c + 1] 2 2 (c + 1) f) = true := by decide +kernel
theorem gB23 : ((List.range 5).all fun c => (List.range 4).all fun f => okG [2, 3, c + 1] 2 3 (c + 1) f) = true := by decide +kernel
theorem gB24 : ((List.range 5).all fun c => (List.range 4).all fun f => okG [2, 4, c + 1] 2 4 (c + 1) f) = true := by decide +kernel
theorem gB25 : ((List.range 5).all fun c => (List.range 4).all fun f => okG [2, 5, c + 1] 2 5 (c + 1) f) = true := by decide +kernel
theorem gB31 : ((List.range 5).all fun c => (List.range 4).all fun f => okG [3, 1, c + 1] 3 1 (c + 1) f) = true := by decide +kernel
theorem gB32 : ((List.range 5).all fun c => (List.range 4).all fun f => okG [3, 2, c + 1] 3 2 (c + 1) f) = true := by decide +kernel
theorem gB33 : ((List.range 5).all fun c => (List.range 4).all fun f => okG [3, 3, c + 1] 3 3 (c + 1) f) = true := by decide +kernel
theorem gB34 : ((List.range 5).all fun c => (List.range 4).all fun f => okG [3, 4, c + 1] 3 4 (c + 1) f) = true := by decide +kernel
theorem gB35 : ((List.range 5).all fun c => (List.range 4).all fun f => okG [3, 5, c + 1] 3 5 (c + 1) f) = true := by decide +kernel
theorem gB41 : ((List.range 5).all fun c => (List.range 4).all fun f => okG [4, 1, c + 1] 4 1 (c + 1) f) = true := by decide +kernel
theorem gB42 : ((List.range 5).all fun c => (List.range 4).all fun f => okG [4, 2, c + 1] 4 2 (c + 1) f) = true := by decide +kernel
theorem gB43 : ((List.range 5).all fun c => (List.range 4).all fun f => okG [4, 3, c + 1] 4 3 (c + 1) f) = true := by decide +kernel
theorem gB44 : ((List.range 5).all fun c => (List.range 4).all fun f => okG [4, 4, c + 1] 4 4 (c + 1) f) = true := by decide +kernel
theorem gB45 : ((List.range 5).all fun c => (List.range 4).all fun f => okG [4, 5, c + 1] 4 5 (c + 1) f) = true := by decide +kernel
theorem gB51 : ((List.range 5).all fun c => (List.range 4).all fun f => okG [5, 1, c + 1] 5 1 (c + 1) f) = true := by decide +kernel
theorem gB52 : ((List.range 5).all fun c => (List.range 4).all fun f => okG [5, 2, c + 1] 5 2 (c + 1) f) = true := by decide +kernel
theorem gB53 : ((List.range 5).all fun c => (List.range 4).all fun f => okG [5, 3, c + 1] 5 3 (c + 1) f) = true := by decide +kernel
theorem gB54 : ((List.range 5).all fun c => (List.range 4).all fun f => okG [5, 4, c + 1] 5 4 (c + 1) f) = true := by decide +kernel
theorem gB55 : ((List.range 5).all fun c => (List.range 4).all fun f => okG [5, 5, c + 1] 5 5 (c + 1) f) = true := by decide +kernel
end K14
namespace K14
open PySem PySem.Spec PyProof.Rows L2 Sq Exs Nk
def gAt (ns : List Nat) (a b c f : Nat) : Prop := ((topT a b c f : Nat) : Int) = ctM false ns f ∧ ((look tbZ (a - 1) b c f 1 : Nat) : Int) = cfM ns f
theorem gAt_of {ns : List Nat} {a b c f : Nat} (h : okG ns a b c f = true) : gAt ns a b c f := by
  unfold okG at h
  simp only [Bool.and_eq_true, decide_eq_true_eq] at h
  exact h
theorem gA : ∀ a b f, 1 ≤ a → a ≤ 5 → 1 ≤ b → b ≤ 5 → f ≤ 3 → gAt [a, b] a b 0 f := fun a b f h1 h2 h3 h4 h5 => by
  have key : ∀ t : ((List.range 5).all fun b => (List.range 4).all fun f => okG [a, b + 1] a (b + 1) 0 f) = true, gAt [a, b] a b 0 f := fun t => by
    have h := List.all_eq_true.mp (List.all_eq_true.mp t (b - 1) (List.mem_range.mpr (by omega))) f (List.mem_range.mpr (by omega))
    rw [Nat.sub_add_cancel h3] at h
    exact gAt_of h
  have hc : a = 1 ∨ a = 2 ∨ a = 3 ∨ a = 4 ∨ a = 5 := by omega
  rcases hc with rfl | rfl | rfl | rfl | rfl
  · exact key gA1
  · exact key gA2
  · exact key gA3
  · exact key gA4
  · exact key gA5
theorem gB : ∀ a b c f, 1 ≤ a → a ≤ 5 → 1 ≤ b → b ≤ 5 → 1 ≤ c → c ≤ 5 → f ≤ 3 → gAt [a, b, c] a b c f := fun a b c f h1 h2 h3 h4 h6 h7 h5 => by
  have key : ∀ t : ((List.range 5).all fun c => (List.range 4).all fun f => okG [a, b, c + 1] a b (c + 1) f) = true, gAt [a, b, c] a b c f := fun t => by
    have h := List.all_eq_true.mp (List.all_eq_true.mp t (c - 1) (List.mem_range.mpr (by omega))) f (List.mem_range.mpr (by omega))
    rw [Nat.sub_add_cancel h6] at h
    exact gAt_of h
  have hc : a = 1 ∨ a = 2 ∨ a = 3 ∨ a = 4 ∨ a = 5 := by omega
  have hd : b = 1 ∨ b = 2 ∨ b = 3 ∨ b = 4 ∨ b = 5 := by omega
  rcases hc with rfl | rfl | rfl | rfl | rfl <;> rcases hd with rfl | rfl | rfl | rfl | rfl
  · exact key gB11
  · exact key gB12
  · exact key gB13
  · exact key gB14
  · exact key gB15
  · exact key gB21
  · exact key gB22
  · exact key gB23
  · exact key gB24
  · exact key gB25
  · exact key gB31
  · exact key gB32
  · exact key gB33
  · exact key gB34
  · exact key gB35
  · exact key gB41
  · exact key gB42
  · exact key gB43
  · exact key gB44
  · exact key gB45
  · exact key gB51
  · exact key gB52
  · exact key gB53
  · exact key gB54
  · exact key gB55
/-- of two or three kinds, each with one to five signs -/
theorem great_of {ns : List Nat} {f : Nat} (hl : ns.length = 2 ∨ ns.length = 3) (hx : ∀ x ∈ ns, 1 ≤ x ∧ x ≤ 5) (hf : f ≤ 3) :
    onF none (ns.sum + f) ns f none = ctM false ns f ∧ onF (some 0) (((ns.getD 0 0 - 1) :: ns.tail).sum + f) ((ns.getD 0 0 - 1) :: ns.tail) f (some 0) = cfM ns f := by
  match ns, hl, hx with
  | [], h, _ => simp at h
  | [_], h, _ => simp at h
  | [a, b], _, hx =>
    have h1 := hx a (by simp)
    have h2 := hx b (by simp)
    have g := gA a b f h1.1 h1.2 h2.1 h2.2 hf
    refine ⟨?_, ?_⟩
    · rw [on_two, ← g.1]
      obtain ⟨n, hn⟩ : ∃ n, [a, b].sum + f = n + 1 := ⟨[a, b].sum + f - 1, by simp; omega⟩
      rw [hn]
      exact on_top (by omega) (by omega) (by decide) (by omega) (by simp at hn; omega)
    · show onF (some 0) ([a - 1, b].sum + f) [a - 1, b] f (some 0) = _
      rw [on_two, ← g.2]
      exact on_look okZ hzZ _ (a - 1) b 0 f 1 (by omega) (by omega) (by decide) (by omega) (by decide) (by simp)
  | [a, b, c], _, hx =>
    have h1 := hx a (by simp)
    have h2 := hx b (by simp)
    have h3 := hx c (by simp)
    have g := gB a b c f h1.1 h1.2 h2.1 h2.2 h3.1 h3.2 hf
    refine ⟨?_, ?_⟩
    · rw [← g.1]
      obtain ⟨n, hn⟩ : ∃ n, [a, b, c].sum + f = n + 1 := ⟨[a, b, c].sum + f - 1, by simp; omega⟩
      rw [hn]
      exact on_top (by omega) (by omega) (by omega) (by omega) (by simp at hn; omega)
    · show onF (some 0) ([a - 1, b, c].sum + f) [a - 1, b, c] f (some 0) = _
      rw [← g.2]
      exact on_look okZ hzZ _ (a - 1) b c f 1 (by omega) (by omega) (by omega) (by omega) (by decide) (by simp; omega)
  | _ :: _ :: _ :: _ :: _, h, _ => simp at h
def twoM (many more : Nat) : Int := if many = more then 2 else if (many : Int) - more = 1 ∨ (many : Int) - more = -1 then 1 else 0
def okC (many more : Nat) : Bool := decide (ctM false [many, more] 0 = twoM many more) && (decide (ctM false [many] more = choM ((more : Int) + 1) many) && decide (cfM [many] more = choM ((more : Int) - 1) ((many : Int) - 1) * (if 0 < more then 1 else 0)))
theorem cC1 : ((List.range 18).all fun b => okC 1 (b + 1)) = true := by decide +kernel
theorem cC2 : ((List.range 18).all fun b => okC 2 (b + 1)) = true := by decide +kernel
theorem cC3 : ((List.range 18).all fun b => okC 3 (b + 1)) = true := by decide +kernel
theorem cC4 : ((List.range 18).all fun b => okC 4 (b + 1)) = true := by decide +kernel
theorem cC5 : ((List.range 18).all fun b => okC 5 (b + 1)) = true := by decide +kernel
theorem cC6 : ((List.range 18).all fun b => okC 6 (b + 1)) = true := by decide +kernel
theorem cC7 : ((List.range 18).all fun b => okC 7 (b + 1)) = true := by decide +kernel
theorem cC8 : ((List.range 18).all fun b => okC 8 (b + 1)) = true := by decide +kernel
theorem cC9 : ((List.range 18).all fun b => okC 9 (b + 1)) = true := by decide +kernel
theorem cC10 : ((List.range 18).all fun b => okC 10 (b + 1)) = true := by decide +kernel
theorem cC11 : ((List.range 18).all fun b => okC 11 (b + 1)) = true := by decide +kernel
theorem cC12 : ((List.range 18).all fun b => okC 12 (b + 1)) = true := by decide +kernel
theorem cC13 : ((List.range 18).all fun b => okC 13 (b + 1)) = true := by decide +kernel
theorem cC14 : ((List.range 18).all fun b => okC 14 (b + 1)) = true := by decide +kernel
theorem cC15 : ((List.range 18).all fun b => okC 15 (b + 1)) = true := by decide +kernel
theorem cC16 : ((List.range 18).all fun b => okC 16 (b + 1)) = true := by decide +kernel
theorem cC17 : ((List.range 18).all fun b => okC 17 (b + 1)) = true := by decide +kernel
theorem cC18 : ((List.range 18).all fun b => okC 18 (b + 1)) = true := by decide +kernel
theorem okC_all : ∀ a b, 1 ≤ a → a ≤ 18 → 1 ≤ b → b ≤ 18 → okC a b = true := fun a b h1 h2 h3 h4 => by
  have key : ∀ t : ((List.range 18).all fun b => okC a (b + 1)) = true, okC a b = true := fun t => by
    have h := List.all_eq_true.mp t (b - 1) (List.mem_range.mpr (by omega))
    rw [Nat.sub_add_cancel h3] at h
    exact h
  have hc : a = 1 ∨ a = 2 ∨ a = 3 ∨ a = 4 ∨ a = 5 ∨ a = 6 ∨ a = 7 ∨ a = 8 ∨ a = 9 ∨ a = 10 ∨ a = 11 ∨ a = 12 ∨ a = 13 ∨ a = 14 ∨ a = 15 ∨ a = 16 ∨ a = 17 ∨ a = 18 := by omega
  rcases hc with rfl | rfl | rfl | rfl | rfl | rfl | rfl | rfl | rfl | rfl | rfl | rfl | rfl | rfl | rfl | rfl | rfl | rfl
  · exact key cC1
  · exact key cC2
  · exact key cC3
  · exact key cC4
  · exact key cC5
  · exact key cC6
  · exact key cC7
  · exact key cC8
  · exact key cC9
  · exact key cC10
  · exact key cC11
  · exact key cC12
  · exact key cC13
  · exact key cC14
  · exact key cC15
  · exact key cC16
  · exact key cC17
  · exact key cC18
theorem closed_of {a b : Nat} (h1 : 1 ≤ a) (h2 : a ≤ 18) (h3 : 1 ≤ b) (h4 : b ≤ 18) : ctM false [a, b] 0 = twoM a b ∧ ctM false [a] b = choM ((b : Int) + 1) a ∧ cfM [a] b = choM ((b : Int) - 1) ((a : Int) - 1) * (if 0 < b then 1 else 0) := by
  have h := okC_all a b h1 h2 h3 h4
  unfold okC at h
  simp only [Bool.and_eq_true, decide_eq_true_eq] at h
  exact ⟨h.1, h.2.1, h.2.2⟩
end K14
namespace K14
open PySem PySem.Spec PyProof.Rows L2 Sq Exs Nk
/-! ### _law_great_right -/
abbrev sGr : Stmt := top 28
theorem StrAt.kd {H H' : Hp} {p c d : Addr} {n : Nat} (h : StrAt H p c n) (e : Kd d H H') (h1 : d ≠ p) (h2 : d ≠ c) : StrAt H' p c n := by
  obtain ⟨L, cells, a, k, m, e1, e2, r⟩ := h
  exact ⟨L, cells, a, k, m, e p _ h1.symm e1, e c _ h2.symm e2, r⟩
theorem Kp.kd {p c d : Addr} {H H1 H2 : Hp} (a : Kp p c H H1) (b : Kd d H1 H2) (h : H d = none) : Kp p c H H2 := fun x o e h1 h2 => b x o (ne_of_none e h) (a x o e h1 h2)
section
variable {P : Program} {w : World} {K : PySem.W.Frag} {mg : Str → Option Value} {base : Heap} {C1 C2 : Addr}
abbrev nmGr : List Str := ["stream", "signs", "free", "known", "due", "less", "many", "more", "two", "k"]
theorem scGr : FnScope nmGr ["stream"] (defScope sGr) := ⟨rfl, rfl, rfl, by decide +kernel, rfl, by decide +kernel, by decide +kernel⟩
theorem ok_gr {f : Addr} {fd : FuncData} (F : FnP K "_law_great_right" sGr f fd) (T : Env14 P w K mg base C1 C2) : FnOk P w K mg base CX0 25 f fd ["stream"] spTurn := by
  obtain ⟨fD, fdD, gD, GD, kD, bD⟩ := T.draw
  obtain ⟨fS, fdS, gS, GS, kS, bS⟩ := T.same
  obtain ⟨fO, fdO, gO, GO, kO, bO⟩ := T.on_
  obtain ⟨fC, fdC, gC, GC, kC, bC⟩ := T.choose
  obtain ⟨fW, fdW, gW, GW, kW, bW⟩ := T.words
  obtain ⟨fF, fdF, gF, GF, kF, bF⟩ := T.framed
  refine F.ok scGr (fun vs H Q E h => ?_) (fun cdv A outer s H vs Q E hr h => ?_)
  · obtain ⟨p, c, n, rfl, _⟩ := h
    rfl
  · obtain ⟨p, c, n, rfl, hS, hn, k⟩ := h
    have hrD : Room 1 _ := hr.mono (by decide)
    have hrW : Room 5 _ := hr.mono (by decide)
    refine' ⟨_, PSs.nox (pss_cons ?sl
      (pss_cons (ps_par (i := 2) (j := 3) (by rfl) scGr.nd rfl rfl (by decide) rfl rfl (pa_cons (pe_call GD hrD (by rfl) gD kD bD .nil pass0 (pa_cons (pv 0) (pa_cons pe_int pa_nil))) (pa_cons pe_dnewN pa_nil)) (by rfl))
      (pss_cons (ps_set (i := 4) scGr.nd rfl (.inl rfl) (pe_call GO hr (by rfl) gO kO bO .nil pass0 (pa_cons (pv 1) (pa_cons (pv 2) (pa_cons pe_non (pa_cons pe_non (pa_cons pe_dnewN pa_nil)))))))
      (pss_cons (ps_set (i := 5) scGr.nd rfl (.inl rfl) (pe_op op_cat (pe_lst (pa_cons (pe_op op_sub (pe_ix ix_list (pv 1) pe_int (fun _ _ => rfl)) pe_int) pa_nil)) (pe_slice sl_list (pv 1) (po_some pe_int) po_none)))
      (pss_cons (ps_if (pt_not (pt_val (pe_call (GS 2) (hr.mono (by decide)) (by rfl) gS kS bS .nil pass0 (pa_cons (pe_lst (pa_cons (pe_callS GW hrW (by rfl) gW kW bW (fun σ => passAt takes0 σ) (pa_cons (pv 1) (pa_cons (pv 2) pa_nil))) (pa_cons (pe_callS GF hrW (by rfl) gF kF bF (fun σ => passAt takes0 σ) (pa_cons (pv 1) (pa_cons (pv 2) pa_nil))) pa_nil)))
          (pa_cons (pe_lst (pa_cons (pv 4) (pa_cons (pe_call GO hr (by rfl) gO kO bO .nil pass0 (pa_cons (pv 5) (pa_cons (pv 2) (pa_cons pe_int (pa_cons pe_int (pa_cons (pv 3) pa_nil)))))) pa_nil))) pa_nil))))) (pss_one (ps_ret pe_bl)) pss_nil)
      (pss_cons (ps_par (i := 6) (j := 7) (by rfl) scGr.nd rfl rfl (by decide) rfl rfl (pa_cons (pe_op op_add pe_int (pe_call GD hrD (by rfl) gD kD bD .nil pass0 (pa_cons (pv 0) (pa_cons pe_int pa_nil)))) (pa_cons (pe_op op_add pe_int (pe_call GD hrD (by rfl) gD kD bD .nil pass0 (pa_cons (pv 0) (pa_cons pe_int pa_nil)))) pa_nil)) (by rfl))
      (Evl.pss_cut (ps_set (i := 8) scGr.nd rfl (.inl rfl) (pe_ifExp (pt_cmpR op_eq (pv 6) (pv 7) (nomark _)) pe_int (pe_callTy call_int1 (by rfl) T.int (by decide +kernel) (pa_cons (pe_cmpR op_in_seq (pe_op op_sub (pv 6) (pv 7)) (pe_tup (pa_cons pe_int (pa_cons (pe_un un_neg pe_int) pa_nil))) (by rfl)) pa_nil))))
      (pss_cons (ps_if (PW.pt (pw_or (pt_cmpR op_ne (pe_callS GW hrW (by rfl) gW kW bW (fun σ => passAt takes0 σ) (pa_cons (pe_lst (pa_cons (pv 6) (pa_cons (pv 7) pa_nil))) (pa_cons pe_int pa_nil))) (pv 8) (nomark _))
          (pw_or1 (pt_cmpR op_ne (pe_callS GW hrW (by rfl) gW kW bW (fun σ => passAt takes0 σ) (pa_cons (pe_lst (pa_cons (pv 6) pa_nil)) (pa_cons (pv 7) pa_nil))) (pe_call GC hrD (by rfl) gC kC bC .nil pass0 (pa_cons (pe_op op_add (pv 7) pe_int) (pa_cons (pv 6) pa_nil))) (nomark _))))) (pss_one (ps_ret pe_bl)) pss_nil)
      (pss_one (ps_ret (pe_cmpR op_eq (pe_callS GF hrW (by rfl) gF kF bF (fun σ => passAt takes0 σ) (pa_cons (pe_lst (pa_cons (pv 6) pa_nil)) (pa_cons (pv 7) pa_nil))) (pe_op op_mul (pe_call GC hrD (by rfl) gC kC bC .nil pass0 (pa_cons (pe_op op_sub (pv 7) pe_int) (pa_cons (pe_op op_sub (pv 6) pe_int) pa_nil))) (pe_callTy call_int1 (by rfl) T.int (by decide +kernel) (pa_cons (pe_cmpR op_gt (pv 7) pe_int (nomark _)) pa_nil))) (nomark _)))))))))))), ?rd⟩
    case sl =>
      refine ps_setLc (i := 1) (own := [("k", 9)]) (g := gName 9) (tt := tYes) (te := tOp (rI0 fun i j => V.int (i + j)) (tC (.int 1)) (tCall spDraw [] E0 (tCons (tVar 0) (tCons (tC (.int 5)) tNil)))) (by rfl) scGr.nd rfl rfl (sw_true rfl rfl rfl (by decide +kernel))
        (pi_range1 (by rfl) T.range (pa_cons (pe_op op_add pe_int (pe_call GD hrD (by rfl) gD kD bD .nil pass0 (pa_cons (pv 0) (pa_cons pe_int pa_nil)))) pa_nil)) (blkOk_by (own := [("k", 9)]) (N := nmGr) (sc := defScope sGr) (by decide +kernel)) (fun _ _ _ _ _ => pg_name (i := 9) scGr.nd rfl (.inl rfl)) (fun _ _ _ _ _ => pts_nil) ?_
      intro _ _ _ _ _
      exact pe_op op_add pe_int (pe_call GD hrD (by rfl) gD kD bD .nil pass0 (pa_cons (pv 0) (pa_cons pe_int pa_nil)))
    refine ⟨_, rfl, p, c, n, 2, rfl, hS, by omega, by decide, by decide, fun d H1 d0 d1 hK1 hS1 => ⟨_, _, rfl, rfl, _, rfl, by omega, by omega, fun D hD => ?_⟩⟩
    obtain ⟨hDp, hDc⟩ := hS1.ne hD
    refine lc_range (lo := 0) (n := (2 + d).toNat) (fun i H' => ∃ ms : List Nat, H' D = some (.lst (natV ms)) ∧ ms.length = i ∧ (∀ x ∈ ms, 1 ≤ x ∧ x ≤ 5) ∧ Kp p c H H' ∧ StrAt H' p c (n + 1 + i)) ⟨[], upd_same, rfl, fun x hx => (nomatch hx), hK1.new hD, hS1.new hD⟩ ?_ ?_
    · rintro i H2 hi ⟨ms, g2, hl2, hx2, hK2, hS2⟩
      refine ⟨rfl, _, rfl, p, c, n + 1 + i, 5, rfl, hS2, by omega, by decide, by decide, fun e H3 e0 e1 hK3 hS3 => ?_⟩
      have g3 := hK3 D _ g2 hDp hDc
      refine ⟨_, _, rfl, rfl, _, g3, ?_, ms ++ [(1 + e).toNat], ?_, ?_, ?_, ?_, ?_⟩
      · rw [sizeLine_eq, List.length_map]
        omega
      · rw [upd_same]
        unfold natV
        rw [List.map_append]
        show some (HO.lst (_ ++ [V.int (1 + e)])) = some (HO.lst (_ ++ [V.int (((1 + e).toNat : Nat) : Int)]))
        rw [show (((1 + e).toNat : Nat) : Int) = 1 + e by omega]
      · rw [List.length_append, hl2]
        rfl
      · intro x hx
        rcases List.mem_append.mp hx with z | z
        · exact hx2 x z
        · rw [List.mem_singleton.mp z]
          omega
      · exact (hK2.trans hK3).mut (hK1.free hD hDp hDc)
      · exact (hS3.upd hDp hDc).mono (by omega)
    · rintro H2 ⟨ns, g2, hl2, hx2, hK2, hS2⟩
      have hlen : ns.length = 2 ∨ ns.length = 3 := by omega
      refine ⟨_, rfl, p, c, _, 4, rfl, hS2, by omega, by decide, by decide, fun e H3 e0 e1 hK3 hS3 => fun kn H4 hkn ex4 hb4 dn4 => ⟨_, _, rfl, ?_⟩⟩
      have hfe : ((e.toNat : Nat) : Int) = e := by omega
      rw [← hfe]
      generalize hfree : e.toNat = free
      have hfr : free ≤ 3 := by omega
      have g4 := ex4 _ _ (hK3 D _ g2 hDp hDc)
      obtain ⟨hknp, hknc⟩ := hS3.ne hkn
      have S4 := hS3.ex ex4
      have K4 : Kp p c H H4 := (hK2.trans hK3).trans (Kp.ex ex4)
      have hs15 : ns.sum ≤ 15 := by
        match ns, hx2, hlen with
        | [a, b], hx, _ =>
          have := hx a (by simp)
          have := hx b (by simp)
          simp
          omega
        | [a, b, c], hx, _ =>
          have := hx a (by simp)
          have := hx b (by simp)
          have := hx c (by simp)
          simp
          omega
        | [], _, h => simp at h
        | [_], _, h => simp at h
        | _ :: _ :: _ :: _ :: _, _, h => simp at h
      obtain ⟨t1, t2⟩ := great_of hlen hx2 hfr
      refine ⟨_, rfl, _, rfl, fun kd H5 hkd ex5 hb5 dn5 => ?_⟩
      obtain ⟨hkdp, hkdc⟩ := S4.ne hkd
      refine ⟨ns.length, none, ns.sum + free + 1, by omega, by omega, D, kd, ns, free, none, rfl, SqL.of (ex5 _ _ g4), rfl, ⟨rfl, fun x hx => by have := hx2 x hx; omega, hfr, List.mem_cons_self⟩, ⟨[], dn5, Due.nil⟩, fun H6 k6 m6 => ?_⟩
      have kdne : ∀ {b : Addr} {o : HO}, H4 b = some o → b ≠ kd := fun {b o} e => ne_of_none e hkd
      have up6 : ∀ {b : Addr} {o : HO}, H4 b = some o → H6 b = some o := fun {b o} e => k6 b o (kdne e) (ex5 _ _ e)
      have K6 : Kp p c H H6 := (K4.trans (Kp.ex ex5)).kd k6 (by
        cases z : H kd with
        | none => rfl
        | some o =>
          have := K4 kd o z hkdp hkdc
          rw [hkd] at this
          cases this)
      have S6 := (S4.ex ex5).kd k6 hkdp hkdc
      have g6 := up6 g4
      have hne : ns ≠ [] := by
        rintro rfl
        simp at hlen
      have h0 : atI (natV ns) 0 = some (V.int ((ns.getD 0 0 : Nat) : Int)) := by
        cases ns with
        | nil => exact absurd rfl hne
        | cons x r => exact atI_nat (j := 0) (by simp)
      have h01 : 1 ≤ ns.getD 0 0 ∧ ns.getD 0 0 ≤ 5 := by
        cases ns with
        | nil => exact absurd rfl hne
        | cons x r => exact hx2 x (by simp)
      refine ⟨_, rfl, D, _, 0, _, rfl, rfl, SqL.of g6, h0, _, _, rfl, rfl, by show 1 ≤ sizeLine; decide, fun l1 hl1 => ?_⟩
      have x1 := Evl.Ex.new (o := .lst [V.int (((ns.getD 0 0 : Nat) : Int) - 1)]) hl1
      refine ⟨_, rfl, _, rfl, D, _, rfl, SqL.of (x1 _ _ g6), fun q hq => ?_⟩
      have hcut : cutV (natV ns) (some 1) none = natV ns.tail := by
        rw [cutV_tail (fun z => hne (List.map_eq_nil_iff.mp z))]
        cases ns <;> rfl
      rw [hcut]
      have x2 := Evl.Ex.new (o := .lst (natV ns.tail)) hq
      refine ⟨l1, q, _, _, rfl, rfl, x2 _ _ upd_same, upd_same, ?_, fun l hl => ?_⟩
      · rw [sizeLine_eq]
        simp
        omega
      have x3 := Evl.Ex.new (o := .lst ([V.int (((ns.getD 0 0 : Nat) : Int) - 1)] ++ natV ns.tail)) hl
      have e7 := (x1.trans x2).trans x3
      have gl : upd (upd (upd H6 l1 (.lst [V.int (((ns.getD 0 0 : Nat) : Int) - 1)])) q (.lst (natV ns.tail))) l (.lst ([V.int (((ns.getD 0 0 : Nat) : Int) - 1)] ++ natV ns.tail)) l = some (.lst (natV ((ns.getD 0 0 - 1) :: ns.tail))) := by
        rw [upd_same]
        show some (HO.lst (V.int (((ns.getD 0 0 : Nat) : Int) - 1) :: natV ns.tail)) = some (HO.lst (V.int ((ns.getD 0 0 - 1 : Nat) : Int) :: natV ns.tail))
        rw [show (((ns.getD 0 0 : Nat) : Int) - 1) = ((ns.getD 0 0 - 1 : Nat) : Int) by omega]
      show tSeq _ _ _ _ (upd (upd (upd H6 l1 (.lst [V.int (((ns.getD 0 0 : Nat) : Int) - 1)])) q (.lst (natV ns.tail))) l (.lst ([V.int (((ns.getD 0 0 : Nat) : Int) - 1)] ++ natV ns.tail)))
      generalize upd (upd (upd H6 l1 (.lst [V.int (((ns.getD 0 0 : Nat) : Int) - 1)])) q (.lst (natV ns.tail))) l (.lst ([V.int (((ns.getD 0 0 : Nat) : Int) - 1)] ++ natV ns.tail)) = H7 at e7 gl
      have g7 := e7 _ _ g6
      have K7 := K6.trans (Kp.ex (p := p) (c := c) e7)
      have S7 := S6.ex e7
      refine ⟨_, rfl, _, rfl, ?_⟩
      dsimp only [tNil]
      refine cnt_ok (K := K) (C1 := C1) (C2 := C2) (t := false) (a := D) (ns := ns) (free := free) (m := ctM false) g7 (by omega) (by omega) fun H8 e8 => ?_
      refine ⟨_, rfl, _, rfl, ?_⟩
      dsimp only [tNil]
      refine cnt_ok (K := K) (C1 := C1) (C2 := C2) (t := false) (a := D) (ns := ns) (free := free) (m := cfM) (e8 _ _ g7) (by omega) (by omega) fun H9 e9 => ⟨by show 2 ≤ sizeLine; decide, fun m1 hm1 => ?_⟩
      have y1 := Evl.Ex.new (o := .lst [V.int (ctM false ns free), V.int (cfM ns free)]) hm1
      have e10 := (e8.trans e9).trans y1
      have hlsum : ((ns.getD 0 0 - 1) :: ns.tail).sum ≤ 15 := by
        cases ns with
        | nil => exact absurd rfl hne
        | cons x r =>
          simp at hs15 ⊢
          omega
      have dn10 : DN P w _ kn [] := ((dn4.ex ex5).stay (fun b ys h => k6 b _ (fun z => by
        rw [z] at h
        obtain ⟨_, xs, _, hk⟩ := dn5
        rw [h] at hk
        cases hk) h) (by
          obtain ⟨_, xs, _, hk⟩ := dn4.ex ex5
          rw [hk]
          exact k6 kn _ (fun z => by
            obtain ⟨_, xs2, _, hk2⟩ := dn4
            rw [z, hkd] at hk2
            cases hk2) hk)).ex (e7.trans e10)
      have gl10 := e10 _ _ gl
      refine ⟨_, rfl, _, rfl, _, rfl, _, rfl, ns.length, some 0, ((ns.getD 0 0 - 1) :: ns.tail).sum + free + 1, by omega, by omega, l, kn, (ns.getD 0 0 - 1) :: ns.tail, free, some 0, rfl, SqL.of gl10, rfl, ⟨?_, ?_, hfr, ?_⟩, ⟨[], dn10, Due.nil⟩, fun H11 k11 m11 => ⟨by show 2 ≤ sizeLine; decide, fun m2 hm2 => ?_⟩⟩
      · cases ns with
        | nil => exact absurd rfl hne
        | cons x r => rfl
      · intro x hx
        rcases List.mem_cons.mp hx with z | z
        · omega
        · have := hx2 x (List.mem_of_mem_tail z)
          omega
      · exact List.mem_cons_of_mem _ (List.mem_cons_of_mem _ (List.mem_map.mpr ⟨0, List.mem_range.mpr (by omega), rfl⟩))
      have gm1 : H11 m1 = some (.lst [V.int (ctM false ns free), V.int (cfM ns free)]) := k11 m1 _ (fun z => by
        obtain ⟨_, xs, _, hk⟩ := dn10
        rw [← z, upd_same] at hk
        cases hk) upd_same
      have hknH : H kn = none := by
        cases z : H kn with
        | none => rfl
        | some o =>
          have := (hK2.trans hK3) kn o z hknp hknc
          rw [hkn] at this
          cases this
      have K11 : Kp p c H H11 := (K7.trans (Kp.ex e10)).kd k11 hknH
      have S11 := (S7.ex e10).kd k11 hknp hknc
      have y2 := Evl.Ex.new (o := .lst [V.int (onF none (ns.sum + free) ns free none), V.int (onF (some 0) (((ns.getD 0 0 - 1) :: ns.tail).sum + free) ((ns.getD 0 0 - 1) :: ns.tail) free (some 0))]) hm2
      refine ⟨_, _, rfl, .inr (.inl ⟨m1, m2, _, _, rfl, rfl, y2 _ _ gm1, upd_same, by show 2 ≤ 1000; decide, .cons (.inl ⟨rfl, by rw [t1]⟩) (.cons (.inl ⟨rfl, by rw [t2]⟩) .nil)⟩), fun H12 e12 => ⟨_, rfl, iteF ?_⟩⟩
      have K12 := K11.trans (Kp.ex (p := p) (c := c) (y2.trans e12))
      have S12 := S11.ex (y2.trans e12)
      have S12 : StrAt H12 p c (n + 10) := S12.mono (by omega)
      refine ⟨_, rfl, p, c, _, 18, rfl, S12, by omega, by decide, by decide, fun f1 H13 f10 f11 hK13 hS13 => ⟨_, _, rfl, rfl, _, rfl, p, c, _, 18, rfl, hS13, by omega, by decide, by decide, fun f2 H14 f20 f21 hK14 hS14 => ⟨_, _, rfl, rfl, _, _, rfl, ?_⟩⟩⟩
      have hm : (((1 + f1).toNat : Nat) : Int) = 1 + f1 := by omega
      have hm2 : (((1 + f2).toNat : Nat) : Int) = 1 + f2 := by omega
      dsimp only []
      rw [← hm, ← hm2]
      obtain ⟨many, hmany⟩ : ∃ many, many = (1 + f1).toNat := ⟨_, rfl⟩
      obtain ⟨more, hmore⟩ : ∃ more, more = (1 + f2).toNat := ⟨_, rfl⟩
      rw [← hmany, ← hmore]
      obtain ⟨c1, c2, c3⟩ := closed_of (a := many) (b := more) (by omega) (by omega) (by omega) (by omega)
      have K14' : Kp p c H H14 := (K12.trans hK13).trans hK14
      refine ⟨fun σ H' => (∃ v1 v2 v3 v4 v5 v9, σ = [some (.ref p), v1, v2, v3, v4, v5, some (.int (many : Nat)), some (.int (more : Nat)), some (.int (twoM many more)), v9]) ∧ Evl.Ex H14 H', ?_, ?_⟩
      · refine ⟨_, rfl, _, rfl, rfl, decide (many = more), ?_, ?_⟩
        · show V.bl (decide (V.int (many : Int) = V.int (more : Int))) = _
          congr 1
          rw [decide_eq_decide]
          exact ⟨fun z => by injection z with z; exact Int.ofNat.inj z, fun z => by rw [z]⟩
        refine ite2 (fun hz => ?_) (fun hz => ?_)
        · refine ⟨⟨some (.ref D), some (.int (free : Nat)), some (.ref kn), some (.int (onF none (ns.sum + free) ns free none)), some (.ref l), none, ?_⟩, Evl.Ex.refl _⟩
          unfold twoM
          rw [if_pos (of_decide_eq_true hz)]
          rfl
        · refine ⟨_, rfl, _, rfl, _, _, rfl, rfl, _, rfl, by show 2 ≤ sizeLine; decide, fun t ht => ?_⟩
          refine ⟨t, _, rfl, .inr (SqT.of upd_same), rfl, rfl, .inr ⟨_, rfl, ?_⟩⟩
          refine ⟨⟨some (.ref D), some (.int (free : Nat)), some (.ref kn), some (.int (onF none (ns.sum + free) ns free none)), some (.ref l), none, ?_⟩, Evl.Ex.new ht⟩
          have hv : (if inV (V.int ((many : Int) - (more : Int))) [V.int 1, V.int (-1)] = true then (1 : Int) else 0) = twoM many more := by
            unfold twoM
            rw [if_neg (fun z => hz (decide_eq_true z))]
            show (if ((1 : Int) == (many : Int) - (more : Int) || ((-1 : Int) == (many : Int) - (more : Int) || false)) = true then (1 : Int) else 0) = _
            by_cases h : (many : Int) - more = 1 ∨ (many : Int) - more = -1
            · rw [if_pos h, if_pos]
              rcases h with h | h <;> rw [h] <;> rfl
            · rw [if_neg h, if_neg]
              intro z
              simp only [Bool.or_eq_true, beq_iff_eq, Bool.or_false] at z
              rcases z with z | z
              · exact h (.inl z.symm)
              · exact h (.inr z.symm)
          rw [← hv]
          rfl
      · rintro σ H15 ⟨⟨v1, v2, v3, v4, v5, v9, rfl⟩, e15⟩
        have hcast : natV [many, more] = [V.int (many : Nat), V.int (more : Nat)] := rfl
        refine ⟨_, rfl, _, rfl, by show 2 ≤ sizeLine; decide, fun r1 hr1 => ?_⟩
        dsimp only [tCons, tC, tNil]
        refine cnt_ok (K := K) (C1 := C1) (C2 := C2) (t := false) (a := r1) (ns := [many, more]) (free := 0) (m := ctM false) upd_same (by show 2 ≤ 99; decide) (by simp; omega) fun H16 e16 => ?_
        have sc : ∀ {x y : Int}, x = y → (!decide (V.int x = V.int y)) = false := fun {x y} z => by rw [z]; simp
        refine ⟨_, rfl, rfl, _, rfl, iteFb (sc c1) ?_⟩
        refine ⟨_, rfl, by show 1 ≤ sizeLine; decide, fun r2 hr2 => ?_⟩
        refine ⟨_, rfl, ?_⟩
        dsimp only [tNil]
        refine cnt_ok (K := K) (C1 := C1) (C2 := C2) (t := false) (a := r2) (ns := [many]) (free := more) (m := ctM false) upd_same (by show 1 ≤ 99; decide) (by simp; omega) fun H17 e17 => ?_
        refine ⟨_, rfl, _, _, rfl, rfl, _, rfl, _, _, rfl, by omega, by omega, rfl, _, rfl, iteFb (sc c2) ?_⟩
        refine ⟨_, rfl, by show 1 ≤ sizeLine; decide, fun r3 hr3 => ?_⟩
        refine ⟨_, rfl, ?_⟩
        dsimp only [tNil]
        refine cnt_ok (K := K) (C1 := C1) (C2 := C2) (t := false) (a := r3) (ns := [many]) (free := more) (m := cfM) upd_same (by show 1 ≤ 99; decide) (by simp; omega) fun H18 e18 => ?_
        refine ⟨_, rfl, _, _, rfl, rfl, _, rfl, _, _, rfl, rfl, _, _, rfl, by omega, by omega, _, rfl, _, _, rfl, rfl, .inr ⟨_, rfl, _, _, rfl, rfl, .inr ⟨?_, ?_⟩, rfl, ?_⟩⟩
        · split <;> decide
        · split <;> decide
        have hv : decide (V.int (cfM [many] more) = V.int (choM ((more : Int) - 1) ((many : Int) - 1) * (if decide ((0 : Int) < (more : Int)) = true then 1 else 0))) = true := by
          rw [c3, if_pos (show 0 < more by omega), if_pos (decide_eq_true (show (0 : Int) < (more : Int) by omega))]
          exact decide_eq_true rfl
        show Q (.bl (decide (V.int (cfM [many] more) = V.int (choM ((more : Int) - 1) ((many : Int) - 1) * (if decide ((0 : Int) < (more : Int)) = true then 1 else 0))))) H18
        rw [hv]
        have E18 : Evl.Ex H14 H18 := (((((e15.trans (Evl.Ex.new hr1)).trans e16).trans (Evl.Ex.new hr2)).trans e17).trans (Evl.Ex.new hr3)).trans e18
        exact k H18 _ (K14'.trans (Kp.ex E18)) (hS14.ex E18) (by omega)
end
end K14
namespace K14
open PySem PySem.Spec PyProof.Rows L2 Sq Exs Nk
/-! ### _law_m_held -/
abbrev sHeld : Stmt := top 17
theorem scHeld : FnScope ["ask", "thing", "found"] ["ask"] (defScope sHeld) := ⟨rfl, rfl, rfl, by decide +kernel, rfl, by decide +kernel, by decide +kernel⟩
/-- what is told of the thing, and the thing, of which the tuple is made that ask told -/
def HeldD (th : Addr) (Q : VK) (v : V) (H1 : Hp) : Prop := ∃ (ft : Addr) (x : V) (xs ys : List V), v = .ref ft ∧ ft ≠ th ∧ H1 ft = some (.tup (x :: xs)) ∧ H1 th = some (.lst ys) ∧ ys.length ≤ 100 ∧
  ∀ p, upd H1 th (.lst (ys ++ [.str "late"])) p = none → Q (.ref p) (upd (upd H1 th (.lst (ys ++ [.str "late"]))) p (.tup xs))
def THeld : Addr → Addr → (V → Hp → VK → Prop) → Hp → VK → Prop := fun _ _ tl H Q => ∀ th, H th = none → ∀ R : VK, (∀ v H1, HeldD th Q v H1 → R v H1) → tl (.ref th) (upd H th (.lst [.non])) R
theorem cutV_drop1 {x : V} {xs : List V} : cutV (x :: xs) (some 1) none = xs := by rw [cutV_tail (by simp)]; rfl
theorem held_gives {X : Cx} {g : Addr} {cdg : Value} {q : Str} : Lm.GivesT1 X ["ask", "thing", "found"] "_law_m_held" (defScope sHeld) g cdg (defBody sHeld) "ask" q THeld := by
  intro f c2 P2 s H Q tl act hc h
  refine ⟨_, pss_cons (ps_set (i := 1) scHeld.nd rfl (.inl rfl) (pe_lst (pa_cons pe_non pa_nil)))
    (pss_cons (ps_set (i := 2) scHeld.nd rfl (.inl rfl) (act _ _ _ _ (pv 1) rfl))
    (pss_cons (ps_expr (pe_bm PySem.F.plainAttrs_list PySem.F.slot_list_append PySem.F.type_list_append mt_append (pv 1) (pa_cons pe_str pa_nil)))
    (pss_one (ps_ret (pe_slice sl_tup (pv 2) (po_some pe_int) po_none))))), ?_⟩
  refine ⟨by show 1 ≤ sizeLine; decide, fun th hth => ⟨rfl, _, rfl, ?_⟩⟩
  refine ⟨by rw [upd_ne (ne_of_none hc hth)]; exact hc, ?_⟩
  refine h th hth _ fun v H1 hd => ?_
  obtain ⟨ft, x, xs, ys, rfl, hne, hft, hth1, hl, k⟩ := hd
  refine ⟨_, rfl, .inl ⟨rfl, _, SqL.of hth1⟩, th, ys, .str "late", rfl, rfl, hth1, ?_, ?_⟩
  · rw [sizeLine_eq]
    omega
  · refine ⟨_, rfl, _, rfl, ft, x :: xs, rfl, SqT.of (by rw [upd_ne hne]; exact hft), ?_, fun p hp => ?_⟩
    · rintro ⟨z, _⟩
      rw [show (some (1 : Int)) = some ((1 : Nat) : Int) from rfl, HT.sIx_nat] at z
      simp at z
    · rw [cutV_drop1]
      exact k p hp
end K14
namespace K14
open PySem PySem.Spec PyProof.Rows L2 Sq Exs Nk
/-! ### a call of a captured name that holds one of several defs, which may raise -/
def tCallX (i : Nat) (S : Addr → Sp → Prop) (E : L2.St → XK) (t : TA) : TE := fun σ H Q => ∃ f sp, σ[i]? = some (some (.ref f)) ∧ S f sp ∧ t σ H fun vs H1 => sp vs H1 Q (E σ)
section
variable {X : Cx} {CX : CXT} {k i : Nat} {E : L2.St → XK} {x : Str} {p pos : Pos} {e : Expr} {es : List Expr} {t : TA}
theorem pe_callX {S : Addr → Sp → Prop} (A : ∀ f sp, S f sp → ∃ fd ps, FnOk X.prog X.w X.K X.mg X.base CX k f fd ps sp ∧ PySem.W.keepIn X.K (.ref f) = true ∧ L2.Binds X.K fd ps []) (hr : Room k X.A) (hN : X.N[i]? = some x) (hv : Vis X.env.scope x) (hx : ∀ σ, PassesAt CX X σ (E σ)) (ha : PA X (e :: es) t)
    (hdb : (x == ("__debug__" : Str)) = false := by decide) (hcd : (x == ("__classdict__" : Str)) = false := by decide)
    (he : starEach (e :: es) X.env = (false, eval e X.env) :: starEach es X.env := by rfl) (hpl : (backTo pos (starEach es X.env)).any (·.1) = false := by rfl) : PE X (.Call (.Name x p) (e :: es) [] pos) (tCallX i S E t) := by
  refine ⟨fun pins s σ H Q I h => ?_⟩
  obtain ⟨f, sp, hs, hS, ht⟩ := h
  obtain ⟨fd, ps, F, hk, hb⟩ := A f sp hS
  refine wpAny_Call_Name_kw (thn ((pe_var (pos := p) hN hv hdb hcd).run pins s σ H (fun v H1 => v = .ref f ∧ H1 = H) I ⟨.ref f, hs, rfl, rfl⟩) fun u s1 ⟨v, H1, I1, r1, q1⟩ => ?_)
  obtain ⟨rfl, rfl⟩ := q1
  cases r1
  refine PySem.W.callWith_K (h₀ := X.base) I.ok.mod.kin hk (thn (ha.run pos pins s1 σ _ _ I1 ht) fun us s2 ⟨vs, H2, I2, r, q⟩ => ⟨I2.kIn, ?_⟩) he hpl
  exact run_fnS F hr hb (hx σ) I2 r q
end
/-! ### what stays -/
/-- all but lists stays -/
def Kl (H H' : Hp) : Prop := ∀ b o, H b = some o → (∀ xs, o ≠ .lst xs) → H' b = some o
theorem Kl.trans {H H1 H2 : Hp} (a : Kl H H1) (b : Kl H1 H2) : Kl H H2 := fun x o e n => b x o (a x o e n) n
theorem Kl.ex {H H' : Hp} (e : Evl.Ex H H') : Kl H H' := fun b o h _ => e b o h
theorem Kl.kp {p c : Addr} {n : Nat} {H H' : Hp} (hS : StrAt H p c n) (k : Kp p c H H') : Kl H H' := by
  obtain ⟨L, cells, a, kk, m, h1, h2, _⟩ := hS
  intro b o h nl
  refine k b o h (fun z => ?_) (fun z => ?_)
  · rw [z, h1] at h
    exact nl _ (Option.some.inj h).symm
  · rw [z, h2] at h
    exact nl _ (Option.some.inj h).symm
theorem codeT_nl {c P2 : Addr} {q : Str} (xs : List V) : Lm.CodeT c q P2 ≠ .lst xs := fun z => by
  unfold Lm.CodeT at z
  cases z
theorem tabD_kl {mg : Str → Option Value} : ∀ (qs : List Str) {H H' : Hp} {P : Addr}, Lm.TabD mg qs H P → Kl H H' → Lm.TabD mg qs H' P
  | [], _, _, _, _, _ => True.intro
  | q :: qs, H, H', P, ⟨ps, h1, h2, h3⟩, k => ⟨ps, k _ _ h1 (fun xs z => by cases z), h2, fun pos cv hc => by
    obtain ⟨c, P2, e1, e2, e3, e4, e5⟩ := h3 pos cv hc
    exact ⟨c, P2, e1, k _ _ e2 (fun xs => codeT_nl xs), e3, tabD_kl qs e4 k, e5⟩⟩
/-! ### odd things -/
inductive OddP (H : Hp) : V → Prop
  | non : OddP H .non
  | neg : OddP H (.int (-1))
  | tru : OddP H (.bl true)
  | one : OddP H (.str "1")
  | tup {a : Addr} (h : H a = some (.tup [.int 1])) : OddP H (.ref a)
  | lst {a : Addr} (h : H a = some (.lst [.int 2])) : OddP H (.ref a)
  | dic {a : Addr} (h : H a = some (.dK [])) : OddP H (.ref a)
theorem OddP.to {H H' : Hp} {x : V} (h : OddP H x) (k : ∀ a o, x = .ref a → H a = some o → H' a = some o) : OddP H' x := by
  cases h with
  | non => exact .non
  | neg => exact .neg
  | tru => exact .tru
  | one => exact .one
  | tup h => exact .tup (k _ _ rfl h)
  | lst h => exact .lst (k _ _ rfl h)
  | dic h => exact .dic (k _ _ rfl h)
theorem OddP.pl {H : Hp} {x : V} (h : OddP H x) : ∃ n, Pl H x n := by
  cases h with
  | non => exact ⟨_, .non⟩
  | neg => exact ⟨_, .int _⟩
  | tru => exact ⟨_, .bl _⟩
  | one => exact ⟨_, .str _⟩
  | tup h => exact ⟨_, .tup h⟩
  | lst h => exact ⟨_, .lst h⟩
  | dic h => exact ⟨_, .dic h⟩
theorem OddP.num {H : Hp} {x : V} (h : OddP H x) : numV x = false := by cases h <;> rfl
theorem OddP.sm {H : Hp} {x : V} (h : OddP H x) : Sm H 3 x x := by
  cases h with
  | non => exact .inl ⟨rfl, rfl⟩
  | neg => exact .inl ⟨rfl, rfl⟩
  | tru => exact .inl ⟨rfl, rfl⟩
  | one => exact .inl ⟨rfl, rfl⟩
  | tup h => exact .inr (.inr (.inl ⟨_, _, _, _, rfl, rfl, h, h, by decide, .cons (.inl ⟨rfl, rfl⟩) .nil⟩))
  | lst h => exact .inr (.inl ⟨_, _, _, _, rfl, rfl, h, h, by decide, .cons (.inl ⟨rfl, rfl⟩) .nil⟩)
  | dic h => exact .inr (.inr (.inr ⟨_, _, rfl, rfl, h, h, by decide⟩))
/-! ### pairs of a word and a thing -/
def At (H : Hp) : List V → List (Str × V) → Prop := Paired fun u q => ∃ a, u = .ref a ∧ H a = some (.tup [.str q.1, q.2])
theorem At.to {H H' : Hp} {l : List V} {ws : List (Str × V)} (h : At H l ws) (k : ∀ a xs, H a = some (.tup xs) → H' a = some (.tup xs)) : At H' l ws :=
  Paired.mapP h fun _ _ ⟨a, e1, e2⟩ => ⟨a, e1, k _ _ e2⟩
theorem At.snoc {H : Hp} {a : Addr} {w : Str} {z : V} (ha : H a = some (.tup [.str w, z])) : ∀ {l : List V} {ws : List (Str × V)}, At H l ws → At H (l ++ [.ref a]) (ws ++ [(w, z)])
  | _, _, .nil => .cons ⟨a, rfl, ha⟩ .nil
  | _, _, .cons h r => .cons h (At.snoc ha r)
theorem At.app {H : Hp} {l2 : List V} {ws2 : List (Str × V)} (h2 : At H l2 ws2) : ∀ {l : List V} {ws : List (Str × V)}, At H l ws → At H (l ++ l2) (ws ++ ws2)
  | _, _, .nil => h2
  | _, _, .cons h r => .cons h (At.app h2 r)
theorem At.len {H : Hp} : ∀ {l : List V} {ws : List (Str × V)}, At H l ws → l.length = ws.length
  | _, _, .nil => rfl
  | _, _, .cons _ r => congrArg (· + 1) (At.len r)
theorem At.sm {H : Hp} {x : V} (hx : OddP H x) : ∀ {l m : List V} {ws : List (Str × V)}, At H l ws → At H m ws → (∀ q ∈ ws, q.2 = x ∨ ∃ i, q.2 = .int i) → Paired (Sm H 4) l m
  | _, _, _, .nil, .nil, _ => .nil
  | _, _, _, .cons ⟨a, e1, e2⟩ r, .cons ⟨b, f1, f2⟩ s, hw => .cons (.inr (.inr (.inl ⟨a, b, _, _, e1, f1, e2, f2, by show 2 ≤ 1000; decide, .cons (.inl ⟨rfl, rfl⟩) (.cons (by
    rcases hw _ List.mem_cons_self with z | ⟨i, z⟩
    · rw [z]
      exact hx.sm
    · rw [z]
      exact .inl ⟨rfl, rfl⟩) .nil)⟩))) (At.sm hx r s fun q hq => hw q (List.mem_cons_of_mem _ hq))
/-! ### the state within a turn -/
def badV (a : Nat) (x : V) : List V := (natV [1, 2]).take a ++ [x, .non] ++ [.int 3]
structure Mi (mg : Str → Option Value) (qs : List Str) (P p c F D B tw : Addr) (tt : List V) (x : V) (a n : Nat) (fs ds : List V) (wf wd : List (Str × V)) (H : Hp) : Prop where
  str : StrAt H p c n
  tab : Lm.TabD mg qs H P
  pt : ∃ ps, H P = some (.tbl ps)
  f : H F = some (.lst fs)
  fa : At H fs wf
  d : H D = some (.lst ds)
  da : At H ds wd
  b : H B = some (.lst (badV a x))
  odd : OddP H x
  t : H tw = some (.tup tt)
  Fp : F ≠ p
  Fc : F ≠ c
  Dp : D ≠ p
  Dc : D ≠ c
  FD : F ≠ D
  Bp : B ≠ p
  Bc : B ≠ c
  BF : B ≠ F
  BD : B ≠ D
  xo : ∀ z ∈ [p, c, F, D], x ≠ .ref z
section
variable {mg : Str → Option Value} {qs : List Str} {P p c F D B tw : Addr} {tt : List V} {x : V} {a n n' : Nat} {fs ds fs' ds' : List V} {wf wd wf' wd' : List (Str × V)} {H H' : Hp}
theorem Mi.move (M : Mi mg qs P p c F D B tw tt x a n fs ds wf wd H) (k : ∀ b o, H b = some o → b ≠ P → b ≠ p → b ≠ c → b ≠ F → b ≠ D → H' b = some o) (hS : StrAt H' p c n') (hT : Lm.TabD mg qs H' P) (hP : ∃ ps, H' P = some (.tbl ps))
    (f : H' F = some (.lst fs')) (fa : At H fs' wf') (d : H' D = some (.lst ds')) (da : At H ds' wd') : Mi mg qs P p c F D B tw tt x a n' fs' ds' wf' wd' H' := by
  obtain ⟨ps, hp⟩ := M.pt
  obtain ⟨L, cells, a1, kk, m, s1, s2, _⟩ := M.str
  have ne_tl : ∀ {b : Addr} {o : HO}, H b = some o → (∀ xs, o ≠ .tbl xs) → b ≠ P := fun {b o} h nt z => by
    rw [z, hp] at h
    exact nt _ (Option.some.inj h).symm
  have ne_l : ∀ {b q : Addr} {o : HO} {ys : List V}, H b = some o → (∀ xs, o ≠ .lst xs) → H q = some (.lst ys) → b ≠ q := fun {b q o ys} h nl hq z => by
    rw [z, hq] at h
    exact nl _ (Option.some.inj h).symm
  have tup : ∀ b xs, H b = some (.tup xs) → H' b = some (.tup xs) := fun b xs h => k b _ h (ne_tl h fun _ z => by cases z) (ne_l h (fun _ z => by cases z) s1) (ne_l h (fun _ z => by cases z) s2) (ne_l h (fun _ z => by cases z) M.f) (ne_l h (fun _ z => by cases z) M.d)
  refine ⟨hS, hT, hP, f, fa.to tup, d, da.to tup, k _ _ M.b (ne_tl M.b fun _ z => by cases z) M.Bp M.Bc M.BF M.BD, ?_, tup _ _ M.t, M.Fp, M.Fc, M.Dp, M.Dc, M.FD, M.Bp, M.Bc, M.BF, M.BD, M.xo⟩
  have hx := M.xo
  cases hodd : M.odd with
  | non => exact .non
  | neg => exact .neg
  | tru => exact .tru
  | one => exact .one
  | tup h => exact .tup (tup _ _ h)
  | @lst a h => exact .lst (k _ _ h (ne_tl h fun _ z => by cases z) (fun z => hx p (by simp) (by rw [z])) (fun z => hx c (by simp) (by rw [z])) (fun z => hx F (by simp) (by rw [z])) (fun z => hx D (by simp) (by rw [z])))
  | @dic a h => exact .dic (k _ _ h (ne_tl h fun _ z => by cases z) (ne_l h (fun _ z => by cases z) s1) (ne_l h (fun _ z => by cases z) s2) (ne_l h (fun _ z => by cases z) M.f) (ne_l h (fun _ z => by cases z) M.d))
theorem Mi.grow (M : Mi mg qs P p c F D B tw tt x a n fs ds wf wd H) (g : Lm.Grow P H H') (hT : Lm.TabD mg qs H' P) (hP : ∃ ps, H' P = some (.tbl ps)) : Mi mg qs P p c F D B tw tt x a n fs ds wf wd H' := by
  obtain ⟨ps, hp⟩ := M.pt
  have ne_tl : ∀ {b : Addr} {xs : List V}, H b = some (.lst xs) → b ≠ P := fun {b xs} h z => by
    rw [z, hp] at h
    cases h
  obtain ⟨L, cells, a1, kk, m, s1, s2, r⟩ := M.str
  exact M.move (fun b o h h1 _ _ _ _ => g b o h1 h) ⟨L, cells, a1, kk, m, g _ _ (ne_tl s1) s1, g _ _ (ne_tl s2) s2, r⟩ hT hP (g _ _ (ne_tl M.f) M.f) M.fa (g _ _ (ne_tl M.d) M.d) M.da
theorem Mi.ex (M : Mi mg qs P p c F D B tw tt x a n fs ds wf wd H) (e : Evl.Ex H H') : Mi mg qs P p c F D B tw tt x a n fs ds wf wd H' := by
  obtain ⟨ps, hp⟩ := M.pt
  exact M.move (fun b o h _ _ _ _ _ => e b o h) (M.str.ex e) (tabD_kl qs M.tab (Kl.ex e)) ⟨ps, e _ _ hp⟩ (e _ _ M.f) M.fa (e _ _ M.d) M.da
theorem Mi.kp (M : Mi mg qs P p c F D B tw tt x a n fs ds wf wd H) (k : Kp p c H H') (hS : StrAt H' p c n') : Mi mg qs P p c F D B tw tt x a n' fs ds wf wd H' := by
  obtain ⟨ps, hp⟩ := M.pt
  have kl := Kl.kp M.str k
  exact M.move (fun b o h _ h1 h2 _ _ => k b o h h1 h2) hS (tabD_kl qs M.tab kl) ⟨ps, kl _ _ hp (fun _ z => by cases z)⟩ (k _ _ M.f M.Fp M.Fc) M.fa (k _ _ M.d M.Dp M.Dc) M.da
theorem Kl.upd {F : Addr} {xs ys : List V} {H : Hp} (h : H F = some (.lst xs)) : Kl H (L2.upd H F (.lst ys)) := fun b o e nl => by
  rw [upd_ne (fun z => by rw [z, h] at e; exact nl _ (Option.some.inj e).symm)]
  exact e
theorem Mi.app {r : Addr} {w : Str} {z : V} (M : Mi mg qs P p c F D B tw tt x a n fs ds wf wd H) (hr : H r = some (.tup [.str w, z])) : Mi mg qs P p c F D B tw tt x a n (fs ++ [.ref r]) ds (wf ++ [(w, z)]) wd (L2.upd H F (.lst (fs ++ [.ref r]))) := by
  obtain ⟨ps, hp⟩ := M.pt
  have kl : Kl H (L2.upd H F (.lst (fs ++ [.ref r]))) := Kl.upd M.f
  exact M.move (fun b o h _ _ _ h1 _ => by rw [upd_ne h1]; exact h) (M.str.upd M.Fp M.Fc) (tabD_kl qs M.tab kl) ⟨ps, kl _ _ hp (fun _ z => by cases z)⟩ upd_same (M.fa.snoc hr) (by rw [upd_ne M.FD.symm]; exact M.d) M.da
theorem Mi.ext {l : List V} {w3 : List (Str × V)} (M : Mi mg qs P p c F D B tw tt x a n fs ds wf wd H) (h3 : At H l w3) : Mi mg qs P p c F D B tw tt x a n fs (ds ++ l) wf (wd ++ w3) (L2.upd H D (.lst (ds ++ l))) := by
  obtain ⟨ps, hp⟩ := M.pt
  have kl : Kl H (L2.upd H D (.lst (ds ++ l))) := Kl.upd M.d
  exact M.move (fun b o h _ _ _ _ h1 => by rw [upd_ne h1]; exact h) (M.str.upd M.Dp M.Dc) (tabD_kl qs M.tab kl) ⟨ps, kl _ _ hp (fun _ z => by cases z)⟩ (by rw [upd_ne M.FD]; exact M.f) M.fa upd_same (At.app h3 M.da)
end
/-! ### how a call was refused -/
def RefQ (w : Str) (v : V) (H1 : Hp) (Q : VK) : Prop := ∀ (H2 : Hp) (p : Addr), Evl.Ex H1 H2 → H1 p = none → H2 p = some (.tup [.str w, v]) → Q (.ref p) H2
section
variable {P : Program} {w : World} {K : PySem.W.Frag} {mg : Str → Option Value} {base : Heap} {C1 C2 f1 f2 : Addr}
theorem told1 {C : Addr} {w f : Str} {v : V} {H1 H' : Hp} {Q : VK} {d : Addr} (h : RefQ w v H1 Q) (e : Evl.Ex H1 H') (hd : H' d = none) : Told1 C w f Q (.ref C) (some d) (upd H' d (.xd [(f, v)])) := by
  refine ⟨rfl, d, _, v, rfl, upd_same, by simp [List.lookup], fun p hp => ?_⟩
  have e2 := e.trans ((Evl.Ex.new (o := .xd [(f, v)]) hd).trans (Evl.Ex.new (o := .tup [.str w, v]) hp))
  refine h _ p e2 ?_ upd_same
  cases z : H1 p with
  | none => rfl
  | some o =>
    have := (e.trans (Evl.Ex.new (o := .xd [(f, v)]) hd)) p o z
    rw [hp] at this
    cases this
theorem metE1 {v : V} {H1 H' : Hp} {Q : VK} {d : Addr} (T1 : Err P w K mg base "BadNumbers" "index" C1 f1) (h : RefQ "numbers" v H1 Q) (e : Evl.Ex H1 H') (hd : H' d = none) : MetE K Q (metCs C1 C2) (.ref C1) (some d) (upd H' d (.xd [("index", v)])) :=
  ⟨true, T1.c.me, fun _ => told1 h e hd, (fun z => by cases z)⟩
theorem metE2 {v : V} {H1 H' : Hp} {Q : VK} {d : Addr} (T2 : Err P w K mg base "BadNumber" "thing" C2 f2) (hno : PySem.W.exmOne K (.ref C2) (.ref C1) = some false) (h : RefQ "number" v H1 Q) (e : Evl.Ex H1 H') (hd : H' d = none) : MetE K Q (metCs C1 C2) (.ref C2) (some d) (upd H' d (.xd [("thing", v)])) :=
  ⟨false, hno, (fun z => by cases z), fun _ => ⟨true, T2.c.me, fun _ => told1 h e hd, (fun z => by cases z)⟩⟩
end
end K14
namespace K14
open PySem PySem.Spec PyProof.Rows L2 Sq Exs Nk
/-! ### law -/
abbrev sLaw : Stmt := top 29
abbrev nmLaw : List Str := ["script", "turn", "at", "found", "due", "ask", "bad", "odd", "stream"]
theorem scLaw : FnScope nmLaw ["script"] (defScope sLaw) := ⟨rfl, rfl, rfl, by decide +kernel, rfl, by decide +kernel, by decide +kernel⟩
abbrev ql1 : Str := "law" ++ ".<locals>." ++ "<lambda>"
abbrev ql2 : Str := ql1 ++ ".<locals>." ++ "<lambda>"
section
variable {P : Program} {w : World} {K : PySem.W.Frag} {mg : Str → Option Value} {base : Heap} {C1 C2 f1 f2 : Addr}
theorem okCd {x qual : Str} {params : Arguments} {body : List Stmt} {scope : Scope} {dvs : List V} {kws : List (Str × V)} {f c : Addr} {fd : FuncData} {CX : CXT} {N ps : List Str} {k : Nat} {sp : Sp} (F : FunD K x qual params body scope dvs kws f fd) (hc : fd.code = .ref c) (S : FnScope N ps scope) (len : ∀ vs H Q E, sp vs H Q E → vs.length = ps.length)
    (hbody : ∀ (A : Around) (outer : List Env) (s : Shared) (H : Hp) (vs : List V) (Q : VK) (E : XK), Room k (A.deeper (envOfC qual scope s.heap.objs.size f (.ref c))) → sp vs H Q E →
      ∃ t, PSs (cxOf CX P w K mg base N qual scope f (.ref c) A outer s H E) body t ∧ t { nx := fun _ H' => Q .non H', rt := Q } (start N vs) H) : FnOk P w K mg base CX (k + 1) f fd ps sp := by
  obtain ⟨oc, od, dV, kV, doc, pm, an, cdv, ct, osl, rfl, lk, hcd, _, _⟩ := F.ex
  obtain rfl : cdv = .ref c := hc
  exact fn_of lk hcd S len fun A outer s H vs Q E hr hsp => hbody A outer s H vs Q E hr hsp
def spLaw (K : PySem.W.Frag) (PL : Addr) : Sp := fun vs H Q _ => ∃ (a : Addr) (ns : List Int), vs = [.ref a] ∧ SqL K H a (ns.map V.int) ∧ ns.length ≤ 63 ∧ H PL = some (.tbl #[]) ∧ ∀ H', Q (.bl true) H'
/-- what the two counts are, by their addresses -/
def CntS (K : PySem.W.Frag) (C1 C2 fW fF : Addr) (f : Addr) (sp : Sp) : Prop := (f = fW ∧ sp = spCnt K C1 C2 (ctM false)) ∨ (f = fF ∧ sp = spCnt K C1 C2 cfM)
theorem builtins_at {h : Heap} {mg : Str → Option Value} {P P2 : Addr} (hb : h.BuiltinsAt mg P) (g : Lm.Good mg P2) : h.BuiltinsAt mg P2 := by
  obtain ⟨bm, ob, b1, b2, b3, b4, b5, b6, b7, b8⟩ := hb
  exact ⟨bm, ob, b1, b2, b3, g.2 bm b1, b5, b6, b7, b8⟩
theorem cnt_refused {fW fF fn : Addr} {sp : Sp} {H : Hp} {Q : VK} {E : XK} {x y : V} {n ty : String} {xs : List V} (h : CntS K C1 C2 fW fF fn sp) (hx : ThX K H x n xs) (hy : Pl H y ty)
    (h1 : fnnV (lstB n) xs ≠ .non → ∀ H' d, Evl.Ex H H' → H' d = none → E (.ref C1) (some d) (upd H' d (.xd [("index", fnnV (lstB n) xs)]))) (h2 : fnnV (lstB n) xs = .non → numV y = false → ∀ H' d, Evl.Ex H H' → H' d = none → E (.ref C2) (some d) (upd H' d (.xd [("thing", y)])))
    (no : fnnV (lstB n) xs = .non → numV y = true → False) : sp [x, y] H Q E := by
  rcases h with ⟨_, rfl⟩ | ⟨_, rfl⟩
  · exact ⟨x, y, n, ty, xs, rfl, hx, hy, h1, h2, fun a b => (no a b).elim⟩
  · exact ⟨x, y, n, ty, xs, rfl, hx, hy, h1, h2, fun a b => (no a b).elim⟩
theorem fnn_bad {d : Nat} {x : V} (hd : d ≤ 2) (hx : numV x = false) : fnnV true (badV d x) = .int (d : Int) := by
  have h0 : numV (.int 1) = true := by decide
  have h1 : numV (.int 2) = true := by decide
  have e : fnn (badV d x) = some d := by
    match d, hd with
    | 0, _ => exact fnn_some (y := x) (fun j z hj => absurd hj (Nat.not_lt_zero j)) rfl hx
    | 1, _ => exact fnn_some (y := x) (fun j z hj hz => by
        obtain rfl : j = 0 := by omega
        obtain rfl : V.int 1 = z := by simpa [badV, natV] using hz
        exact h0) rfl hx
    | 2, _ => exact fnn_some (y := x) (fun j z hj hz => by
        match j, hj with
        | 0, _ =>
          obtain rfl : V.int 1 = z := by simpa [badV, natV] using hz
          exact h0
        | 1, _ =>
          obtain rfl : V.int 2 = z := by simpa [badV, natV] using hz
          exact h1) rfl hx
  unfold fnnV
  rw [if_pos rfl, e]
theorem bad_pl {H : Hp} {d : Nat} {x : V} (hx : ∃ n, Pl H x n) : ∀ y ∈ badV d x, ∃ n, Pl H y n := by
  intro y hy
  unfold badV at hy
  rcases List.mem_append.mp hy with hy | hy
  · rcases List.mem_append.mp hy with hy | hy
    · have hy := List.mem_of_mem_take hy
      obtain ⟨z, _, rfl⟩ := List.mem_map.mp hy
      exact ⟨_, .int _⟩
    · simp only [List.mem_cons, List.not_mem_nil, or_false] at hy
      rcases hy with rfl | rfl
      · exact hx
      · exact ⟨_, .non⟩
  · simp only [List.mem_cons, List.not_mem_nil, or_false] at hy
    subst hy
    exact ⟨_, .int _⟩
theorem codeT_hd {P : Program} {w : World} {H : Hp} {h : Heap} {c P2 : Addr} {q : Str} (x : ObjOk P w H h c (Lm.CodeT c q P2)) : PySem.W.CodeHd h c P2 := x.1.2
theorem ok_law {f fS fX fG fM fH cL PL : Addr} {fd fdS fdX fdG fdM fdH : FuncData} (F : FnP K "law" sLaw f fd) (hcode : fd.code = .ref cL) (T : Env14 P w K mg base C1 C2)
    (T1 : Err P w K mg base "BadNumbers" "index" C1 f1) (T2 : Err P w K mg base "BadNumber" "thing" C2 f2) (hno : PySem.W.exmOne K (.ref C2) (.ref C1) = some false)
    (gS : mg "_law_start" = some (.ref fS)) (GS : FnOk P w K mg base CX0 1 fS fdS ["script"] (spStart K)) (kS : PySem.W.keepIn K (.ref fS) = true) (bS : L2.Binds K fdS ["script"] [])
    (gX : mg "_law_small_right" = some (.ref fX)) (GX : FnOk P w K mg base CX0 6 fX fdX ["stream"] spTurn) (kX : PySem.W.keepIn K (.ref fX) = true) (bX : L2.Binds K fdX ["stream"] [])
    (gG : mg "_law_great_right" = some (.ref fG)) (GG : FnOk P w K mg base CX0 25 fG fdG ["stream"] spTurn) (kG : PySem.W.keepIn K (.ref fG) = true) (bG : L2.Binds K fdG ["stream"] [])
    (gM : mg "_law_met" = some (.ref fM)) (FM : FnP K "_law_met" sMet fM fdM) (gH : mg "_law_m_held" = some (.ref fH)) (FH : FnP K "_law_m_held" sHeld fH fdH) (TB : LamX.TabB base mg cL PL) :
    FnOk P w K mg base CX0 26 f fd ["script"] (spLaw K PL) := by
  obtain ⟨fD, fdD, gD, GD, kD, bD⟩ := T.draw
  obtain ⟨fP, fdP, gP, GP, kP, bP⟩ := T.pick
  obtain ⟨fE, fdE, gE, GE, kE, bE⟩ := T.same
  obtain ⟨fW, fdW, gW, GW, kW, bW⟩ := T.words
  obtain ⟨fF, fdF, gF, GF, kF, bF⟩ := T.framed
  have bM : L2.Binds K fdM ["ask"] [] := FM.bindsN fun _ _ _ _ _ _ us hl => match us, hl with | [_], _ => rfl
  have bH : L2.Binds K fdH ["ask"] [] := FH.bindsN fun _ _ _ _ _ _ us hl => match us, hl with | [_], _ => rfl
  have kM := FM.kp
  have kH := FH.kp
  obtain ⟨ocM, odM, dVM, kVM, docM, pmM, anM, cdM, ctM', oslM, rfl, lkM, hcM, _, _⟩ := FM.ex
  obtain ⟨ocH, odH, dVH, kVH, docH, pmH, anH, cdH, ctH', oslH, rfl, lkH, hcH, _, _⟩ := FH.ex
  have two : ∀ g sp, CntS K C1 C2 fW fF g sp → ∃ fd ps, FnOk P w K mg base (L2.CX P w) 5 g fd ps sp ∧ PySem.W.keepIn K (.ref g) = true ∧ L2.Binds K fd ps [] := fun g sp h => by
    rcases h with ⟨rfl, rfl⟩ | ⟨rfl, rfl⟩
    · exact ⟨_, _, GW, kW, bW⟩
    · exact ⟨_, _, GF, kF, bF⟩
  refine okCd F hcode scLaw (fun vs H Q E h => ?_) (fun A outer s H vs Q E hr h => ?_)
  · obtain ⟨a, ns, rfl, _⟩ := h
    rfl
  · obtain ⟨a, ns, rfl, hq, hl, hPL, k⟩ := h
    have hr1 : Room 1 _ := hr.mono (by decide)
    have hr2 : Room 2 _ := hr.mono (by decide)
    have hr5 : Room 5 _ := hr.mono (by decide)
    refine' ⟨_, PSs.nox (pss_cons (ps_set (i := 8) scLaw.nd rfl (.inr rfl) (pe_call GS hr1 (by rfl) gS kS bS .nil pass0 (pa_cons (pv 0) pa_nil)))
      (pss_cons (ps_for PassesOwn.never rfl (pi_range1 (by rfl) T.range (pa_cons pe_int pa_nil)) (pg_name (i := 1) scLaw.nd rfl (.inl rfl))
        (pss_cons (ps_if (PW.pt (pw_or (pt_not (pt_val (pe_call GX (hr.mono (by decide)) (by rfl) gX kX bX .nil pass0 (pa_cons (pv 8) pa_nil)))) (pw_or1 (pt_not (pt_val (pe_call GG hr (by rfl) gG kG bG .nil pass0 (pa_cons (pv 8) pa_nil))))))) (pss_one (ps_ret pe_bl)) pss_nil)
        (pss_cons (ps_asg (pe_tup (pa_cons (pe_call GD hr1 (by rfl) gD kD bD .nil pass0 (pa_cons (pv 8) (pa_cons pe_int pa_nil))) (pa_cons (pe_call GP hr2 (by rfl) gP kP bP .nil pass0 (pa_cons (pv 8) (pa_cons (pe_lst (pa_cons pe_non (pa_cons (pe_un un_neg pe_int) (pa_cons pe_bl (pa_cons pe_str (pa_cons (pe_tup (pa_cons pe_int pa_nil)) (pa_cons (pe_lst (pa_cons pe_int pa_nil)) (pa_cons pe_dnewK pa_nil)))))))) pa_nil))) pa_nil)))
            (pg_tup (by rfl) (pgs_cons (pg_name (i := 2) scLaw.nd rfl (.inl rfl)) (pgs_cons (pg_name (i := 7) scLaw.nd rfl (.inr rfl)) pgs_nil))))
        (pss_cons (ps_set (i := 6) scLaw.nd rfl (.inr rfl) (pe_op op_cat (pe_op op_cat (pe_slice sl_list (pe_lst (pa_cons pe_int (pa_cons pe_int pa_nil))) po_none (po_some (pv 2))) (pe_lst (pa_cons (pv 7) (pa_cons pe_non pa_nil)))) (pe_lst (pa_cons pe_int pa_nil))))
        (pss_cons (ps_par (i := 3) (j := 4) (by rfl) scLaw.nd rfl rfl (by decide) rfl rfl (pa_cons (pe_lst pa_nil) (pa_cons (pe_lst pa_nil) pa_nil)) (by rfl))
        (pss_cons ?loop
        (pss_cons (ps_if (pt_not (pt_val (pe_call (GE 5) hr5 (by rfl) gE kE bE .nil pass0 (pa_cons (pv 3) (pa_cons (pv 4) pa_nil))))) (pss_one (ps_ret pe_bl)) pss_nil)
        (pss_one ?held))))))))
      (pss_cons (ps_set (i := 3) scLaw.nd rfl (.inl rfl) (pe_lst (pa_cons (pe_callS GW hr5 (by rfl) gW kW bW (fun σ => passAt takes0 σ) (pa_cons (pe_lst pa_nil) (pa_cons pe_int pa_nil))) (pa_cons (pe_callS GF hr5 (by rfl) gF kF bF (fun σ => passAt takes0 σ) (pa_cons (pe_lst pa_nil) (pa_cons pe_int pa_nil)))
        (pa_cons (pe_callS GF hr5 (by rfl) gF kF bF (fun σ => passAt takes0 σ) (pa_cons (pe_lst (pa_cons pe_int (pa_cons pe_int pa_nil))) (pa_cons pe_int pa_nil))) (pa_cons (pe_callS GF hr5 (by rfl) gF kF bF (fun σ => passAt takes0 σ) (pa_cons (pe_lst (pa_cons pe_int pa_nil)) (pa_cons pe_int pa_nil))) pa_nil))))))
      (pss_one (ps_ret (pe_call (GE 2) hr2 (by rfl) gE kE bE .nil pass0 (pa_cons (pv 3) (pa_cons (pe_lst (pa_cons pe_int (pa_cons pe_int (pa_cons pe_int (pa_cons pe_int pa_nil))))) pa_nil)))))))), ?rd⟩
    case loop =>
      refine' ps_for PassesOwn.never rfl (pi_tup (pe_tup (pa_cons (pe_glob (v := .ref fW) (by rfl) gW rfl) (pa_cons (pe_glob (v := .ref fF) (by rfl) gF rfl) pa_nil)))) (pg_name (i := 5) scLaw.nd rfl (.inr rfl))
        (pss_cons (ps_expr (pe_bm PySem.F.plainAttrs_list PySem.F.slot_list_append PySem.F.type_list_append mt_append (pv 3) (pa_cons ?m1 pa_nil)))
        (pss_cons (ps_expr (pe_bm PySem.F.plainAttrs_list PySem.F.slot_list_append PySem.F.type_list_append mt_append (pv 3) (pa_cons ?m2 pa_nil)))
        (pss_cons (ps_expr (pe_bm PySem.F.plainAttrs_list PySem.F.slot_list_append PySem.F.type_list_append mt_append (pv 3) (pa_cons ?m3 pa_nil)))
        (pss_one (ps_expr (pe_bm PySem.F.plainAttrs_list PySem.F.slot_list_extend PySem.F.type_list_extend mt_extend (pv 4) (pa_cons (pe_lst (pa_cons (pe_tup (pa_cons pe_str (pa_cons (pv 2) pa_nil))) (pa_cons (pe_tup (pa_cons pe_str (pa_cons pe_int pa_nil))) (pa_cons (pe_tup (pa_cons pe_str (pa_cons (pv 7) pa_nil))) pa_nil)))) pa_nil)))))))
      case m1 =>
        exact Lm.pe_lamT (Pre := fun _ => True) (qs := [ql2]) (P := PL) (lv := 5) (Ng := ["ask", "e"]) (t := fun E => tCallX 5 (CntS K C1 C2 fW fF) (WE fun cls d _ H => E cls d H) (tCons (tVar 6) (tCons (tVar 7) tNil))) (by rfl) gM kM lkM hcM bM scMet rfl (.inl rfl) (met_gives T1 T2) (fun pins σ H s I _ => ⟨TB.code.keeps I.bk, TB.bm.keeps I.bk, TB.gP⟩) rfl (fun H H1 Y ⟨ps, hP⟩ g hY t => Lm.tabD_one hP g hY t) (hr.mono (by decide)) (LamX.lamS_by (sc := defScope sLaw) (by decide +kernel)) rfl (fun _ _ _ _ _ => rfl)
          (fun A outer s H E f c' hr5 => pe_callX two hr5 rfl (.inr (.inr rfl)) (fun σ => passAt (takes_of rfl rfl rfl rfl) σ) (pa_cons (pv 6) (pa_cons (pv 7) pa_nil)))
      case m2 =>
        exact Lm.pe_lamT (Pre := fun _ => True) (qs := [ql2]) (P := PL) (lv := 5) (Ng := ["ask", "e"]) (t := fun E => tCallX 5 (CntS K C1 C2 fW fF) (WE fun cls d _ H => E cls d H) (tCons (tCall (spPick K) [] E0 (tCons (tVar 8) (tCons (tLst (tCons (tC .non) (tCons (tC (.int 5)) (tCons (tC (.str "ab")) (tCons tDNewK (tCons (tC (.bl true)) tNil)))))) tNil))) (tCons (tVar 7) tNil))) (by rfl) gM kM lkM hcM bM scMet rfl (.inl rfl) (met_gives T1 T2) (fun pins σ H s I _ => ⟨TB.code.keeps I.bk, TB.bm.keeps I.bk, TB.gP⟩) rfl (fun H H1 Y ⟨ps, hP⟩ g hY t => Lm.tabD_one hP g hY t) (hr.mono (by decide)) (LamX.lamS_by (sc := defScope sLaw) (by decide +kernel)) rfl (fun _ _ _ _ _ => rfl)
          (fun A outer s H E f c' hr5 => pe_callX two hr5 rfl (.inr (.inr rfl)) (fun σ => passAt (takes_of rfl rfl rfl rfl) σ) (pa_cons (pe_call GP (hr5.mono (by decide)) (by rfl) gP kP bP .nil pass0 (pa_cons (pv 8) (pa_cons (pe_lst (pa_cons pe_non (pa_cons pe_int (pa_cons pe_str (pa_cons pe_dnewK (pa_cons pe_bl pa_nil)))))) pa_nil))) (pa_cons (pv 7) pa_nil)))
      case m3 =>
        exact Lm.pe_lamT (Pre := fun _ => True) (qs := [ql2]) (P := PL) (lv := 5) (Ng := ["ask", "e"]) (t := fun E => tCallX 5 (CntS K C1 C2 fW fF) (WE fun cls d _ H => E cls d H) (tCons (tLst (tCons (tC (.int 1)) (tCons (tC (.int 2)) tNil))) (tCons (tVar 7) tNil))) (by rfl) gM kM lkM hcM bM scMet rfl (.inl rfl) (met_gives T1 T2) (fun pins σ H s I _ => ⟨TB.code.keeps I.bk, TB.bm.keeps I.bk, TB.gP⟩) rfl (fun H H1 Y ⟨ps, hP⟩ g hY t => Lm.tabD_one hP g hY t) (hr.mono (by decide)) (LamX.lamS_by (sc := defScope sLaw) (by decide +kernel)) rfl (fun _ _ _ _ _ => rfl)
          (fun A outer s H E f c' hr5 => pe_callX two hr5 rfl (.inr (.inr rfl)) (fun σ => passAt (takes_of rfl rfl rfl rfl) σ) (pa_cons (pe_lst (pa_cons pe_int (pa_cons pe_int pa_nil))) (pa_cons (pv 7) pa_nil)))
    case held =>
      refine' ps_if (pt_not (pt_val (pe_call (GE 3) (hr.mono (by decide)) (by rfl) gE kE bE .nil pass0 (pa_cons ?mh (pa_cons (pe_tup (pa_cons (pe_lst (pa_cons pe_non (pa_cons pe_str pa_nil))) pa_nil)) pa_nil))))) (pss_one (ps_ret pe_bl)) pss_nil
      case mh =>
        refine Lm.pe_lamT1 (Pre := fun _ => True) (qs := [ql2]) (P := PL) (lv := 7) (Ng := ["ask", "thing", "found"]) (N := ["one"]) (b := "one")
          (tb := fun c2 P2 => Lm.tLamT mg (fun H => H c2 = some (Lm.CodeT c2 ql1 P2) ∧ Lm.Good mg P2) P2 ql2 [] (TMet K (metCs C1 C2)) fun E => tCallS (spCnt K C1 C2 (ctM false)) (WE fun cls d _ H => E cls d H) (tCons (tLst (tCons (tC (.int 1)) tNil)) (tCons (tVar 0) tNil)))
          (by rfl) gH kH lkH hcH bH scHeld rfl (.inl rfl) held_gives (fun pins σ H s I _ => ⟨TB.code.keeps I.bk, TB.bm.keeps I.bk, TB.gP⟩) rfl (fun H H1 Y ⟨ps, hP⟩ g hY t => Lm.tabD_one hP g hY t) (hr.mono (by decide)) ⟨rfl, rfl, rfl, by decide +kernel, rfl, by decide +kernel, by decide +kernel⟩ rfl (by decide +kernel) rfl (fun _ _ _ _ _ => rfl)
          ?mi
        intro A outer s H f c2 P2 hr7
        refine Lm.pe_lamT (Pre := fun H => H c2 = some (Lm.CodeT c2 ql1 P2) ∧ Lm.Good mg P2) (qs := []) (P := P2) (TT := TMet K (metCs C1 C2)) (t := fun E => tCallS (spCnt K C1 C2 (ctM false)) (WE fun cls d _ H => E cls d H) (tCons (tLst (tCons (tC (.int 1)) tNil)) (tCons (tVar 0) tNil))) (lv := 5) (Ng := ["ask", "e"]) (by rfl) gM kM lkM hcM bM scMet rfl (.inl rfl) (met_gives T1 T2) (fun pins σ H s I z => ⟨codeT_hd (I.hok c2 _ z.1), builtins_at (TB.bm.keeps I.bk) z.2, z.2.1⟩) rfl (fun H H1 Y _ g hY t => True.intro) hr7 (LamX.lamS_by ?l1) rfl (fun _ _ _ _ _ => rfl) ?l2
        · rfl
        · intro A outer s H E f c' hr5
          exact pe_callS GW hr5 (by rfl) gW kW bW (fun σ => passAt (takes_of rfl rfl rfl rfl) σ) (pa_cons (pe_lst (pa_cons pe_int pa_nil)) (pa_cons (pv 0) pa_nil))
    case rd =>
      refine ⟨_, rfl, a, ns, rfl, hq, hl, fun p c H1 hp0 hc0 e1 hS1 => ?_⟩
      have hp : p ≠ c := by
        obtain ⟨L, hS⟩ := hS1
        exact str_ne hS
      have hT1 : Lm.TabD mg [ql1, ql2] H1 PL := Lm.tabD_nil (e1 _ _ hPL)
      refine ⟨_, rfl, by decide, by decide, ?_⟩
      refine for_range (lo := 0) (n := 5) (fun i σ H2 => ∃ v1 v2 v3 v4 v5 v6 v7, σ = [some (.ref a), v1, v2, v3, v4, v5, v6, v7, some (.ref p)] ∧ StrAt H2 p c (i * 3000) ∧ Lm.TabD mg [ql1, ql2] H2 PL) ⟨none, none, none, none, none, none, none, rfl, hS1, hT1⟩ ?_ ?_
      · rintro i σ H2 hi ⟨v1, v2, v3, v4, v5, v6, v7, rfl, hS2, hT2⟩
        refine ⟨_, rfl, p, c, _, rfl, hS2, by omega, fun H3 n3 k3 hS3 hn3 => ⟨_, rfl, iteF ?_⟩⟩
        refine ⟨_, rfl, p, c, _, rfl, hS3, by omega, fun H4 n4 k4 hS4 hn4 => ⟨_, rfl, iteF ?_⟩⟩
        have hT4 : Lm.TabD mg [ql1, ql2] H4 PL := tabD_kl _ (tabD_kl _ hT2 (Kl.kp hS2 k3)) (Kl.kp hS3 k4)
        refine ⟨_, rfl, p, c, _, 3, rfl, hS4, by omega, by decide, by decide, fun d H5 d0 d1 k5 hS5 => ?_⟩
        refine ⟨_, rfl, _, rfl, by show 1 ≤ sizeLine; decide, fun t1 ht1 => ⟨by show 1 ≤ sizeLine; decide, fun l2 hl2 => fun d3 hd3 => ⟨by show 7 ≤ sizeLine; decide, fun l4 hl4 => ?_⟩⟩⟩
        have x1 := Evl.Ex.new (o := .tup [V.int 1]) ht1
        have x2 := Evl.Ex.new (o := .lst [V.int 2]) hl2
        have x3 := Evl.Ex.new (o := .dK []) hd3
        have x4 := Evl.Ex.new (o := .lst [V.non, V.int (-1), V.bl true, V.str "1", V.ref t1, V.ref l2, V.ref d3]) hl4
        have x14 := ((x1.trans x2).trans x3).trans x4
        have S6 := hS5.ex x14
        obtain ⟨l4p, l4c⟩ := (hS5.ex ((x1.trans x2).trans x3)).ne hl4
        obtain ⟨l2p, l2c⟩ := (hS5.ex x1).ne hl2
        refine ⟨p, c, l4, _, _, rfl, S6, by omega, l4p, l4c, .inl upd_same, by show 1 ≤ 7; decide, by show 7 < 1000000; decide, fun x j H6 hj k6 hS6 => ⟨by show 2 ≤ sizeLine; decide, fun tp htp => ⟨tp, _, rfl, SqT.of upd_same, rfl, ?_⟩⟩⟩
        have hodd : OddP H6 x ∧ ∀ b, x = .ref b → b ≠ p ∧ b ≠ c ∧ ∃ o, H6 b = some o := by
          obtain ⟨t1p, t1c⟩ := hS5.ne ht1
          obtain ⟨d3p, d3c⟩ := (hS5.ex (x1.trans x2)).ne hd3
          have gt := k6 t1 _ ((x2.trans (x3.trans x4)) _ _ upd_same) t1p t1c
          have gl := k6 l2 _ ((x3.trans x4) _ _ upd_same) l2p l2c
          have gd := k6 d3 _ (x4 _ _ upd_same) d3p d3c
          match j, hj with
          | 0, hj => obtain rfl : V.non = x := by simpa using hj
                     exact ⟨.non, fun b z => by cases z⟩
          | 1, hj => obtain rfl : V.int (-1) = x := by simpa using hj
                     exact ⟨.neg, fun b z => by cases z⟩
          | 2, hj => obtain rfl : V.bl true = x := by simpa using hj
                     exact ⟨.tru, fun b z => by cases z⟩
          | 3, hj => obtain rfl : V.str "1" = x := by simpa using hj
                     exact ⟨.one, fun b z => by cases z⟩
          | 4, hj => obtain rfl : V.ref t1 = x := by simpa using hj
                     exact ⟨.tup gt, fun b z => by cases z; exact ⟨t1p, t1c, _, gt⟩⟩
          | 5, hj => obtain rfl : V.ref l2 = x := by simpa using hj
                     exact ⟨.lst gl, fun b z => by cases z; exact ⟨l2p, l2c, _, gl⟩⟩
          | 6, hj => obtain rfl : V.ref d3 = x := by simpa using hj
                     exact ⟨.dic gd, fun b z => by cases z; exact ⟨d3p, d3c, _, gd⟩⟩
          | j + 7, hj => simp at hj
        obtain ⟨hodd, hxr⟩ := hodd
        have hT6 : Lm.TabD mg [ql1, ql2] H6 PL := tabD_kl _ (tabD_kl _ (tabD_kl _ hT4 (Kl.kp hS4 k5)) (Kl.ex x14)) (Kl.kp S6 k6)
        obtain ⟨dn, rfl⟩ : ∃ dn : Nat, d = (dn : Int) := ⟨d.toNat, by omega⟩
        have hdn : dn ≤ 2 := by omega
        refine ⟨_, _, rfl, _, _, rfl, rfl, ?_⟩
        have y0 := Evl.Ex.new (o := .tup [V.int (dn : Int), x]) htp
        refine ⟨by show 2 ≤ sizeLine; decide, fun b1 hb1 => ⟨_, rfl, _, rfl, b1, _, rfl, SqL.of upd_same, fun b2 hb2 => ⟨_, rfl, by show 2 ≤ sizeLine; decide, fun b3 hb3 => ?_⟩⟩⟩
        have cut : cutV [V.int 1, V.int 2] none (some (dn : Int)) = (natV [1, 2]).take dn := by
          match dn, hdn with
          | 0, _ => rfl
          | 1, _ => rfl
          | 2, _ => rfl
        have y1 := Evl.Ex.new (o := .lst [V.int 1, V.int 2]) hb1
        have y2 := Evl.Ex.new (o := .lst (cutV [V.int 1, V.int 2] none (some (dn : Int)))) hb2
        have y3 := Evl.Ex.new (o := .lst [x, V.non]) hb3
        refine ⟨b2, b3, _, _, rfl, rfl, y3 _ _ upd_same, upd_same, ?_, fun b4 hb4 => ⟨by show 1 ≤ sizeLine; decide, fun b5 hb5 => ?_⟩⟩
        · rw [cut, sizeLine_eq, List.length_take]
          show min dn 2 + 2 ≤ _
          omega
        have y4 := Evl.Ex.new (o := .lst (cutV [V.int 1, V.int 2] none (some (dn : Int)) ++ [x, V.non])) hb4
        have y5 := Evl.Ex.new (o := .lst [V.int 3]) hb5
        refine ⟨b4, b5, _, _, rfl, rfl, y5 _ _ upd_same, upd_same, ?_, fun B hB => ⟨Nat.zero_le _, fun F hF => ⟨Nat.zero_le _, fun D hD => ⟨_, _, rfl, ?_⟩⟩⟩⟩
        · rw [cut, sizeLine_eq, List.length_append, List.length_take]
          show min dn 2 + 2 + 1 ≤ _
          omega
        have y05 := ((((y0.trans y1).trans y2).trans y3).trans y4).trans y5
        have y6 := Evl.Ex.new (o := .lst ((cutV [V.int 1, V.int 2] none (some (dn : Int)) ++ [x, V.non]) ++ [V.int 3])) hB
        have y7 := Evl.Ex.new (o := .lst []) hF
        have y8 := Evl.Ex.new (o := .lst []) hD
        have gB := (y7.trans y8) B _ upd_same
        have gF := y8 F _ upd_same
        have eB : (cutV [V.int 1, V.int 2] none (some (dn : Int)) ++ [x, V.non]) ++ [V.int 3] = badV dn x := by rw [cut]; rfl
        have S8 := hS6.ex (((y05.trans y6).trans y7).trans y8)
        obtain ⟨Bp, Bc⟩ := (hS6.ex y05).ne hB
        obtain ⟨Fp, Fc⟩ := (hS6.ex (y05.trans y6)).ne hF
        obtain ⟨Dp, Dc⟩ := (hS6.ex ((y05.trans y6).trans y7)).ne hD
        have BF : B ≠ F := ne_of_none upd_same hF
        have BD : B ≠ D := ne_of_none (y7 _ _ upd_same) hD
        have FD : F ≠ D := ne_of_none upd_same hD
        have y08 := ((y05.trans y6).trans y7).trans y8
        have xo : ∀ z ∈ [p, c, F, D], x ≠ .ref z := by
          intro z hz e
          obtain ⟨z1, z2, o, ho⟩ := hxr z e
          have zF : z ≠ F := ne_of_none ((y05.trans y6) _ _ ho) hF
          have zD : z ≠ D := ne_of_none (((y05.trans y6).trans y7) _ _ ho) hD
          simp only [List.mem_cons, List.not_mem_nil, or_false] at hz
          rcases hz with rfl | rfl | rfl | rfl
          · exact z1 rfl
          · exact z2 rfl
          · exact zF rfl
          · exact zD rfl
        refine ⟨by show 2 ≤ sizeLine; decide, fun tw htw => ⟨tw, rfl, ⟨[V.ref fW, V.ref fF], SqT.of upd_same⟩, ?_⟩⟩
        have y9 := Evl.Ex.new (o := .tup [V.ref fW, V.ref fF]) htw
        have y09 := y08.trans y9
        have M9 := Mi.mk (P := PL) (a := dn) (tw := tw) (S8.ex y9) (tabD_kl _ hT6 (Kl.ex y09)) (by
          obtain ⟨ps, h1, _⟩ := tabD_kl _ hT6 (Kl.ex y09)
          exact ⟨ps, h1⟩) (y9 _ _ gF) .nil (y9 D (.lst []) upd_same) .nil (y9 _ _ (gB.trans (by rw [eB]))) (hodd.to fun b o _ h => y09 _ _ h) upd_same Fp Fc Dp Dc FD Bp Bc BF BD xo
        refine for_it (walk_tup (xs := [V.ref fW, V.ref fF])) (fun i2 σ H' => ∃ (v5 : Option V) (m : Nat) (fs ds : List V) (wf : List (Str × V)), σ = [some (.ref a), some (.int (0 + (i : Int))), some (.int (dn : Int)), some (.ref F), some (.ref D), v5, some (.ref B), some x, some (.ref p)] ∧ Mi mg [ql1, ql2] PL p c F D B tw [V.ref fW, V.ref fF] x dn m fs ds wf wf H' ∧ m ≤ (n4 + 2) + i2 ∧ wf.length = 3 * i2 ∧ ∀ q ∈ wf, q.2 = x ∨ ∃ i : Int, q.2 = .int i)
          ⟨v5, _, [], [], [], rfl, M9, by omega, rfl, fun q hq => nomatch hq⟩ ?_ ?_ ?_
        · rintro i2 σ H' _ ⟨_, _, _, _, _, _, M, _⟩
          exact SqT.of M.t
        · rintro i2 u σ H' H'' hi2 ⟨v5', m, fs, ds, wf, rfl, M, hm, hwl, hwf⟩ ⟨rfl, hu⟩
          have hfn : ∃ (fn : Addr) (sp : Sp), u = .ref fn ∧ CntS K C1 C2 fW fF fn sp := by
            match i2, hu with
            | 0, hu => exact ⟨fW, _, by simpa using hu.symm, .inl ⟨rfl, rfl⟩⟩
            | 1, hu => exact ⟨fF, _, by simpa using hu.symm, .inr ⟨rfl, rfl⟩⟩
            | i2 + 2, hu => simp at hu
          obtain ⟨fn, spn, rfl, hfn⟩ := hfn
          have hi2 : i2 < 2 := hi2
          have hflen := M.fa.len
          have hdlen := M.da.len
          refine ⟨_, rfl, .inl ⟨rfl, _, SqL.of M.f⟩, trivial, M.tab, fun H3 g3 hT3 => ?_⟩
          have M3 := M.grow g3 hT3 (by
            obtain ⟨ps, h1, _⟩ := hT3
            exact ⟨ps, h1⟩)
          obtain ⟨nx, hPx⟩ := M3.odd.pl
          refine ⟨fn, spn, rfl, hfn, _, rfl, _, rfl, ?_⟩
          dsimp only [tNil]
          have hbad : fnnV (lstB "list") (badV dn x) = .int (dn : Int) := fnn_bad hdn M3.odd.num
          refine cnt_refused hfn (n := "list") (xs := badV dn x) ⟨.lst M3.b, fun _ => ⟨false, B, rfl, SqL.of M3.b, bad_pl ⟨nx, hPx⟩⟩⟩ hPx (fun _ H' d e hd => ?_) (fun z => by rw [hbad] at z; cases z) (fun z => by rw [hbad] at z; cases z)
          rw [hbad]
          refine metE1 T1 (H1 := H3) (fun H4 r e4 _ hr => ?_) e hd
          have M4 := M3.ex e4
          refine ⟨F, fs, .ref r, rfl, rfl, M4.f, by rw [sizeLine_eq, hflen, hwl]; omega, ?_⟩
          have M5 := M4.app hr
          refine ⟨_, rfl, .inl ⟨rfl, _, SqL.of M5.f⟩, trivial, M5.tab, fun H6' g6 hT6' => ?_⟩
          have M6 := M5.grow g6 hT6' (by
            obtain ⟨ps, h1, _⟩ := hT6'
            exact ⟨ps, h1⟩)
          refine ⟨fn, spn, rfl, hfn, _, rfl, fun kd hkd => ⟨by show 5 ≤ sizeLine; decide, fun l hl' => ?_⟩⟩
          have z1 := Evl.Ex.new (o := .dK []) hkd
          have z2 := Evl.Ex.new (o := .lst [V.non, V.int 5, V.str "ab", V.ref kd, V.bl true]) hl'
          have M7 := M6.ex (z1.trans z2)
          obtain ⟨kp_, kc_⟩ := M6.str.ne hkd
          obtain ⟨lp_, lc_⟩ := (M6.str.ex z1).ne hl'
          refine ⟨p, c, l, _, _, rfl, M7.str, by omega, lp_, lc_, .inl upd_same, by show 1 ≤ 5; decide, by show 5 < 1000000; decide, fun y j H8 hj k8 hS8 => ⟨_, rfl, ?_⟩⟩
          have M8 := M7.kp k8 hS8
          obtain ⟨ny, hPy, hny⟩ : ∃ ny, Pl H8 y ny ∧ lstB ny = false := by
            match j, hj with
            | 0, hj => obtain rfl : V.non = y := by simpa using hj
                       exact ⟨_, .non, by decide⟩
            | 1, hj => obtain rfl : V.int 5 = y := by simpa using hj
                       exact ⟨_, .int _, by decide⟩
            | 2, hj => obtain rfl : V.str "ab" = y := by simpa using hj
                       exact ⟨_, .str _, by decide⟩
            | 3, hj => obtain rfl : V.ref kd = y := by simpa using hj
                       exact ⟨_, .dic (k8 kd _ (z2 _ _ upd_same) kp_ kc_), by decide⟩
            | 4, hj => obtain rfl : V.bl true = y := by simpa using hj
                       exact ⟨_, .bl _, by decide⟩
            | j + 5, hj => simp at hj
          obtain ⟨nx8, hPx8⟩ := M8.odd.pl
          dsimp only [tNil]
          have h0 : fnnV (lstB ny) [] = .int 0 := by rw [hny]; rfl
          refine cnt_refused hfn (n := ny) (xs := []) ⟨hPy, fun z => by rw [hny] at z; cases z⟩ hPx8 (fun _ H' d e hd => ?_) (fun z => by rw [h0] at z; cases z) (fun z => by rw [h0] at z; cases z)
          rw [h0]
          refine metE1 T1 (H1 := H8) (fun H9 r2 e9 _ hr2 => ?_) e hd
          have M9' := M8.ex e9
          refine ⟨F, _, .ref r2, rfl, rfl, M9'.f, by rw [sizeLine_eq, List.length_append, hflen, hwl]; show _ + 1 < _; omega, ?_⟩
          have M10 := M9'.app hr2
          refine ⟨_, rfl, .inl ⟨rfl, _, SqL.of M10.f⟩, trivial, M10.tab, fun H11 g11 hT11 => ?_⟩
          have M11 := M10.grow g11 hT11 (by
            obtain ⟨ps, h1, _⟩ := hT11
            exact ⟨ps, h1⟩)
          refine ⟨fn, spn, rfl, hfn, by show 2 ≤ sizeLine; decide, fun l12 hl12 => ⟨_, rfl, ?_⟩⟩
          have M12 := M11.ex (Evl.Ex.new (o := .lst [V.int 1, V.int 2]) hl12)
          obtain ⟨nx12, hPx12⟩ := M12.odd.pl
          dsimp only [tNil]
          have h12 : fnnV (lstB "list") [V.int 1, V.int 2] = .non := by decide
          refine cnt_refused hfn (n := "list") (xs := [V.int 1, V.int 2]) ⟨.lst upd_same, fun _ => ⟨false, l12, rfl, SqL.of upd_same, fun y hy => by
            simp only [List.mem_cons, List.not_mem_nil, or_false] at hy
            rcases hy with rfl | rfl <;> exact ⟨_, .int _⟩⟩⟩ hPx12 (fun z => absurd h12 z) (fun _ _ H' d e hd => ?_) (fun _ z => by rw [M12.odd.num] at z; cases z)
          refine metE2 T2 hno (H1 := upd H11 l12 (.lst [V.int 1, V.int 2])) (fun H13 r3 e13 _ hr3 => ?_) e hd
          have M13 := M12.ex e13
          refine ⟨F, _, .ref r3, rfl, rfl, M13.f, by rw [sizeLine_eq, List.length_append, List.length_append, hflen, hwl]; show _ + 1 + 1 < _; omega, ?_⟩
          have M14 := M13.app hr3
          refine ⟨_, rfl, .inl ⟨rfl, _, SqL.of M14.d⟩, _, rfl, by show 2 ≤ sizeLine; decide, fun t21 ht21 => ⟨by show 2 ≤ sizeLine; decide, fun t22 ht22 => ⟨_, rfl, by show 2 ≤ sizeLine; decide, fun t23 ht23 => ⟨by show 3 ≤ sizeLine; decide, fun l24 hl24 => ?_⟩⟩⟩⟩
          have w1 := Evl.Ex.new (o := .tup [V.str "numbers", V.int (dn : Int)]) ht21
          have w2 := Evl.Ex.new (o := .tup [V.str "numbers", V.int 0]) ht22
          have w3 := Evl.Ex.new (o := .tup [V.str "number", x]) ht23
          have w4 := Evl.Ex.new (o := .lst [V.ref t21, V.ref t22, V.ref t23]) hl24
          have M15 := M14.ex (((w1.trans w2).trans w3).trans w4)
          refine ⟨D, l24, _, _, rfl, rfl, M15.d, upd_same, by rw [sizeLine_eq, hdlen, hwl]; show _ + 3 ≤ _; omega, ?_⟩
          have M16 := M15.ext (l := [V.ref t21, V.ref t22, V.ref t23]) (w3 := [("numbers", V.int (dn : Int)), ("numbers", V.int 0), ("number", x)]) (.cons ⟨t21, rfl, ((w2.trans w3).trans w4) _ _ upd_same⟩ (.cons ⟨t22, rfl, (w3.trans w4) _ _ upd_same⟩ (.cons ⟨t23, rfl, w4 _ _ upd_same⟩ .nil)))
          have ew : wf ++ [(("numbers" : Str), V.int (dn : Int))] ++ [(("numbers" : Str), V.int 0)] ++ [(("number" : Str), x)] = wf ++ [(("numbers" : Str), V.int (dn : Int)), (("numbers" : Str), V.int 0), (("number" : Str), x)] := by simp
          rw [ew] at M16
          refine ⟨_, _, _, _, _, rfl, M16, by omega, by rw [List.length_append, hwl]; show _ + 3 = _; omega, fun q hq => ?_⟩
          rcases List.mem_append.mp hq with hq | hq
          · exact hwf q hq
          · simp only [List.mem_cons, List.not_mem_nil, or_false] at hq
            rcases hq with rfl | rfl | rfl
            · exact .inr ⟨_, rfl⟩
            · exact .inr ⟨_, rfl⟩
            · exact .inl rfl
        · rintro σ H' ⟨v5', m, fs, ds, wf, rfl, M, hm, hwl, hwf⟩
          have hflen := M.fa.len
          refine ⟨_, rfl, _, rfl, _, _, rfl, .inr (.inl ⟨F, D, fs, ds, rfl, rfl, M.f, M.d, by rw [hflen, hwl]; show 6 ≤ 1000; decide, At.sm M.odd M.fa M.da hwf⟩), fun H3 e3 => ⟨_, rfl, iteF ?_⟩⟩
          have M3 := M.ex e3
          have hm : m ≤ n4 + 2 + 2 := hm
          refine ⟨trivial, M3.tab, fun H4 c2 P2 g4 hT4' hP2 hT2' hg2 hc2 => ?_⟩
          have M4 := M3.grow g4 hT4' (by
            obtain ⟨ps, h1, _⟩ := hT4'
            exact ⟨ps, h1⟩)
          refine fun th hth R hR => ?_
          have v1' := Evl.Ex.new (o := .lst [V.non]) hth
          refine ⟨⟨v1' _ _ hc2, hg2⟩, tabD_kl _ hT2' (Kl.ex v1'), fun H5 g5 hT5 => ?_⟩
          have hT2u := tabD_kl [ql2] hT2' (Kl.ex v1')
          obtain ⟨psP2, hP2t, _⟩ := id hT2u
          have thP2 : th ≠ P2 := by
            obtain ⟨ps, h1, _⟩ := id hT2'
            exact (ne_of_none h1 hth).symm
          have hth5 := g5 th _ thP2 upd_same
          obtain ⟨thp, thc⟩ := M4.str.ne hth
          have S5 : StrAt H5 p c m := by
            obtain ⟨L, cells, a1, kk, m1, s1, s2, r⟩ := M4.str.ex v1'
            have np : ∀ {b : Addr} {xs : List V}, upd H4 th (.lst [.non]) b = some (.lst xs) → b ≠ P2 := fun {b xs} h z => by
              rw [z, hP2t] at h
              cases h
            exact ⟨L, cells, a1, kk, m1, g5 _ _ (np s1) s1, g5 _ _ (np s2) s2, r⟩
          have T5 : Lm.TabD mg [ql1, ql2] H5 PL := Lm.tabD_two hP2t g5 hP2.symm hT5 (tabD_kl _ M4.tab (Kl.ex v1'))
          refine ⟨by show 1 ≤ sizeLine; decide, fun l6 hl6 => ⟨_, rfl, ?_⟩⟩
          dsimp only [tNil]
          have x6 := Evl.Ex.new (o := .lst [V.int 1]) hl6
          have h61 : fnnV (lstB "list") [V.int 1] = .non := by decide
          refine cnt_refused (fW := fW) (fF := fF) (fn := fW) (.inl ⟨rfl, rfl⟩) (n := "list") (xs := [V.int 1]) ⟨.lst upd_same, fun _ => ⟨false, l6, rfl, SqL.of upd_same, fun y hy => by
            simp only [List.mem_cons, List.not_mem_nil, or_false] at hy
            rw [hy]
            exact ⟨_, .int _⟩⟩⟩ (Pl.lst (x6 _ _ hth5)) (fun z => absurd h61 z) (fun _ _ H' d e hd => ?_) (fun _ z => by cases z)
          refine metE2 T2 hno (H1 := upd H5 l6 (.lst [V.int 1])) (fun H7 r e7 _ hr7 => ?_) e hd
          have x67 := x6.trans e7
          have hth7 := x67 _ _ hth5
          refine hR _ _ ⟨r, .str "number", [.ref th], [.non], rfl, fun z => ?_, hr7, hth7, by decide, fun q hq => ?_⟩
          · rw [z, hth7] at hr7
            cases hr7
          have T7 := tabD_kl _ (tabD_kl _ T5 (Kl.ex x67)) (Kl.upd (ys := [V.non] ++ [V.str "late"]) hth7)
          have S7 := (S5.ex x67).upd (o := .lst ([V.non] ++ [V.str "late"])) thp thc
          have xq := Evl.Ex.new (o := .tup [V.ref th]) hq
          refine ⟨by show 2 ≤ sizeLine; decide, fun l8 hl8 => ⟨by show 1 ≤ sizeLine; decide, fun t9 ht9 => ?_⟩⟩
          have xl := Evl.Ex.new (o := .lst [V.non, V.str "late"]) hl8
          have xt := Evl.Ex.new (o := .tup [V.ref l8]) ht9
          refine ⟨_, _, rfl, .inr (.inr (.inl ⟨q, t9, [.ref th], [.ref l8], rfl, rfl, (xl.trans xt) _ _ upd_same, upd_same, by show 1 ≤ 1000; decide, .cons (.inr (.inl ⟨th, l8, _, _, rfl, rfl, ((xq.trans xl).trans xt) _ _ upd_same, xt _ _ upd_same, by show 2 ≤ 1000; decide, .cons (.inl ⟨rfl, rfl⟩) (.cons (.inl ⟨rfl, rfl⟩) .nil)⟩)) .nil⟩)), fun H10 e10 => ⟨_, rfl, iteF ?_⟩⟩
          have xall := ((xq.trans xl).trans xt).trans e10
          exact ⟨_, _, _, _, _, _, _, rfl, (S7.ex xall).mono (by omega), tabD_kl _ T7 (Kl.ex xall)⟩
      · rintro σ H2 ⟨v1, v2, v3, v4, v5, v6, v7, rfl, hS2, hT2⟩
        refine ⟨Nat.zero_le _, fun q1 hq1 => ?_⟩
        dsimp only [tCons, tC, tNil]
        refine cnt_ok (K := K) (C1 := C1) (C2 := C2) (t := false) (a := q1) (ns := []) (free := 0) (m := ctM false) upd_same (by decide) (by decide) fun H3 e3 => ⟨Nat.zero_le _, fun q2 hq2 => ?_⟩
        dsimp only [tCons, tC, tNil]
        refine cnt_ok (K := K) (C1 := C1) (C2 := C2) (t := false) (a := q2) (ns := []) (free := 3) (m := cfM) upd_same (by decide) (by decide) fun H4 e4 => ⟨by show 2 ≤ sizeLine; decide, fun q3 hq3 => ?_⟩
        dsimp only [tCons, tC, tNil]
        refine cnt_ok (K := K) (C1 := C1) (C2 := C2) (t := false) (a := q3) (ns := [0, 2]) (free := 1) (m := cfM) upd_same (by decide) (by decide) fun H5 e5 => ⟨by show 1 ≤ sizeLine; decide, fun q4 hq4 => ?_⟩
        dsimp only [tCons, tC, tNil]
        refine cnt_ok (K := K) (C1 := C1) (C2 := C2) (t := false) (a := q4) (ns := [1]) (free := 0) (m := cfM) upd_same (by decide) (by decide) fun H6 e6 => ⟨by show 4 ≤ sizeLine; decide, fun q5 hq5 => ?_⟩
        refine ⟨_, rfl, by show 4 ≤ sizeLine; decide, fun q6 hq6 => ?_⟩
        have c1 : ctM false [] 0 = 1 := by decide +kernel
        have c2 : cfM [] 3 = 0 := by decide +kernel
        have c3 : cfM [0, 2] 1 = 0 := by decide +kernel
        have c4 : cfM [1] 0 = 0 := by decide +kernel
        have xt := Evl.Ex.new (o := .lst [V.int 1, V.int 0, V.int 0, V.int 0]) hq6
        refine ⟨_, _, rfl, .inr (.inl ⟨q5, q6, _, _, rfl, rfl, xt _ _ upd_same, upd_same, by show 4 ≤ 1000; decide, .cons (.inl ⟨rfl, by rw [c1]⟩) (.cons (.inl ⟨rfl, by rw [c2]⟩) (.cons (.inl ⟨rfl, by rw [c3]⟩) (.cons (.inl ⟨rfl, by rw [c4]⟩) .nil)))⟩), fun H7 e7 => k _⟩
end
end K14
namespace K14
open PySem PySem.Spec PyProof.Rows L2 Sq Exs Nk
/-! ### the head -/
def iniS (i : Nat) : Stmt := (C8.clsBody (top i)).getD 0 (.Pass ⟨0, 0, 0, 0⟩)
def dd (x : Str) (i : Nat) : He.DefD := ⟨(x, none), x, x, defArgs (top i), defBody (top i), defScope (top i), [], []⟩
def di (C q : Str) (i : Nat) : He.DefD := ⟨(C, some "__init__"), "__init__", q, defArgs (iniS i), defBody (iniS i), defScope (iniS i), [], []⟩
def fn : List He.DefD := [dd "is_integer" 6, dd "is_number" 7, dd "is_listed" 8, dd "first_no_number" 9, dd "ask_words" 11, dd "count_words" 12, dd "count_framed" 13, dd "count_tied" 14, dd "with_blocks" 15, dd "_law_m_held" 17, dd "_law_m_choose" 18, dd "_law_start" 19, dd "_law_draw" 20, dd "_law_pick" 21, dd "_law_mixed" 22, dd "_law_same" 23, dd "_law_met" 24, dd "_law_rows" 25, dd "_law_on" 26, dd "_law_small_right" 27, dd "_law_great_right" 28, dd "law" 29, di "BadNumber" "BadNumber.__init__" 3, di "BadNumbers" "BadNumbers.__init__" 4]
def fa : List He.Fa := [.glo "is_integer", .glo "is_number", .glo "is_listed", .glo "first_no_number", .glo "ask_words", .glo "count_words", .glo "count_framed", .glo "count_tied", .glo "with_blocks", .glo "_law_m_held", .glo "_law_m_choose", .glo "_law_start", .glo "_law_draw", .glo "_law_pick", .glo "_law_mixed", .glo "_law_same", .glo "_law_met", .glo "_law_rows", .glo "_law_on", .glo "_law_small_right", .glo "_law_great_right", .glo "law", .glo "BadNumber", .glo "BadNumbers", .free "int", .free "bool", .free "isinstance", .free "list", .free "tuple", .free "dict", .free "len", .free "all", .free "zip", .free "enumerate", .free "range", .free "sum", .free "max"]
def tf : List He.Defn := [("law", none)]
def ex (K : PySem.W.Frag) : Bool := errB K (He.ga K "BadNumbers") (He.fAd K ("BadNumbers", some "__init__")) "index" && (errB K (He.ga K "BadNumber") (He.fAd K ("BadNumber", some "__init__")) "thing" && (decide (PySem.W.exmOne K (.ref (He.ga K "BadNumber")) (.ref (He.ga K "BadNumbers")) = some false) && He.eqO (PySem.W.nsIn K mainGlobals "comb") (some (some (.builtin "math.comb")))))
abbrev R : PySem.W.OpenRow := PySem.W.OpenLaw.row PySem.Challenge.rw_letterround_k14_whole_words
abbrev hk : PySem.W.Hook := He.hookX 5 fa fn [] tf ex
def ob (s : PySem.W.SharedT) : He.AlX := He.obsX 5 fa fn [] tf ex (HandSHeadRun.getT s)
theorem ob_eq (s : PySem.W.SharedT) : ob s = hk.obs s.abs := He.obsX_eq (HandSHeadRun.getT_eq s)
def loose : List Str := ["PostError", "BadNumber", "BadNumbers", "is_integer", "is_number", "is_listed", "first_no_number", "ask_words", "count_words", "count_framed", "count_tied", "with_blocks", "_law_m_held", "_law_m_choose", "_law_start", "_law_draw", "_law_pick", "_law_mixed", "_law_same", "_law_met", "_law_rows", "_law_on", "_law_small_right", "_law_great_right"]
theorem run (w : World) : HandSHeadRun.RunEqI R (PySem.W.view R.prog [0, 29]) hk ob 4000 loose w := by
  unfold HandSHeadRun.RunEqI
  kernel_rfl
theorem code_of {K : PySem.W.Frag} {p : Str × Option Str} {x qual : Str} {pa : Arguments} {bd : List Stmt} {sc : Scope} {fd : FuncData} (F : FunD K x qual pa bd sc [] [] (He.fAd K p) fd) : fd.code = .ref (He.cT K p).1 := by
  obtain ⟨oc, od, dV, kV, doc, pm, an, cdv, ct, osl, rfl, lk, hcd, _, _⟩ := F.ex
  obtain ⟨c, rfl⟩ := He.codeIn_ref hcd
  exact congrArg Value.ref (He.codeOf_eq lk rfl).symm
theorem facts {P : Program} {w : World} {K : PySem.W.Frag} {h : Heap} {mg : Str → Option Value} (X : K.In h) (G : h.Ns mainGlobals mg) (c : He.SaysX fa fn [] tf ex w h K) :
    ∃ fd : FuncData, (∀ (s : Shared) (v : Value), BindsTo s fd ⟨[v], []⟩ [("script", v)]) ∧ mg ("law" : Str) = some (.ref (He.fAd K ("law", none))) ∧ ∀ base : Heap, LamX.TabB base mg (He.cT K ("law", none)).1 (He.cT K ("law", none)).2 → FnOk P w K mg base CX0 26 (He.fAd K ("law", none)) fd ["script"] (spLaw K (He.cT K ("law", none)).2) := by
  have d := c.t.d
  obtain ⟨x1, x2⟩ := He.ba c.more
  obtain ⟨x2, x3⟩ := He.ba x2
  obtain ⟨x3, x4⟩ := He.ba x3
  have e1 := errB_ok x1
  have e2 := errB_ok x2
  have hno : PySem.W.exmOne K (.ref (He.ga K "BadNumber")) (.ref (He.ga K "BadNumbers")) = some false := of_decide_eq_true x3
  have gC : mg "comb" = some (.builtin "math.comb") := PySem.W.mg_of X G (He.eqO_ok x4)
  have g_is_integer : mg "is_integer" = some (.ref (He.ga K "is_integer")) := He.glo_ok X G (d.fact 0 (f := .glo "is_integer") rfl)
  have g_is_number : mg "is_number" = some (.ref (He.ga K "is_number")) := He.glo_ok X G (d.fact 1 (f := .glo "is_number") rfl)
  have g_is_listed : mg "is_listed" = some (.ref (He.ga K "is_listed")) := He.glo_ok X G (d.fact 2 (f := .glo "is_listed") rfl)
  have g_first_no_number : mg "first_no_number" = some (.ref (He.ga K "first_no_number")) := He.glo_ok X G (d.fact 3 (f := .glo "first_no_number") rfl)
  have g_ask_words : mg "ask_words" = some (.ref (He.ga K "ask_words")) := He.glo_ok X G (d.fact 4 (f := .glo "ask_words") rfl)
  have g_count_words : mg "count_words" = some (.ref (He.ga K "count_words")) := He.glo_ok X G (d.fact 5 (f := .glo "count_words") rfl)
  have g_count_framed : mg "count_framed" = some (.ref (He.ga K "count_framed")) := He.glo_ok X G (d.fact 6 (f := .glo "count_framed") rfl)
  have g_count_tied : mg "count_tied" = some (.ref (He.ga K "count_tied")) := He.glo_ok X G (d.fact 7 (f := .glo "count_tied") rfl)
  have g_with_blocks : mg "with_blocks" = some (.ref (He.ga K "with_blocks")) := He.glo_ok X G (d.fact 8 (f := .glo "with_blocks") rfl)
  have g__law_m_held : mg "_law_m_held" = some (.ref (He.ga K "_law_m_held")) := He.glo_ok X G (d.fact 9 (f := .glo "_law_m_held") rfl)
  have g__law_m_choose : mg "_law_m_choose" = some (.ref (He.ga K "_law_m_choose")) := He.glo_ok X G (d.fact 10 (f := .glo "_law_m_choose") rfl)
  have g__law_start : mg "_law_start" = some (.ref (He.ga K "_law_start")) := He.glo_ok X G (d.fact 11 (f := .glo "_law_start") rfl)
  have g__law_draw : mg "_law_draw" = some (.ref (He.ga K "_law_draw")) := He.glo_ok X G (d.fact 12 (f := .glo "_law_draw") rfl)
  have g__law_pick : mg "_law_pick" = some (.ref (He.ga K "_law_pick")) := He.glo_ok X G (d.fact 13 (f := .glo "_law_pick") rfl)
  have g__law_mixed : mg "_law_mixed" = some (.ref (He.ga K "_law_mixed")) := He.glo_ok X G (d.fact 14 (f := .glo "_law_mixed") rfl)
  have g__law_same : mg "_law_same" = some (.ref (He.ga K "_law_same")) := He.glo_ok X G (d.fact 15 (f := .glo "_law_same") rfl)
  have g__law_met : mg "_law_met" = some (.ref (He.ga K "_law_met")) := He.glo_ok X G (d.fact 16 (f := .glo "_law_met") rfl)
  have g__law_rows : mg "_law_rows" = some (.ref (He.ga K "_law_rows")) := He.glo_ok X G (d.fact 17 (f := .glo "_law_rows") rfl)
  have g__law_on : mg "_law_on" = some (.ref (He.ga K "_law_on")) := He.glo_ok X G (d.fact 18 (f := .glo "_law_on") rfl)
  have g__law_small_right : mg "_law_small_right" = some (.ref (He.ga K "_law_small_right")) := He.glo_ok X G (d.fact 19 (f := .glo "_law_small_right") rfl)
  have g__law_great_right : mg "_law_great_right" = some (.ref (He.ga K "_law_great_right")) := He.glo_ok X G (d.fact 20 (f := .glo "_law_great_right") rfl)
  have g_law : mg "law" = some (.ref (He.ga K "law")) := He.glo_ok X G (d.fact 21 (f := .glo "law") rfl)
  have g_BadNumber : mg "BadNumber" = some (.ref (He.ga K "BadNumber")) := He.glo_ok X G (d.fact 22 (f := .glo "BadNumber") rfl)
  have g_BadNumbers : mg "BadNumbers" = some (.ref (He.ga K "BadNumbers")) := He.glo_ok X G (d.fact 23 (f := .glo "BadNumbers") rfl)
  have n_int : mg "int" = none := He.free_ok X G (d.fact 24 (f := .free "int") rfl)
  have n_bool : mg "bool" = none := He.free_ok X G (d.fact 25 (f := .free "bool") rfl)
  have n_isinstance : mg "isinstance" = none := He.free_ok X G (d.fact 26 (f := .free "isinstance") rfl)
  have n_list : mg "list" = none := He.free_ok X G (d.fact 27 (f := .free "list") rfl)
  have n_tuple : mg "tuple" = none := He.free_ok X G (d.fact 28 (f := .free "tuple") rfl)
  have n_dict : mg "dict" = none := He.free_ok X G (d.fact 29 (f := .free "dict") rfl)
  have n_len : mg "len" = none := He.free_ok X G (d.fact 30 (f := .free "len") rfl)
  have n_all : mg "all" = none := He.free_ok X G (d.fact 31 (f := .free "all") rfl)
  have n_zip : mg "zip" = none := He.free_ok X G (d.fact 32 (f := .free "zip") rfl)
  have n_enumerate : mg "enumerate" = none := He.free_ok X G (d.fact 33 (f := .free "enumerate") rfl)
  have n_range : mg "range" = none := He.free_ok X G (d.fact 34 (f := .free "range") rfl)
  have n_sum : mg "sum" = none := He.free_ok X G (d.fact 35 (f := .free "sum") rfl)
  have n_max : mg "max" = none := He.free_ok X G (d.fact 36 (f := .free "max") rfl)
  obtain ⟨d_is_integer, F_is_integer⟩ := d.def_ 0 (d := dd "is_integer" 6) rfl
  obtain ⟨d_is_number, F_is_number⟩ := d.def_ 1 (d := dd "is_number" 7) rfl
  obtain ⟨d_is_listed, F_is_listed⟩ := d.def_ 2 (d := dd "is_listed" 8) rfl
  obtain ⟨d_first_no_number, F_first_no_number⟩ := d.def_ 3 (d := dd "first_no_number" 9) rfl
  obtain ⟨d_ask_words, F_ask_words⟩ := d.def_ 4 (d := dd "ask_words" 11) rfl
  obtain ⟨d_count_words, F_count_words⟩ := d.def_ 5 (d := dd "count_words" 12) rfl
  obtain ⟨d_count_framed, F_count_framed⟩ := d.def_ 6 (d := dd "count_framed" 13) rfl
  obtain ⟨d_count_tied, F_count_tied⟩ := d.def_ 7 (d := dd "count_tied" 14) rfl
  obtain ⟨d_with_blocks, F_with_blocks⟩ := d.def_ 8 (d := dd "with_blocks" 15) rfl
  obtain ⟨d__law_m_held, F__law_m_held⟩ := d.def_ 9 (d := dd "_law_m_held" 17) rfl
  obtain ⟨d__law_m_choose, F__law_m_choose⟩ := d.def_ 10 (d := dd "_law_m_choose" 18) rfl
  obtain ⟨d__law_start, F__law_start⟩ := d.def_ 11 (d := dd "_law_start" 19) rfl
  obtain ⟨d__law_draw, F__law_draw⟩ := d.def_ 12 (d := dd "_law_draw" 20) rfl
  obtain ⟨d__law_pick, F__law_pick⟩ := d.def_ 13 (d := dd "_law_pick" 21) rfl
  obtain ⟨d__law_mixed, F__law_mixed⟩ := d.def_ 14 (d := dd "_law_mixed" 22) rfl
  obtain ⟨d__law_same, F__law_same⟩ := d.def_ 15 (d := dd "_law_same" 23) rfl
  obtain ⟨d__law_met, F__law_met⟩ := d.def_ 16 (d := dd "_law_met" 24) rfl
  obtain ⟨d__law_rows, F__law_rows⟩ := d.def_ 17 (d := dd "_law_rows" 25) rfl
  obtain ⟨d__law_on, F__law_on⟩ := d.def_ 18 (d := dd "_law_on" 26) rfl
  obtain ⟨d__law_small_right, F__law_small_right⟩ := d.def_ 19 (d := dd "_law_small_right" 27) rfl
  obtain ⟨d__law_great_right, F__law_great_right⟩ := d.def_ 20 (d := dd "_law_great_right" 28) rfl
  obtain ⟨d_law, F_law⟩ := d.def_ 21 (d := dd "law" 29) rfl
  obtain ⟨d_i1, F_i1⟩ := d.def_ 23 (d := di "BadNumbers" "BadNumbers.__init__" 4) rfl
  obtain ⟨d_i2, F_i2⟩ := d.def_ 22 (d := di "BadNumber" "BadNumber.__init__" 3) rfl
  have b_is_integer : L2.Binds K d_is_integer ["thing"] [] := F_is_integer.bindsN fun _ _ _ _ _ _ us hl => match us, hl with | [_], _ => rfl
  have b_is_number : L2.Binds K d_is_number ["thing"] [] := F_is_number.bindsN fun _ _ _ _ _ _ us hl => match us, hl with | [_], _ => rfl
  have b_is_listed : L2.Binds K d_is_listed ["thing"] [] := F_is_listed.bindsN fun _ _ _ _ _ _ us hl => match us, hl with | [_], _ => rfl
  have b_first_no_number : L2.Binds K d_first_no_number ["thing"] [] := F_first_no_number.bindsN fun _ _ _ _ _ _ us hl => match us, hl with | [_], _ => rfl
  have b_ask_words : L2.Binds K d_ask_words ["signs", "free"] [] := F_ask_words.bindsN fun _ _ _ _ _ _ us hl => match us, hl with | [_, _], _ => rfl
  have b_count_words : L2.Binds K d_count_words ["signs", "free"] [] := F_count_words.bindsN fun _ _ _ _ _ _ us hl => match us, hl with | [_, _], _ => rfl
  have b_count_framed : L2.Binds K d_count_framed ["signs", "free"] [] := F_count_framed.bindsN fun _ _ _ _ _ _ us hl => match us, hl with | [_, _], _ => rfl
  have b_count_tied : L2.Binds K d_count_tied ["signs", "tied", "free"] [] := F_count_tied.bindsN fun _ _ _ _ _ _ us hl => match us, hl with | [_, _, _], _ => rfl
  have b_with_blocks : L2.Binds K d_with_blocks ["ways", "many", "ends"] [] := F_with_blocks.bindsN fun _ _ _ _ _ _ us hl => match us, hl with | [_, _, _], _ => rfl
  have b__law_m_choose : L2.Binds K d__law_m_choose ["many", "some"] [] := F__law_m_choose.bindsN fun _ _ _ _ _ _ us hl => match us, hl with | [_, _], _ => rfl
  have b__law_start : L2.Binds K d__law_start ["script"] [] := F__law_start.bindsN fun _ _ _ _ _ _ us hl => match us, hl with | [_], _ => rfl
  have b__law_draw : L2.Binds K d__law_draw ["stream", "many"] [] := F__law_draw.bindsN fun _ _ _ _ _ _ us hl => match us, hl with | [_, _], _ => rfl
  have b__law_pick : L2.Binds K d__law_pick ["stream", "some"] [] := F__law_pick.bindsN fun _ _ _ _ _ _ us hl => match us, hl with | [_, _], _ => rfl
  have b__law_mixed : L2.Binds K d__law_mixed ["stream", "some"] [] := F__law_mixed.bindsN fun _ _ _ _ _ _ us hl => match us, hl with | [_, _], _ => rfl
  have b__law_same : L2.Binds K d__law_same ["found", "due"] [] := F__law_same.bindsN fun _ _ _ _ _ _ us hl => match us, hl with | [_, _], _ => rfl
  have b__law_rows : L2.Binds K d__law_rows ["signs", "free"] [] := F__law_rows.bindsN fun _ _ _ _ _ _ us hl => match us, hl with | [_, _], _ => rfl
  have b__law_on : L2.Binds K d__law_on ["signs", "free", "last", "end", "known"] [] := F__law_on.bindsN fun _ _ _ _ _ _ us hl => match us, hl with | [_, _, _, _, _], _ => rfl
  have b__law_small_right : L2.Binds K d__law_small_right ["stream"] [] := F__law_small_right.bindsN fun _ _ _ _ _ _ us hl => match us, hl with | [_], _ => rfl
  have b__law_great_right : L2.Binds K d__law_great_right ["stream"] [] := F__law_great_right.bindsN fun _ _ _ _ _ _ us hl => match us, hl with | [_], _ => rfl
  have bL := FunD.bindsA (ps := ["script"]) F_law fun _ _ _ _ _ _ us hl => match us, hl with | [_], _ => rfl
  refine ⟨d_law, fun s v => bL s [v] rfl, g_law, fun base TB => ?_⟩
  have bi1 : L2.Binds K d_i1 ["self", "index"] [] := F_i1.bindsN fun _ _ _ _ _ _ us hl => match us, hl with | [_, _], _ => rfl
  have bi2 : L2.Binds K d_i2 ["self", "thing"] [] := F_i2.bindsN fun _ _ _ _ _ _ us hl => match us, hl with | [_, _], _ => rfl
  have T1 : Err P w K mg base "BadNumbers" "index" (He.ga K "BadNumbers") (He.fAd K ("BadNumbers", some "__init__")) := ⟨e1, g_BadNumbers, d_i1, ok_init e1 F_i1 rfl ⟨rfl, rfl, rfl, by decide +kernel, rfl, by decide +kernel, by decide +kernel⟩ rfl rfl (by decide) (by decide), bi1⟩
  have T2 : Err P w K mg base "BadNumber" "thing" (He.ga K "BadNumber") (He.fAd K ("BadNumber", some "__init__")) := ⟨e2, g_BadNumber, d_i2, ok_init e2 F_i2 rfl ⟨rfl, rfl, rfl, by decide +kernel, rfl, by decide +kernel, by decide +kernel⟩ rfl rfl (by decide) (by decide), bi2⟩
  have o_num := ok_isNum (P := P) (w := w) (base := base) F_is_number F_is_integer n_int n_bool n_isinstance g_is_integer
  have o_fnn := ok_fnn (P := P) (w := w) (base := base) F_first_no_number F_is_number F_is_integer F_is_listed n_int n_bool n_isinstance g_is_integer g_is_number g_is_listed n_list n_tuple n_enumerate
  have o_ask := ok_ask F_ask_words T1 T2 o_fnn b_first_no_number F_first_no_number.kp g_first_no_number o_num b_is_number F_is_number.kp g_is_number
  have o_ct := ok_ct (P := P) (w := w) (base := base) F_count_tied F_with_blocks n_len n_max n_range n_enumerate n_zip n_sum gC g_with_blocks
  have o_cw := ok_cw F_count_words o_ask b_ask_words F_ask_words.kp g_ask_words o_ct b_count_tied F_count_tied.kp g_count_tied n_len
  have o_cf := ok_cf F_count_framed o_ask b_ask_words F_ask_words.kp g_ask_words o_ct b_count_tied F_count_tied.kp g_count_tied n_len
  have T : Env14 P w K mg base (He.ga K "BadNumbers") (He.ga K "BadNumber") := {
    draw := ⟨_, _, g__law_draw, ok_draw F__law_draw n_int, F__law_draw.kp, b__law_draw⟩
    pick := ⟨_, _, g__law_pick, ok_pick F__law_pick F__law_draw n_int g__law_draw n_len, F__law_pick.kp, b__law_pick⟩
    mixed := ⟨_, _, g__law_mixed, ok_mixed F__law_mixed F__law_draw n_int g__law_draw n_len n_list n_range, F__law_mixed.kp, b__law_mixed⟩
    same := ⟨_, _, g__law_same, ok_same F__law_same g__law_same n_int n_bool n_list n_tuple n_dict n_isinstance n_len n_all n_zip, F__law_same.kp, b__law_same⟩
    rows := ⟨_, _, g__law_rows, ok_rows F__law_rows n_range n_sum n_len n_int, F__law_rows.kp, b__law_rows⟩
    on_ := ⟨_, _, g__law_on, onA_of fun L fin n hL => ok_on F__law_on g__law_on n_tuple n_sum n_int n_enumerate hL fin n, F__law_on.kp, b__law_on⟩
    choose := ⟨_, _, g__law_m_choose, ok_ch F__law_m_choose n_range, F__law_m_choose.kp, b__law_m_choose⟩
    words := ⟨_, _, g_count_words, o_cw, F_count_words.kp, b_count_words⟩
    framed := ⟨_, _, g_count_framed, o_cf, F_count_framed.kp, b_count_framed⟩
    range := n_range, len := n_len, list := n_list, tuple := n_tuple, sum := n_sum, int := n_int }
  exact ok_law F_law (code_of F_law) T T1 T2 hno g__law_start (ok_start F__law_start n_list) F__law_start.kp b__law_start g__law_small_right (ok_sr F__law_small_right T) F__law_small_right.kp b__law_small_right
    g__law_great_right (ok_gr F__law_great_right T) F__law_great_right.kp b__law_great_right g__law_met F__law_met g__law_m_held F__law_m_held TB
end K14
open PySem PySem.W PySem.Calls PyProof.Rows
theorem PySem.Challenge.cw_letterround_k14_whole_words_holds : PySem.Challenge.rw_letterround_k14_whole_words.Holds := by
  w_on; o_law
  refine HandSHeadRun.head_imp (r := OpenLaw.row PySem.Challenge.rw_letterround_k14_whole_words) (q := view (OpenLaw.row PySem.Challenge.rw_letterround_k14_whole_words).prog [0, 29]) (H := K14.hk) (ob := K14.ob) (M := 4000) (loose := K14.loose) (d := HandSHeadRun.topDef (OpenLaw.row PySem.Challenge.rw_letterround_k14_whole_words).prog 29) (kwd := []) K14.ob_eq
    K14.run (by kernel_rfl) (by kernel_rfl) (by kernel_rfl) (by rfl) (by first | assumption | decide +kernel) (by decide +kernel) ⟨rfl, rfl, rfl, rfl, rfl, by decide +kernel⟩ ?hw ?hc
  case hw => w_witness2
  case hc =>
    refine LamX.walk_ofTsE (l := PySem.Challenge.rw_letterround_k14_whole_words) (n := 63) (k := 26) (x := "script") (CX := fun _ => L2.CX0) rfl (by decide) (by kernel_rfl) ⟨rfl, by decide, by decide⟩ ?F (fun _ _ _ _ _ z => z)
    intro w mg fa h Y G hmg0
    obtain ⟨K, KX, c⟩ := Y
    have hmg : mg ("law" : PySem.Str) = some (.ref fa) := by
      have e : (HandSHeadRun.topDef (OpenLaw.row PySem.Challenge.rw_letterround_k14_whole_words).prog 29).name = ("law" : PySem.Str) := by kernel_rfl
      rw [← e]
      exact hmg0
    obtain ⟨fd, hb, hl, hF⟩ := K14.facts (P := (PySem.Challenge.rw_letterround_k14_whole_words).prog) (w := w) KX G c
    have e := hmg.symm.trans hl
    cases e
    have one : ∀ {p : Addr × Addr}, p ∈ [He.cT K (("law" : PySem.Str), none)] → p = He.cT K ("law", none) := fun hp => List.mem_singleton.mp hp
    have mem : ((("law" : PySem.Str), none) : He.Defn) ∈ K14.tf := List.mem_singleton.mpr rfl
    refine ⟨K, KX, fd, [He.cT K ("law", none)], K14.spLaw K (He.cT K ("law", none)).2, fun p hp => ?_, fun p hp => ?_, fun p hp => ?_, hb, fun H a ns hl _ hH hS => ⟨a, ns, rfl, hS, hl, hH _ (List.mem_singleton.mpr rfl), fun _ => rfl⟩, fun base _ _ hT => hF base (hT _ (List.mem_singleton.mpr rfl))⟩
    · rw [one hp]
      exact c.empty _ mem
    · rw [one hp]
      exact c.out _ mem
    · rw [one hp]
      exact codeHd_of_K KX (c.hd _ mem)
