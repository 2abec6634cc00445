import PyProof.Rows.All
import Wide.All
import OpenK.AllK
import Wide.FinOn
import HandS.ForMost
import HandS.AnyAll
import PyProof.TupleOfGen
import PyProof.WalksMore
import HandS.Zip
import KE.GoesEnum
import HandS.Deep
import PyProof.Rows.RegFStrParts
import HandS.SortInts
import HandS.TupSets
import HandS.EndBits
import KE.KNest
import KE.DatumIndex
import HandS.GenList
import HandS.Wide
import HandS.Codes
import HandS.Conv
import HandS.TupAny
import HandS.IsInst
import HandS.Style
import HandS.Exc
import HandS.ExcIs
import HandS.ExcValue
import HandS.WordsExc
import HandS.ExcOwn
import HandS.Spec
import PyProof.ReprRoads
import PyProof.ReprBulk
import HandS.TupMul
import PyProof.EqKinds
import PyProof.Rows.IntBool
import PyProof.Rows.RuleB_bool
import PySem.Challenge.RW_redraw_k01_what_is_a_riddle
set_option Elab.async false
set_option linter.all false
set_option maxRecDepth 100000
set_option maxHeartbeats 4000000
/-! generator expressions over a list or a tuple whose element keeps the heap: tuple(..), all(..), any(..) -/
namespace Gv
open PySem PySem.Spec PyProof.Rows L2
/-- a list or a tuple of these -/
def Sq (K : PySem.W.Frag) (H : Hp) (a : Addr) (xs : List V) : Prop := SqL K H a xs ∨ SqT K H a xs
section
variable {X : Cx} {pins : List (Addr × Obj)} {σ : L2.St} {H : Hp} {s : Shared}
/-- iter(a): its items, and a walk over them that writes its own new cell alone -/
theorem iter_sq {a : Addr} {xs : List V} (I : Inv X pins σ H s) (h : Sq X.K H a xs) :
    ∃ its : List Value, Vals xs its ∧ xs.length ≤ sizeLine ∧ a < s.heap.objs.size ∧ ∀ (Q : Value → Shared → Prop) (E : Value → Shared → Prop),
      (∀ (o : Obj) (St : Nat → Heap → Prop), (∀ A' : Around, A'.handled = none → Walks X.prog X.w A' s.heap.objs.size [s.heap.objs.size, a] [s.heap.objs.size] its.length (fun i v => its[i]? = some v) St) → St 0 (s.heap.push o) →
        Q (.ref s.heap.objs.size) { s with heap := s.heap.push o }) → wpAny (model X.prog X.w) X.A (pyIter (.ref a)) Q E s := by
  rcases h with h | h
  · obtain ⟨its, rv, pl, hz⟩ := I.list h
    have hL := pl.isList
    have hlt : a < s.heap.objs.size := let ⟨_, e, _⟩ := hL; Heap.lt_size e
    refine ⟨its, rv, hz, hlt, fun Q E k => wpAny_pyIter_list hL (k _ (fun i h => h.IsListIter s.heap.objs.size a i ∧ h.IsList a its.toArray) (fun A' hA => ?_) ⟨⟨_, Heap.get?_push_size _ rfl, rfl, rfl⟩, ?_⟩)⟩
    · have W := Walks.list (prog := X.prog) (w := X.w) hA s.heap.objs.size a (Nat.ne_of_lt hlt) its.toArray
      simpa using W
    · obtain ⟨o, e, r⟩ := hL
      exact ⟨o, Heap.get?_push_of_some _ e, r⟩
  · obtain ⟨its, rv, pl, hz⟩ := I.tuple h
    have hlt : a < s.heap.objs.size := pl.lt
    refine ⟨its, rv, hz, hlt, fun Q E k => wpAny_pyIter_tuple (show s.heap.IsTuple a its.toArray from pl) (k _ (fun i h => h.IsTupleIter s.heap.objs.size a i ∧ h.IsTuple a its.toArray) (fun A' hA => ?_) ⟨⟨_, Heap.get?_push_size _ rfl, rfl, rfl⟩, ?_⟩)⟩
    · have W := Walks.tuple (prog := X.prog) (w := X.w) hA s.heap.objs.size a (Nat.ne_of_lt hlt) its.toArray
      simpa using W
    · exact pl.push _
/-- the element, of the item x0 the value y0, with all that stood kept -/
def EltV (X : Cx) (pins : List (Addr × Obj)) (σ : L2.St) (scope : Scope) (x : Str) (elt : Expr) (P : Addr) (H1 : Hp) (xs ys : List V) : Prop :=
  ∀ (s1 t : Shared) (C : Addr) (code : Value) (bi : Addr) (A' : Around) (E' : Value → Shared → Prop) (i : Nat) (x0 : V) (u : Value) (m : Str → Option Value),
    Inv X pins σ H1 s1 → A'.handled = none → A'.units ≤ X.A.units + 8 → xs[i]? = some x0 → RelV x0 u → t.heap.Ns C m → m x = some u → (∀ b o, b ≠ P → s1.heap.get? b = some o → t.heap.get? b = some o) →
    wpAny (model X.prog X.w) A' (eval elt (genEnv scope (cloFrom X.env.cells scope.names []) C code bi X.env)) (fun y t' => (∃ y0, ys[i]? = some y0 ∧ RelV y0 y) ∧ Keeps t t') E' t
/-- the generator at g, about to give out the values ys -/
def Ready (X : Cx) (pins : List (Addr × Obj)) (σ : L2.St) (H1 : Hp) (P : Addr) (ys : List V) (g : Addr) (s5 : Shared) : Prop :=
  ∃ (fp wr : List Addr) (G : Array GenState → Array GenState → Prop) (F : Nat → Value → Prop) (St : Nat → Shared → Prop),
    WalksS X.prog X.w X.A.in4 g fp wr G ys.length F St ∧ St 0 s5 ∧ (∀ b ∈ fp, b < s5.heap.objs.size) ∧ g ∈ fp ∧ (∀ i s9, St i s9 → s9.TypeIs (.ref g) "generator") ∧
    (∀ j v, F j v → ∃ y, ys[j]? = some y ∧ RelV y v) ∧ ∀ s', Moved wr G s5 s' → ∃ H2, GxR.Tabbed P H1 H2 ∧ Inv X pins σ H2 s'
theorem gen_sq {c P : Addr} {elt iter : Expr} {x : Str} {px gpos : Pos} {scope : Scope} {te : TE} {k : Nat} {Q' : Value → Shared → Prop} {R : List V → Hp → Prop}
    (hr : Room k X.A) (TB : GxR.TabB X.base X.mg c P) (hcode : X.env.code = .ref c) (S : GxR.GenS X.env scope x) (hi : PE X iter te) (hs : ∀ v, genFold iter X.env v = pure v) (I : Inv X pins σ H s)
    (h : te σ H fun v H1 => ∃ (a : Addr) (xs ys : List V), v = .ref a ∧ Sq X.K H1 a xs ∧ ys.length = xs.length ∧ (∀ pins, EltV X pins σ scope x elt P H1 xs ys) ∧ GxR.TabG H1 P ∧ R ys H1)
    (hQ : ∀ ys H1 g s5, ys.length ≤ sizeLine → R ys H1 → Ready X pins σ H1 P ys g s5 → Q' (.ref g) s5) :
    wpAny (model X.prog X.w) X.A (eval (.GeneratorExp elt [⟨.Name x px, iter, [], 0⟩] scope gpos) X.env) Q' X.xe s := by
  refine wpAny_GeneratorExp_walksQD hr.hd S.co (closure_ok S.free) S.cell S.dot S.loc S.kind (by have := hr.dp; omega) (thn (hi.run pins s σ H _ I h) fun xv s1 ⟨v, H1, I1, r1, q1⟩ => ?_) hs
  obtain ⟨a, xs, ys, rfl, hsq, hyl, hel, ⟨ps, hP, ht⟩, q1⟩ := q1
  cases (show xv = Value.ref a from r1)
  obtain ⟨its, rv, hz, hlt, go⟩ := iter_sq I1 hsq
  refine go _ _ fun o St W st0 => ⟨I1.nolimit.push o, ?_⟩
  have tabS : s1.heap.get? P = some { cls := .none, data := .fields ps } := I1.hok P _ hP
  have ltP : P < s1.heap.objs.size := Heap.lt_size tabS
  have tab2 : (s1.heap.push o).get? P = some { cls := .none, data := .fields ps } := Heap.get?_push_of_some _ tabS
  have hd : PySem.W.CodeHd (s1.heap.push o) c P := TB.code.keeps fun b u e => Heap.get?_push_of_some _ (I1.bk b u e)
  have neI : s1.heap.objs.size ≠ P := fun z => Nat.lt_irrefl _ (z ▸ ltP)
  -- the code object of the expression, its table perhaps longer behind it
  have key : ∀ (REST : Value → Shared → Prop), (∀ (cv : Value) (h3 : Heap) (tk : Nat) (more : Array Value), Heap.ExtBut P (s1.heap.push o) h3 → (s1.heap.push o).objs.size ≤ h3.objs.size → h3.get? P = some { cls := .none, data := .fields (ps ++ more) } → TriplesOk (ps ++ more).toList → REST cv { s1 with heap := h3, toks := tk }) →
      wpAny (model X.prog X.w) X.A (genexprCode X.env gpos (X.env.qual ++ "<genexpr>") scope) REST X.xe { s1 with heap := s1.heap.push o } := fun REST fin => by
    cases hf : codeAmong gpos ps.toList with
    | some cv =>
      have e : ps = ps ++ #[] := by simp
      exact wpAny_genexprCode_hit hcode (hd.code tab2 ht) hf (fin cv _ s1.toks #[] (Heap.ExtBut.refl _ _) (Nat.le_refl _) (e ▸ tab2) (e ▸ ht))
    | none =>
      refine wpAny_genexprCodeX hcode (hd.code tab2 ht) (hd.tab tab2) hf fun c' h3 tk ex ge lt ic _ ta _ => ?_
      obtain ⟨_, _, _, _, _, _, _, _, _, _, _, _, _, _, _, _, _, _, _, tr, _⟩ := ic
      exact fin _ h3 tk _ ex (Nat.le_trans ge (Nat.le_of_lt lt)) ta.2 tr
  refine key _ fun cv h3 tk more ex ge tab3 tr3 => ?_
  obtain ⟨bm, ob, b1, b2, b3, b4, b5, b6, b7, b8⟩ := TB.bm
  have up : ∀ b u, b ≠ P → s1.heap.get? b = some u → h3.get? b = some u := fun b u n e => ex b u n (Heap.get?_push_of_some _ e)
  have sz : s1.heap.objs.size + 1 ≤ h3.objs.size := by rw [← Heap.size_push s1.heap o]; exact ge
  have nlS : cStatics ≠ P ∧ cStatics < s1.heap.objs.size := by
    obtain ⟨_, ns, _⟩ := I1.nolimit
    refine ⟨fun z => ?_, ns.lt⟩
    obtain ⟨o', es, ep, ho, hdd, _⟩ := ns
    rw [z, tabS] at ho
    cases ho
    cases hdd
  refine wpAny_builtinsFor (m := X.mg) (by rw [I1.ok.glob]; exact ((I1.mod.glob.keeps I1.bk).push o).extBut ex TB.gP) b1 b2 (up _ _ b4 (I1.bk _ _ b5)) b6 b7 b8 ?_
  refine ⟨s1.heap.objs.size, [s1.heap.objs.size, a], [s1.heap.objs.size], its.length, (fun i v => its[i]? = some v), St, (fun _ => true), (fun i y => ∃ y0, ys[i]? = some y0 ∧ RelV y0 y), rfl, W, ?_, ?_, (I1.nolimit.push o).extBut ex nlS.1, ?_, ?_, ?_⟩
  · refine (W X.A hr.hd).frame _ _ _ st0 fun b hb u e => ex b u (fun z => ?_) e
    rcases List.mem_cons.mp hb with q | q
    · exact neI (q.symm.trans z)
    · have q2 : b = a := by simpa using q
      exact absurd (q2.symm.trans z) (by
        intro az
        rcases hsq with hh | hh
        · obtain ⟨its', _, pl, _⟩ := I1.list hh
          obtain ⟨oo, _, e1, _, _, d1⟩ := pl
          rw [az, tabS] at e1
          cases e1
          cases d1
        · obtain ⟨its', _, pl, _⟩ := I1.tuple hh
          obtain ⟨oo, e1, _, _, d1⟩ := pl
          rw [az, tabS] at e1
          cases e1
          cases d1)
  · intro b hb
    show b < h3.objs.size
    rcases List.mem_cons.mp hb with q | q
    · rw [q]; exact Nat.lt_of_succ_le sz
    · have q2 : b = a := by simpa using q
      rw [q2]; exact Nat.lt_of_lt_of_le hlt (Nat.le_of_succ_le sz)
  · intro z
    have z2 : cStatics = s1.heap.objs.size := by simpa using z
    exact Nat.ne_of_lt nlS.2 z2
  · intro href hk
    refine ⟨fun A' E' i v t m hA _ _ hv hn hm hkp => ?_, fun A' E' i v t m hA _ hU hv _ hn hm hkp => ?_⟩
    · simp only [List.forIn_nil]
      exact wpAny_pure ⟨rfl, GxR.keeps_refl _⟩
    · have li : i < xs.length := by rw [rv.length]; exact (List.getElem?_eq_some_iff.mp hv).1
      obtain ⟨u, hu, ru⟩ := rv.get (List.getElem?_eq_getElem li)
      rw [hv] at hu
      cases hu
      refine wpAny_mono (hel pins s1 t _ cv _ A' E' i _ v m I1 hA hU (List.getElem?_eq_getElem li) ru hn hm fun b u n e => ?_) (fun y t' r => r) fun _ _ e => e
      have e3 := up b u n e
      refine hkp b (List.mem_range.mpr (Heap.lt_size e3)) (fun z => ?_) u (hk b u e3)
      have z2 : b = s1.heap.objs.size := by simpa using z
      exact Nat.lt_irrefl _ (z2 ▸ Heap.lt_size e)
  · intro g h5 tk5 gs hgb hag hsz5 hk5 W5 hat
    have el : its.length = ys.length := by rw [hyl, ← rv.length]
    simp only [GxR.passing_true, List.length_range, el] at W5 hat
    refine hQ ys H1 g _ (by rw [hyl]; exact hz) q1 ⟨_, _, _, _, _, W5, hat, ?_, List.mem_cons_self, fun i s9 st => st.1.typeIs, ?_, fun s' mv => ?_⟩
    · intro b hb
      show b < h5.objs.size
      rw [hsz5]
      rcases List.mem_cons.mp hb with q | q
      · rw [q]; exact Nat.lt_succ_self _
      · rcases List.mem_cons.mp q with q | q
        · rw [q]; exact Nat.lt_succ_of_lt hag
        · exact Nat.lt_succ_of_lt (Nat.lt_trans (List.mem_range.mp q) hag)
    · intro j v hv
      obtain ⟨i, hij, y0, hy, r⟩ := hv
      obtain ⟨hj, ej⟩ := List.getElem?_eq_some_iff.mp hij
      rw [List.getElem_range] at ej
      subst ej
      exact ⟨y0, hy, r⟩
    · have out : ∀ b u, s1.heap.get? b = some u → b ∉ h3.objs.size :: [s1.heap.objs.size] := fun b u e hb => by
        have l := Heap.lt_size e
        rcases List.mem_cons.mp hb with q | q
        · rw [q] at l
          exact absurd l (Nat.not_lt.mpr (Nat.le_of_succ_le sz))
        · have q2 : b = s1.heap.objs.size := by simpa using q
          exact Nat.lt_irrefl _ (q2 ▸ l)
      have J := GxR.inv_tab (more := more) (h' := s'.heap) (g' := s'.gens) (d' := s'.drawn) (t' := s'.toks) I1 hP (fun b u n e => mv.heap b u (out b u e) (hk5 b u (up b u n e))) (mv.heap P _ (out P _ tabS) (hk5 P _ tab3)) (AllBare.movedS (I1.bare.push hgb) mv)
      rw [GxR.sh_eta s1 s' mv.os] at J
      exact ⟨_, ⟨⟨ps ++ more, upd_same, tr3⟩, fun b hb => upd_ne hb⟩, J⟩
/-- tuple(elt for x in e) -/
def tTupG (X : Cx) (scope : Scope) (x : Str) (elt : Expr) (P : Addr) (te : TE) : TE := fun σ H Q => te σ H fun v H1 => ∃ (a : Addr) (xs ys : List V), v = .ref a ∧ Sq X.K H1 a xs ∧ ys.length = xs.length ∧ (∀ pins, EltV X pins σ scope x elt P H1 xs ys) ∧ GxR.TabG H1 P ∧
  ∀ H2, GxR.Tabbed P H1 H2 → ∀ p, H2 p = none → Q (.ref p) (upd H2 p (.tup ys))
theorem items_vals {ys : List V} {F : Nat → Value → Prop} {acc : Array Value} {n : Nat} (hn : ys.length = n) (hF : ∀ j v, F j v → ∃ y, ys[j]? = some y ∧ RelV y v) (h : ItemsOf F acc n) : Vals ys acc.toList := by
  have gen : ∀ (l : List Value) (zs : List V), zs.length = l.length → (∀ (j : Nat) (v : Value), l[j]? = some v → ∃ y, zs[j]? = some y ∧ RelV y v) → Vals zs l := by
    intro l
    induction l with
    | nil => intro zs e _; cases zs with
      | nil => exact .nil
      | cons z r => cases e
    | cons v r ih => intro zs e k; cases zs with
      | nil => cases e
      | cons z q =>
        obtain ⟨y, hy, ry⟩ := k 0 v rfl
        cases hy
        exact .cons ry (ih q (by simpa using e) fun j v hv => k (j + 1) v hv)
  refine gen acc.toList ys (by rw [hn, ← h.1]; simp) fun j v hv => hF j v (h.2 j v (by simpa using hv))
theorem pe_tupG {c P : Addr} {elt iter : Expr} {x : Str} {px p pos gpos : Pos} {scope : Scope} {te : TE} {k : Nat}
    (hr : Room k X.A) (hg : Gl X "tuple") (hm : X.mg "tuple" = none) (TB : GxR.TabB X.base X.mg c P) (hcode : X.env.code = .ref c) (S : GxR.GenS X.env scope x) (hi : PE X iter te) (hs : ∀ v, genFold iter X.env v = pure v)
    (he : starEach [.GeneratorExp elt [⟨.Name x px, iter, [], 0⟩] scope gpos] X.env = (false, eval (.GeneratorExp elt [⟨.Name x px, iter, [], 0⟩] scope gpos) X.env) :: starEach [] X.env := by rfl) :
    PE X (.Call (.Name "tuple" p) [.GeneratorExp elt [⟨.Name x px, iter, [], 0⟩] scope gpos] [] pos) (tTupG X scope x elt P te) := by
  refine ⟨fun pins s σ H Q I h => ?_⟩
  refine wpAny_Call_Name_kw (ld_blt I hg hm boot_tuple (PyProof.Rows.callWith_type1 ?_ he (by rfl)))
  rw [he]
  show wpAny _ _ (spliced ((false, _) :: backTo pos (starEach [] X.env))) _ _ s
  unfold tTupG at h
  refine Calls.spliced_cons (gen_sq (te := te) (R := fun ys H1 => ∀ H2, GxR.Tabbed P H1 H2 → ∀ p, H2 p = none → Q (.ref p) (upd H2 p (.tup ys))) hr TB hcode S hi hs I (H := H) h fun ys H1 g s5 hz hR hG => ?_)
  · obtain ⟨fp, wr, G, F, St, W, st, hfp, hgf, hty, hF, hI⟩ := hG
    refine Calls.spliced_nil (call_tuple_gen W.in4_3 hty st hfp hgf (fun s' acc mv ia => ?_) hz)
    obtain ⟨H2, hT, J⟩ := hI s' mv
    have rv := items_vals rfl hF ia
    refine ⟨.ref s'.heap.objs.size, _, J.laid (t' := s'.toks) (o := .tup ys) (fun b u e => Heap.get?_push_of_some _ e) (Nat.le_refl _) ⟨hz, acc.toList, rv, ?_⟩, rfl, hR H2 hT _ (J.hok.fresh (Nat.le_refl _))⟩
    have z := IsTup.new s'.heap acc
    simpa using z
/-- all(elt for x in e), any(elt for x in e), the element True or False -/
def tAllG (X : Cx) (scope : Scope) (x : Str) (elt : Expr) (P : Addr) (te : TE) : TE := fun σ H Q => te σ H fun v H1 => ∃ (a : Addr) (xs ys : List V), v = .ref a ∧ Sq X.K H1 a xs ∧ ys.length = xs.length ∧ (∀ pins, EltV X pins σ scope x elt P H1 xs ys) ∧ GxR.TabG H1 P ∧
  ∃ bs : List Bool, ys = bs.map V.bl ∧ ∀ H2, GxR.Tabbed P H1 H2 → Q (.bl (bs.all id)) H2
def tAnyG (X : Cx) (scope : Scope) (x : Str) (elt : Expr) (P : Addr) (te : TE) : TE := fun σ H Q => te σ H fun v H1 => ∃ (a : Addr) (xs ys : List V), v = .ref a ∧ Sq X.K H1 a xs ∧ ys.length = xs.length ∧ (∀ pins, EltV X pins σ scope x elt P H1 xs ys) ∧ GxR.TabG H1 P ∧
  ∃ bs : List Bool, ys = bs.map V.bl ∧ ∀ H2, GxR.Tabbed P H1 H2 → Q (.bl (bs.any id)) H2
theorem truth_bls {A : Around} {bs : List Bool} {F : Nat → Value → Prop} (hF : ∀ j v, F j v → ∃ y, (bs.map V.bl)[j]? = some y ∧ RelV y v) : TruthOf X.prog X.w A F (fun j => bs.getD j false) := by
  intro j v t Q E hv hq
  obtain ⟨y, hy, r⟩ := hF j v hv
  rw [List.getElem?_map] at hy
  cases e : bs[j]? with
  | none => rw [e] at hy; cases hy
  | some b =>
    rw [e] at hy
    cases hy
    cases (show v = Value.bool b from r)
    have e2 : bs.getD j false = b := by rw [List.getD_eq_getElem?_getD, e]; rfl
    exact wpAny_truthy_bool (by rw [← e2]; exact hq)
theorem all_range (bs : List Bool) : (List.range bs.length).all (fun j => bs.getD j false) = bs.all id := by
  rw [Bool.eq_iff_iff, List.all_eq_true, List.all_eq_true]
  constructor
  · intro h b hb
    obtain ⟨j, hj, e⟩ := List.getElem_of_mem hb
    have q := h j (List.mem_range.mpr hj)
    rw [List.getD_eq_getElem?_getD, List.getElem?_eq_getElem hj, e] at q
    exact q
  · intro h j hj
    have hj' := List.mem_range.mp hj
    rw [List.getD_eq_getElem?_getD, List.getElem?_eq_getElem hj']
    exact h _ (List.getElem_mem hj')
theorem any_range (bs : List Bool) : (List.range bs.length).any (fun j => bs.getD j false) = bs.any id := by
  rw [Bool.eq_iff_iff, List.any_eq_true, List.any_eq_true]
  constructor
  · intro ⟨j, hj, q⟩
    have hj' := List.mem_range.mp hj
    rw [List.getD_eq_getElem?_getD, List.getElem?_eq_getElem hj'] at q
    exact ⟨_, List.getElem_mem hj', q⟩
  · intro ⟨b, hb, q⟩
    obtain ⟨j, hj, e⟩ := List.getElem_of_mem hb
    refine ⟨j, List.mem_range.mpr hj, ?_⟩
    rw [List.getD_eq_getElem?_getD, List.getElem?_eq_getElem hj, e]
    exact q
theorem pe_allG {c P : Addr} {elt iter : Expr} {x : Str} {px p pos gpos : Pos} {scope : Scope} {te : TE} {k : Nat}
    (hr : Room k X.A) (hg : Gl X "all") (hm : X.mg "all" = none) (TB : GxR.TabB X.base X.mg c P) (hcode : X.env.code = .ref c) (S : GxR.GenS X.env scope x) (hi : PE X iter te) (hs : ∀ v, genFold iter X.env v = pure v)
    (he : starEach [.GeneratorExp elt [⟨.Name x px, iter, [], 0⟩] scope gpos] X.env = (false, eval (.GeneratorExp elt [⟨.Name x px, iter, [], 0⟩] scope gpos) X.env) :: starEach [] X.env := by rfl) :
    PE X (.Call (.Name "all" p) [.GeneratorExp elt [⟨.Name x px, iter, [], 0⟩] scope gpos] [] pos) (tAllG X scope x elt P te) := by
  refine ⟨fun pins s σ H Q I h => ?_⟩
  refine wpAny_Call_Name_kw (ld_blt I hg hm boot_all (PyProof.Rows.callWith_builtin1 ?_ he (by rfl)))
  rw [he]
  show wpAny _ _ (spliced ((false, _) :: backTo pos (starEach [] X.env))) _ _ s
  unfold tAllG at h
  refine Calls.spliced_cons (gen_sq (te := te) (R := fun ys H1 => ∃ bs : List Bool, ys = bs.map V.bl ∧ ∀ H2, GxR.Tabbed P H1 H2 → Q (.bl (bs.all id)) H2) hr TB hcode S hi hs I (H := H) h fun ys H1 g s5 hz hR hG => ?_)
  obtain ⟨bs, rfl, hR⟩ := hR
  obtain ⟨fp, wr, G, F, St, W, st, hfp, hgf, hty, hF, hI⟩ := hG
  refine Calls.spliced_nil (call_all_walkS (W.in4_1.self 0 _ _ _ st ⟨g, fp, wr, G, _, F, St, _, rfl, W.in4_1, st, truth_bls hF, fun s' mv => ?_⟩))
  obtain ⟨H2, hT, J⟩ := hI s' mv
  refine ⟨.bl _, H2, J, rfl, ?_⟩
  rw [List.length_map, all_range]
  exact hR H2 hT
theorem pe_anyG {c P : Addr} {elt iter : Expr} {x : Str} {px p pos gpos : Pos} {scope : Scope} {te : TE} {k : Nat}
    (hr : Room k X.A) (hg : Gl X "any") (hm : X.mg "any" = none) (TB : GxR.TabB X.base X.mg c P) (hcode : X.env.code = .ref c) (S : GxR.GenS X.env scope x) (hi : PE X iter te) (hs : ∀ v, genFold iter X.env v = pure v)
    (he : starEach [.GeneratorExp elt [⟨.Name x px, iter, [], 0⟩] scope gpos] X.env = (false, eval (.GeneratorExp elt [⟨.Name x px, iter, [], 0⟩] scope gpos) X.env) :: starEach [] X.env := by rfl) :
    PE X (.Call (.Name "any" p) [.GeneratorExp elt [⟨.Name x px, iter, [], 0⟩] scope gpos] [] pos) (tAnyG X scope x elt P te) := by
  refine ⟨fun pins s σ H Q I h => ?_⟩
  refine wpAny_Call_Name_kw (ld_blt I hg hm boot_any (PyProof.Rows.callWith_builtin1 ?_ he (by rfl)))
  rw [he]
  show wpAny _ _ (spliced ((false, _) :: backTo pos (starEach [] X.env))) _ _ s
  unfold tAnyG at h
  refine Calls.spliced_cons (gen_sq (te := te) (R := fun ys H1 => ∃ bs : List Bool, ys = bs.map V.bl ∧ ∀ H2, GxR.Tabbed P H1 H2 → Q (.bl (bs.any id)) H2) hr TB hcode S hi hs I (H := H) h fun ys H1 g s5 hz hR hG => ?_)
  obtain ⟨bs, rfl, hR⟩ := hR
  obtain ⟨fp, wr, G, F, St, W, st, hfp, hgf, hty, hF, hI⟩ := hG
  refine Calls.spliced_nil (call_any_walkS (W.in4_1.self 0 _ _ _ st ⟨g, fp, wr, G, _, F, St, _, rfl, W.in4_1, st, truth_bls hF, fun s' mv => ?_⟩))
  obtain ⟨H2, hT, J⟩ := hI s' mv
  refine ⟨.bl _, H2, J, rfl, ?_⟩
  rw [List.length_map, any_range]
  exact hR H2 hT
/-- an element f[x]: f a captured name of a tuple, x the walk's own -/
theorem elt_item {f x : Str} {scope : Scope} {P fa : Addr} {H1 : Hp} {xs ys zs : List V} {j : Nat} {p1 p2 p3 : Pos} (hk : scope.kind = .function) (hx : scope.names.lookup x = some .local) (hf : scope.names.lookup f = some .free)
    (hcl : (cloFrom X.env.cells scope.names []).lookup f = some ((X.env.cells.lookup f).getD 0)) (hj : X.N[j]? = some f) (hkf : X.env.kindOf f = some .cell) (hσ : σ[j]? = some (some (.ref fa))) (hq : SqT X.K H1 fa zs) (hT : GxR.TabG H1 P)
    (hv : ∀ (i : Nat) x0, xs[i]? = some x0 → ∃ (n : Int) (y : V), x0 = .int n ∧ atI zs n = some y ∧ ys[i]? = some y) (hdf : (f == ("__debug__" : Str)) = false := by decide) (hdx : (x == ("__debug__" : Str)) = false := by decide) (hcf : (f == ("__classdict__" : Str)) = false := by decide) :
    EltV X pins σ scope x (.Subscript (.Name f p1) (.Name x p2) p3) P H1 xs ys := by
  intro s1 t C code bi A' E' i x0 u m I hA hU hx0 ru hn hm hkp
  obtain ⟨n, y, rfl, hat, hy⟩ := hv i x0 hx0
  obtain ⟨tk, rfl⟩ := (show ∃ t, u = Value.int n t from ru)
  obtain ⟨ps, hP, _⟩ := hT
  have tabS : s1.heap.get? P = some { cls := .none, data := .fields ps } := I.hok P _ hP
  obtain ⟨m1, _, hl⟩ := I.loc
  obtain ⟨uf, rf, lk⟩ := hl j f _ hj hσ (.inr (.inl hkf))
  cases (show uf = Value.ref fa from rf)
  obtain ⟨c, hc, ic⟩ : ∃ c, X.env.cells.lookup f = some c ∧ s1.heap.IsCell c (some (.ref fa)) := by
    rcases lk with ⟨z, _⟩ | ⟨_, c, hc, ic⟩
    · rw [hkf] at z; cases z
    · exact ⟨c, hc, ic⟩
  have ic2 : t.heap.IsCell c (some (.ref fa)) := by
    obtain ⟨o, ho, hd⟩ := ic
    refine ⟨o, hkp c o (fun z => ?_) ho, hd⟩
    rw [z, tabS] at ho
    cases ho
    cases hd
  obtain ⟨its, rv, pl, hz⟩ := I.tuple hq
  have pl2 : IsTup t.heap fa its.toArray := by
    obtain ⟨o, ho, hcl', nn, hd⟩ := pl
    refine ⟨o, hkp fa o (fun z => ?_) ho, hcl', nn, hd⟩
    rw [z, tabS] at ho
    cases ho
    cases hd
  obtain ⟨jj, h1, h2, h3, h4, h5⟩ := atI_get hat
  obtain ⟨wv, ew, rw'⟩ := rv.get h2
  have hlen := rv.length
  have hn63 := line63
  have clf : (genEnv scope (cloFrom X.env.cells scope.names []) C code bi X.env).cells.lookup f = some c := by
    show (cloFrom X.env.cells scope.names []).lookup f = some c
    rw [hcl, hc]
    rfl
  refine Subscript_ (wpAny_Name (wpAny_loadName_free hk hf clf ic2 (wpAny_Name (wpAny_loadName_local hk hx hn hm ?_) hdx) hcf) hdf)
  exact subscriptTail_builtinR (x := wv) pl2.typeIs slot_tuple_getitem.lookup
    (getItem_tuple (j := jj) (Q := fun r s' => r = wv ∧ ((∃ y0, ys[i]? = some y0 ∧ RelV y0 r) ∧ Keeps t s')) pl2 (by omega) (by omega) (by rw [List.size_toArray, ← hlen]; exact h1) (by simpa using ew) ⟨rfl, ⟨y, hy, rw'⟩, GxR.keeps_refl _⟩) (by rfl)
end
end Gv

set_option Elab.async false
set_option linter.all false
set_option maxRecDepth 100000
set_option maxHeartbeats 4000000
/-! enumerate(t), t a tuple -/
namespace Et
open PySem PySem.Spec PyProof.Rows L2
theorem meets_one {v : Value} {o : Obj} {B : Heap → Prop} (hB : Begins v o B) :
    Meets (Builtin.«enumerate.__new__» ⟨[.type "enumerate", v], []⟩) (fun _ R s => B s.heap ∧
      R (.ok (.ret (.ref (s.heap.push o).objs.size))) { s with heap := (s.heap.push o).push { cls := .type "enumerate", data := .fields #[.none, .bool false, .ref s.heap.objs.size, rawInt 0, .none, .none] } }) :=
  .of_wp fun prog w A R s h => by
    obtain ⟨hp, g, d, tk, os⟩ := s
    obtain ⟨hb, h⟩ := h
    have hsub := sub_enumerate
    have begin1 : ∀ {A1 : Around} {E1 : Value → Shared → Prop} {Q1 : Value → Shared → Prop}, Q1 (.ref hp.objs.size) ⟨hp.push o, g, d, tk, os⟩ → wpAny (model prog w) A1 (pyIter v) Q1 E1 ⟨hp, g, d, tk, os⟩ := fun q => hB.iter prog w _ _ ⟨hp, g, d, tk, os⟩ _ hb q
    wp_walk using begin1
    refine wpAny_stack_any fun stk => wpAny_pure ?_
    split
    next c _ _ _ _ _ =>
      cases (c == Value.type "enumerate") <;> (wp_walk using begin1; exact ⟨_, rfl, h⟩)
    next => wp_walk using begin1; exact ⟨_, rfl, h⟩
theorem make {prog : Program} {w : World} {A : Around} {E : Value → Shared → Prop} {s : Shared} {v : Value} {o : Obj} {B : Heap → Prop} {Q : Value → Shared → Prop} (hB : Begins v o B) (hb : B s.heap)
    (k : ∀ h', IsEnum h' (s.heap.objs.size + 1) s.heap.objs.size 0 .none → h'.get? s.heap.objs.size = some o → (∀ b o, s.heap.get? b = some o → h'.get? b = some o) → Q (.ref (s.heap.objs.size + 1)) { s with heap := h' }) :
    wpAny (model prog w) A (call (.type "enumerate") [v]) Q E s := by
  refine callType_new F.called_enumerate (by decide) (F.typeCall_enumerate_1 _) (F.newCall_enumerate_1 _) (fun obj => F.args_object_init_2 obj _) F.entry_enumerate_new (meets_one hB) ⟨hb, ?_⟩
  have z : (s.heap.push o).objs.size = s.heap.objs.size + 1 := Heap.size_push ..
  generalize hn : ({ cls := .type "enumerate", data := .fields #[.none, .bool false, .ref s.heap.objs.size, rawInt 0, .none, .none] } : Obj) = en
  have e : ((s.heap.push o).push en).get? (s.heap.objs.size + 1) = some en := by
    have q := Heap.get?_push_size (s.heap.push o) (o := en) (by rw [← hn]; rfl)
    rw [z] at q
    exact q
  have ie : IsEnum ((s.heap.push o).push en) (s.heap.objs.size + 1) s.heap.objs.size 0 .none := by
    subst hn
    exact e
  show _ ∧ _
  rw [z]
  exact ⟨⟨_, e, by rw [← hn]⟩, k _ ie (Heap.get?_push_of_some _ (Heap.get?_push_size _ hB.free)) fun b u x => Heap.get?_push_of_some _ (Heap.get?_push_of_some _ x)⟩
/-- the tuple at a walked with its places -/
def ItE (K : PySem.W.Frag) (a : Addr) : It :=
  ⟨fun i H => ∃ (xs : List V) (x : V), SqT K H a xs ∧ xs[i]? = some x, fun i H v H' => ∃ T x, v = .ref T ∧ H T = none ∧ H' = upd H T (.tup [.int (i : Nat), x]) ∧ ∀ xs, SqT K H a xs → xs[i]? = some x,
    fun i H => ∃ xs : List V, SqT K H a xs ∧ xs.length = i⟩
theorem turn {P : Program} {w : World} {K : PySem.W.Frag} {elts : List Expr} {kk : Nat} {tpos : Pos} (a e it : Addr) (hei : e ≠ it) :
    Turn P w K (.Tuple elts kk tpos) (ItE K a) [e, it] e (fun i h => (∃ old, IsEnum h e it ((i : Nat) : Int) old) ∧ h.IsTupleIter it a i) where
  mem := List.mem_cons_self
  obj := fun i h st b hb => by
    obtain ⟨⟨old, he⟩, o, ho, _, hd⟩ := st
    rcases List.mem_cons.mp hb with z | z
    · rw [z]; exact ⟨_, he, fun v q => nomatch q⟩
    · rw [List.mem_singleton.mp z]; exact ⟨o, ho, fun v q => by rw [hd] at q; cases q⟩
  keep := fun i h h' st k => ⟨let ⟨old, he⟩ := st.1; ⟨old, k e (by simp) _ he⟩, st.2.at fun o q => k it (by simp) o q⟩
  item := by
    intro X hP hw hK hc i pins s σ H E I hf st hg
    subst hP hw hK
    obtain ⟨⟨old, he⟩, hit⟩ := st
    obtain ⟨xs, x, hq, hx⟩ := hg
    obtain ⟨its, rv, pl, hz⟩ := I.tuple hq
    obtain ⟨u, hu, ru⟩ := rv.get hx
    have le : e < s.heap.objs.size := Heap.lt_size he
    have li : it < s.heap.objs.size := by obtain ⟨_, q, _⟩ := hit; exact Heap.lt_size q
    have nai : a ≠ it := fun z => by
      obtain ⟨o, q, hcl, _⟩ := hit
      obtain ⟨o2, q2, hcl2, _⟩ := pl
      rw [z, q] at q2
      cases q2
      rw [hcl] at hcl2
      exact absurd (Value.type.inj hcl2) (by decide)
    have nea : e ≠ a := fun z => by
      obtain ⟨o2, q2, hcl2, _⟩ := pl
      rw [← z] at q2
      have q3 := Option.some.inj (he.symm.trans q2)
      rw [← q3] at hcl2
      exact absurd (Value.type.inj hcl2) (by decide)
    have D := Draws.tuple (prog := X.prog) (w := X.w) (A := X.A.in1) (I.ok.hd hc) it a nai its.toArray
    have hlt : i < its.toArray.size := by simpa using (List.getElem?_eq_some_iff.mp hu).1
    refine wpAny_pyNext_enum_itemD D he ⟨hit, pl⟩ hlt hei (by simp [hei, nea]) fun y h' tk hy ho st' hT hsz hk => ?_
    obtain rfl : y = u := by
      have q : its[i]? = some y := by simpa using hy
      exact Option.some.inj (q.symm.trans hu)
    refine ⟨_, rfl, wpAny_letOwnedTupleGo_enum (s := { s with heap := h', toks := tk + 1 }) ho fun h'' he' sb => ?_⟩
    have tT : h''.get? s.heap.objs.size = some { cls := .type "tuple", data := .seq #[.int i tk, y] } := (sb.2 _ (Nat.ne_of_gt le)).trans hT
    have J : Inv X pins σ (upd H s.heap.objs.size (.tup [.int (i : Nat), x])) { s with heap := h'', toks := tk + 1 } :=
      I.turnedNew (ch := [e, it]) (fun b ob nb q => (sb.2 b (fun z => nb (by simp [z]))).trans (hk b ob (fun z => nb (by simp [z])) (fun z => nb (by simp [z])) q)) hf (Nat.le_refl _)
        ⟨by show 2 ≤ sizeLine; decide, [.int i tk, y], .cons ⟨_, rfl⟩ (.cons ru .nil), ⟨_, tT, rfl, _, rfl⟩⟩
    refine ⟨.ref s.heap.objs.size, _, J, rfl, ⟨_, x, rfl, I.hok.fresh (Nat.le_refl _), rfl, fun ys hy => by rw [I.tuple_inj hy hq]; exact hx⟩, ⟨⟨y, ?_⟩, st'.1.at fun o q => (sb.2 it (Ne.symm hei)).trans q⟩, fun b hb => ?_⟩
    · have c1 : ((i + 1 : Nat) : Int) = (i : Int) + 1 := by omega
      rw [c1]; exact he'
    · have lb : b < s.heap.objs.size := by
        rcases List.mem_cons.mp hb with z | z
        · rw [z]; exact le
        · rw [List.mem_singleton.mp z]; exact li
      rw [upd_ne (Nat.ne_of_lt lb)]
      exact (hf b hb).1
  done := by
    intro X hP hw hK hc i pins s σ H E I hf st hg
    subst hP hw hK
    obtain ⟨⟨old, he⟩, hit⟩ := st
    obtain ⟨xs, hq, hx⟩ := hg
    obtain ⟨its, rv, pl, hz⟩ := I.tuple hq
    obtain ⟨f0, f1, f2, f3, f4, f5⟩ := hf it (by simp)
    have hl := rv.length
    have nai : a ≠ it := fun z => by
      obtain ⟨o, q, hcl, _⟩ := hit
      obtain ⟨o2, q2, hcl2, _⟩ := pl
      rw [z, q] at q2
      cases q2
      rw [hcl] at hcl2
      exact absurd (Value.type.inj hcl2) (by decide)
    have D := Draws.tuple (prog := X.prog) (w := X.w) (A := X.A.in1) (I.ok.hd hc) it a nai its.toArray
    have en : i = its.toArray.size := by rw [List.size_toArray, ← hl, hx]
    exact wpAny_pyNext_enum_endD D he (by rw [← en]; exact ⟨hit, pl⟩) fun h' eb => ⟨rfl, I.turned (t' := s.toks) (fun b o hb q => eb b o hb q) f0 f1 f3 f4 f5⟩
  self := fun A i s Q E st h => let ⟨⟨_, he⟩, _⟩ := st; wpAny_pyIter_enum he h
def iEnumT (K : PySem.W.Frag) (ta : TA) : TI := fun σ H R => ta σ H fun vs H1 => ∃ a xs, vs = [.ref a] ∧ SqT K H1 a xs ∧ R (ItE K a) H1
theorem pi_enumT {X : Cx} {e : Expr} {ta : TA} {p pos tpos : Pos} {elts : List Expr} {kk : Nat} (hg : Gl X "enumerate") (hm : X.mg "enumerate" = none) (ha : PA X [e] ta) (hs : starEach [e] X.env = [(false, eval e X.env)] := by rfl) :
    PI X (.Tuple elts kk tpos) (.Call (.Name "enumerate" p) [e] [] pos) (iEnumT X.K ta) := by
  refine ⟨fun pins s σ H R I h => ?_⟩
  refine Call_ (ld_blt I hg hm boot_enumerate (PyProof.Rows.callWith_type1 (thn (ha.run pos pins s σ H _ I h) fun us s1 ⟨vs, H1, I1, r1, q1⟩ => ?_) hs rfl))
  obtain ⟨a, xs, rfl, hq, q⟩ := q1
  obtain ⟨u, rfl, ru⟩ := vals1 r1
  cases (show u = Value.ref a from ru)
  obtain ⟨its, rv, pl, hz⟩ := I1.tuple hq
  refine make (begins_tuple a its.toArray) pl fun h' ie io kp => wpAny_pyIter_enum ie ?_
  refine ⟨s1.heap.objs.size + 1, [s1.heap.objs.size + 1, s1.heap.objs.size], _, _, H1, rfl, I1.kept (t' := s1.toks) kp, turn a (s1.heap.objs.size + 1) s1.heap.objs.size (Nat.succ_ne_self _), ⟨⟨.none, ie⟩, _, io, rfl, rfl⟩, fun b hb => ?_, q⟩
  have lb : s1.heap.objs.size ≤ b := by
    rcases List.mem_cons.mp hb with z | z
    · rw [z]; exact Nat.le_succ _
    · rw [List.mem_singleton.mp z]; exact Nat.le_refl _
  exact I1.fpOk lb (I1.hok.fresh lb)
/-- for (i, x) in enumerate(t): an invariant over the turns -/
theorem for_enumT {K : PySem.W.Frag} {a : Addr} {xs : List V} {g : TG} {tb : TS} {D : Ends} {σ : L2.St} {H : Hp} (Pv : Nat → L2.St → Hp → Prop) (h0 : Pv 0 σ H) (hl : ∀ i σ H, i ≤ xs.length → Pv i σ H → SqT K H a xs)
    (hs : ∀ i x σ H T, xs[i]? = some x → Pv i σ H → H T = none → g (.ref T) σ (upd H T (.tup [.int (i : Nat), x])) fun σ2 H2 => tb { D with nx := Pv (i + 1), ct := Pv (i + 1), bk := D.nx } σ2 H2) (hd : ∀ σ H, Pv xs.length σ H → D.nx σ H) :
    ∃ W : Nat → Nat → L2.St → Hp → Prop, (∃ m, W 0 m σ H) ∧ ∀ i m σ H, W i m σ H →
      ((ItE K a).stop i H ∧ D.nx σ H) ∨ ((ItE K a).go i H ∧ ∃ N : L2.St → Hp → Prop, (∀ σ' H', N σ' H' → ∃ m', m' < m ∧ W (i + 1) m' σ' H') ∧ ∀ x H', (ItE K a).yld i H x H' → g x σ H' fun σ2 H2 => tb { D with nx := N, ct := N, bk := D.nx } σ2 H2) := by
  refine ⟨fun i m σ H => i + m = xs.length ∧ Pv i σ H, ⟨xs.length, by omega, h0⟩, ?_⟩
  rintro i m σ H ⟨e, p⟩
  have q := hl i σ H (by omega) p
  by_cases c : i < xs.length
  · refine .inr ⟨⟨xs, xs[i], q, List.getElem?_eq_getElem c⟩, Pv (i + 1), fun σ' H' p' => ⟨m - 1, by omega, by omega, p'⟩, fun v H' hy => ?_⟩
    obtain ⟨T, x, rfl, nT, rfl, fx⟩ := hy
    exact hs i x σ H T (fx xs q) p nT
  · have e2 : i = xs.length := by omega
    subst e2
    exact .inl ⟨⟨xs, q, rfl⟩, hd σ H p⟩
theorem lc_enumT {K : PySem.W.Frag} {a : Addr} {xs : List V} {g : TG} {tt : TT} {te : TE} {vs : List Nat} {σ : L2.St} {H1 : Hp} {D : Addr} {Qd : Hp → Prop} (Pv : Nat → Hp → Prop) (h0 : Pv 0 (upd H1 D (.lst []))) (hl : ∀ i H, i ≤ xs.length → Pv i H → SqT K H a xs)
    (hs : ∀ i x H T, xs[i]? = some x → Pv i H → H T = none → g (.ref T) (wipe σ vs) (upd H T (.tup [.int (i : Nat), x])) fun σ2 H2 => wipe σ2 vs = wipe σ vs ∧ tt σ2 H2 fun b H3 =>
      if b = true then te σ2 H3 fun y H4 => ∃ acc, H4 D = some (.lst acc) ∧ acc.length < sizeLine ∧ Pv (i + 1) (upd H4 D (.lst (acc ++ [y]))) else Pv (i + 1) H3) (hd : ∀ H, Pv xs.length H → Qd H) :
    ∃ W : Nat → Nat → Hp → Prop, (∃ m, W 0 m (upd H1 D (.lst []))) ∧ ∀ i m H, W i m H →
      ((ItE K a).stop i H ∧ Qd H) ∨ ((ItE K a).go i H ∧ ∃ Nx : Hp → Prop, (∀ H', Nx H' → ∃ m', m' < m ∧ W (i + 1) m' H') ∧ ∀ x H', (ItE K a).yld i H x H' → g x (wipe σ vs) H' fun σ2 H2 => wipe σ2 vs = wipe σ vs ∧ tt σ2 H2 fun b H3 =>
        if b = true then te σ2 H3 fun y H4 => ∃ acc, H4 D = some (.lst acc) ∧ acc.length < sizeLine ∧ Nx (upd H4 D (.lst (acc ++ [y]))) else Nx H3) := by
  refine ⟨fun i m H => i + m = xs.length ∧ Pv i H, ⟨xs.length, by omega, h0⟩, ?_⟩
  rintro i m H ⟨e, p⟩
  have q := hl i H (by omega) p
  by_cases c : i < xs.length
  · refine .inr ⟨⟨xs, xs[i], q, List.getElem?_eq_getElem c⟩, Pv (i + 1), fun H' p' => ⟨m - 1, by omega, by omega, p'⟩, fun v H' hy => ?_⟩
    obtain ⟨T, x, rfl, nT, rfl, fx⟩ := hy
    exact hs i x H T (fx xs q) p nT
  · have e2 : i = xs.length := by omega
    subst e2
    exact .inl ⟨⟨xs, q, rfl⟩, hd H p⟩
end Et

set_option Elab.async false
set_option linter.all false
set_option maxRecDepth 100000
set_option maxHeartbeats 4000000
/-! riddles as they lie in the heap, their data, and what a filling breaks -/
namespace Dt
open PySem PySem.Spec PyProof.Rows L2
/-! ### in, of a tuple of data -/
def rInT (K : PySem.W.Frag) : R2 := fun x y H Q => ∃ d ds, Dp K H x d ∧ Dp K H y (.tuple ds) ∧ SeqAt.shaped d = true ∧ SeqAt.shaped (.tuple ds) = true ∧ Q (.bl (ds.any fun z => PyData.eqv z d)) H
theorem op_inT {X : Cx} (hu : X.A.units + 65 < cLine) : OpR X (compareOp .In) (rInT X.K) := by
  intro pins s σ H x y v u Q I rx ry h
  obtain ⟨d, ds, hd, he, sd, se, q⟩ := h
  obtain ⟨as, r1⟩ := Dp.reads I d x v hd rx
  obtain ⟨bs, r2⟩ := Dp.reads I (.tuple ds) y u he ry
  exact SeqAt.in_tuple_reads r2 r1 (SeqAt.canLay_of_shaped se) (SeqAt.canLay_of_shaped sd) (room_in_shaped sd hu) ⟨.bl _, H, I, rfl, q⟩
/-! ### wishes and riddles -/
abbrev Row := List Int
abbrev WD := List Int × List Row
def IsRow (H : Hp) (r : Addr) (row : Row) : Prop := H r = some (.tup (row.map V.int))
def IsWish (H : Hp) (wa : Addr) (wd : WD) : Prop := ∃ (pa ra : Addr) (rs : List Addr), H wa = some (.tup [.ref pa, .ref ra]) ∧ H pa = some (.tup (wd.1.map V.int)) ∧ H ra = some (.tup (rs.map V.ref)) ∧ Paired (IsRow H) rs wd.2
def IsRid (H : Hp) (ri : Addr) (many hues : Int) (wds : List WD) : Prop := ∃ (wt : Addr) (was : List Addr), H ri = some (.tup [.int many, .int hues, .ref wt]) ∧ H wt = some (.tup (was.map V.ref)) ∧ Paired (IsWish H) was wds
/-- tuples stay -/
def Tups (H H' : Hp) : Prop := ∀ b xs, H b = some (.tup xs) → H' b = some (.tup xs)
theorem Tups.refl (H : Hp) : Tups H H := fun _ _ e => e
theorem Tups.trans {H H1 H2 : Hp} (a : Tups H H1) (b : Tups H1 H2) : Tups H H2 := fun c xs e => b c xs (a c xs e)
theorem tups_same {H H' : Hp} (s : Same H H') : Tups H H' := fun b xs e => s b _ e
theorem tups_upd {H : Hp} {p : Addr} {o : HO} (h : ∀ xs, H p ≠ some (.tup xs)) : Tups H (upd H p o) := fun b xs e => by
  rw [upd_ne (fun z => h xs (by rw [← z]; exact e))]
  exact e
theorem pairedMap {α β : Type} {F G : α → β → Prop} : ∀ {l : List α} {m : List β}, (∀ a b, F a b → G a b) → Paired F l m → Paired G l m
  | _, _, _, .nil => .nil
  | _, _, k, .cons h t => .cons (k _ _ h) (pairedMap k t)
theorem pairedLen {α β : Type} {F : α → β → Prop} : ∀ {l : List α} {m : List β}, Paired F l m → l.length = m.length
  | _, _, .nil => rfl
  | _, _, .cons _ t => by rw [List.length_cons, List.length_cons, pairedLen t]
theorem pairedGet {α β : Type} {F : α → β → Prop} : ∀ {l : List α} {m : List β} {i : Nat} {b : β}, Paired F l m → m[i]? = some b → ∃ a, l[i]? = some a ∧ F a b
  | _, _, _, _, .nil, h => by simp at h
  | _, _, 0, _, .cons h _, e => by cases e; exact ⟨_, rfl, h⟩
  | _, _, i + 1, b, .cons _ t, e => pairedGet (i := i) (b := b) t e
theorem pairedGetL {α β : Type} {F : α → β → Prop} : ∀ {l : List α} {m : List β} {i : Nat} {a : α}, Paired F l m → l[i]? = some a → ∃ b, m[i]? = some b ∧ F a b
  | _, _, _, _, .nil, h => by simp at h
  | _, _, 0, _, .cons h _, e => by cases e; exact ⟨_, rfl, h⟩
  | _, _, i + 1, a, .cons _ t, e => pairedGetL (i := i) (a := a) t e
theorem IsWish.mono {H H' : Hp} {wa : Addr} {wd : WD} (t : Tups H H') (h : IsWish H wa wd) : IsWish H' wa wd := by
  obtain ⟨pa, ra, rs, h1, h2, h3, h4⟩ := h
  exact ⟨pa, ra, rs, t _ _ h1, t _ _ h2, t _ _ h3, pairedMap (fun a b e => t _ _ e) h4⟩
theorem IsRid.mono {H H' : Hp} {ri : Addr} {m h : Int} {wds : List WD} (t : Tups H H') (x : IsRid H ri m h wds) : IsRid H' ri m h wds := by
  obtain ⟨wt, was, h1, h2, h3⟩ := x
  exact ⟨wt, was, t _ _ h1, t _ _ h2, pairedMap (fun _ _ e => IsWish.mono t e) h3⟩
/-- what may come of the law's drawing -/
structure Good (many hues : Int) (wd : WD) : Prop where
  one : 1 ≤ wd.1.length
  three : wd.1.length ≤ 3
  pl : ∀ p ∈ wd.1, 0 ≤ p ∧ p < many
  some_ : 1 ≤ wd.2.length
  few : wd.2.length ≤ 64
  row : ∀ r ∈ wd.2, r.length = wd.1.length ∧ ∀ h ∈ r, 0 ≤ h ∧ h < hues
structure GoodR (many hues : Int) (wds : List WD) : Prop where
  m1 : 1 ≤ many
  m6 : many ≤ 6
  h2 : 2 ≤ hues
  h4 : hues ≤ 4
  eight : wds.length ≤ 8
  each : ∀ wd ∈ wds, Good many hues wd
structure GoodF (many hues : Int) (fs : List Int) : Prop where
  len : (fs.length : Int) = many
  hue : ∀ h ∈ fs, 0 ≤ h ∧ h < hues
/-! ### the data -/
def rowD (r : Row) : PyData := .tuple (r.map .int)
def wishD (wd : WD) : PyData := .tuple [rowD wd.1, .tuple (wd.2.map rowD)]
def ridD (many hues : Int) (wds : List WD) : PyData := .tuple [.int many, .int hues, .tuple (wds.map wishD)]
section
variable {K : PySem.W.Frag} {H : Hp}
theorem dpInts : ∀ ns : List Int, DpAll K H (ns.map V.int) (ns.map PyData.int)
  | [] => .nil
  | n :: r => .cons (.int n) (dpInts r)
theorem dpRow {r : Addr} {row : Row} (h : IsRow H r row) : Dp K H (.ref r) (rowD row) := .tup (.inl (.inl h)) (dpInts row)
theorem dpRows : ∀ {rs : List Addr} {rows : List Row}, Paired (IsRow H) rs rows → DpAll K H (rs.map V.ref) (rows.map rowD)
  | _, _, .nil => .nil
  | _, _, .cons h t => .cons (dpRow h) (dpRows t)
theorem dpWish {wa : Addr} {wd : WD} (h : IsWish H wa wd) : Dp K H (.ref wa) (wishD wd) := by
  obtain ⟨pa, ra, rs, h1, h2, h3, h4⟩ := h
  exact .tup (.inl (.inl h1)) (.cons (dpRow h2) (.cons (.tup (.inl (.inl h3)) (dpRows h4)) .nil))
theorem dpWishes : ∀ {was : List Addr} {wds : List WD}, Paired (IsWish H) was wds → DpAll K H (was.map V.ref) (wds.map wishD)
  | _, _, .nil => .nil
  | _, _, .cons h t => .cons (dpWish h) (dpWishes t)
theorem dpRid {ri : Addr} {m h : Int} {wds : List WD} (x : IsRid H ri m h wds) : Dp K H (.ref ri) (ridD m h wds) := by
  obtain ⟨wt, was, h1, h2, h3⟩ := x
  exact .tup (.inl (.inl h1)) (.cons (.int m) (.cons (.int h) (.cons (.tup (.inl (.inl h2)) (dpWishes h3)) .nil)))
end
/-! ### data of this kind is laid, shallow, light and shown -/
/-- a measure of data: laid, at most so deep, at most so heavy, ints short, no dict -/
structure Fine (d : PyData) (n w : Nat) : Prop where
  lay : d.canLay0 = true
  dep : d.depth ≤ n
  wei : d.weight ≤ w
  sho : d.showable = true
  noD : d.hasDict = false
  sh13 : d.intsShort 13 = true
structure FineAll (ds : List PyData) (n w : Nat) : Prop where
  lay : PyData.canLayAll0 ds = true
  dep : PyData.depthAll ds ≤ n
  wei : PyData.weightAll ds ≤ w
  sho : PyData.showableAll ds = true
  noD : PyData.hasDictAll ds = false
  sh13 : PyData.intsShortAll 13 ds = true
theorem FineAll.nil (n : Nat) : FineAll [] n 0 := ⟨rfl, Nat.zero_le _, Nat.le_refl _, rfl, rfl, rfl⟩
theorem FineAll.cons {d : PyData} {ds : List PyData} {n w u : Nat} (h : Fine d n w) (t : FineAll ds n u) : FineAll (d :: ds) n (w + 1 + u) := by
  refine ⟨?_, ?_, ?_, ?_, ?_, ?_⟩
  · simp only [PyData.canLayAll0, h.lay, t.lay, Bool.and_self]
  · have a := h.dep
    have b := t.dep
    simp only [PyData.depthAll]
    omega
  · have a := h.wei
    have b := t.wei
    simp only [PyData.weightAll]
    omega
  · simp only [PyData.showableAll, h.sho, t.sho, Bool.and_self]
  · simp only [PyData.hasDictAll, h.noD, t.noD, Bool.or_self]
  · simp only [PyData.intsShortAll, h.sh13, t.sh13, Bool.and_self]
theorem Fine.tuple {ds : List PyData} {n w : Nat} (t : FineAll ds n w) : Fine (.tuple ds) (n + 1) w := by
  refine ⟨by simp only [PyData.canLay0]; exact t.lay, ?_, by simp only [PyData.weight]; exact t.wei, by simp only [PyData.showable]; exact t.sho, by simp only [PyData.hasDict]; exact t.noD, by simp only [PyData.intsShort]; exact t.sh13⟩
  have a := t.dep
  simp only [PyData.depth]
  omega
theorem Fine.list {ds : List PyData} {n w : Nat} (t : FineAll ds n w) : Fine (.list ds) (n + 1) w := by
  refine ⟨by simp only [PyData.canLay0]; exact t.lay, ?_, by simp only [PyData.weight]; exact t.wei, by simp only [PyData.showable]; exact t.sho, by simp only [PyData.hasDict]; exact t.noD, by simp only [PyData.intsShort]; exact t.sh13⟩
  have a := t.dep
  simp only [PyData.depth]
  omega
theorem Fine.mono {d : PyData} {n w n' w' : Nat} (h : Fine d n w) (a : n ≤ n') (b : w ≤ w') : Fine d n' w' := ⟨h.lay, Nat.le_trans h.dep a, Nat.le_trans h.wei b, h.sho, h.noD, h.sh13⟩
theorem FineAll.mono {d : List PyData} {n w n' w' : Nat} (h : FineAll d n w) (a : n ≤ n') (b : w ≤ w') : FineAll d n' w' := ⟨h.lay, Nat.le_trans h.dep a, Nat.le_trans h.wei b, h.sho, h.noD, h.sh13⟩
theorem fineAll_map {α : Type} {f : α → PyData} {n w : Nat} : ∀ (l : List α), (∀ x ∈ l, Fine (f x) n w) → FineAll (l.map f) n (l.length * (w + 1))
  | [], _ => FineAll.nil n |>.mono (Nat.le_refl _) (Nat.zero_le _)
  | x :: r, h => by
    have t := fineAll_map r fun y hy => h y (List.mem_cons_of_mem _ hy)
    refine (FineAll.cons (h x List.mem_cons_self) t).mono (Nat.le_refl _) ?_
    rw [List.length_cons, Nat.succ_mul]
    omega
theorem fine_int {i : Int} (h0 : 0 ≤ i) (h1 : i < 64) : Fine (.int i) 1 7 := by
  obtain ⟨n, rfl⟩ : ∃ n : Nat, i = n := ⟨i.toNat, by omega⟩
  have hn : n < 64 := by omega
  have hl : n.log2 ≤ 5 := by
    by_cases e : n = 0
    · subst e; decide
    · have := (Nat.log2_lt e).mpr (show n < 2 ^ 6 by omega)
      omega
  refine ⟨rfl, by simp [PyData.depth], ?_, ?_, rfl, ?_⟩
  · simp only [PyData.weight]
    split
    · omega
    · have e : ((n : Int)).natAbs = n := by omega
      rw [e]
      omega
  · simp only [PyData.showable]
    have e : ((n : Int)).natAbs = n := by omega
    rw [e]
    exact decide_eq_true (by omega)
  · have all : ∀ m : Nat, m < 64 → PyData.intsShort 13 (.int (m : Int)) = true := by decide +kernel
    exact all n hn
theorem Fine.shaped {d : PyData} {n w : Nat} (h : Fine d n w) (hn : n ≤ 64) : SeqAt.shaped d = true := by
  show (d.canLay0 && decide (d.depth ≤ 64)) = true
  rw [h.lay, decide_eq_true (Nat.le_trans h.dep hn)]
  rfl
theorem Fine.shows {d : PyData} {n w : Nat} (h : Fine d n w) (hn : n ≤ 64) (hw : w ≤ 1048576) : d.shown.length ≤ sizeLine := by
  have l : d.layable0 = true := by
    show (d.canLay0 && decide (d.depth ≤ 64) && decide (d.weight ≤ 2 ^ 20)) = true
    rw [h.lay, decide_eq_true (Nat.le_trans h.dep hn), decide_eq_true (show d.weight ≤ 2 ^ 20 from Nat.le_trans h.wei (Nat.le_trans hw (by decide)))]
    rfl
  exact Nat.le_trans (shown_le13 l h.sh13) (by decide)
/-! ### equality of rows -/
theorem eqvAll_ints : ∀ a b : List Int, PyData.eqvAll (a.map .int) (b.map .int) = decide (a = b)
  | [], [] => by simp [PyData.eqvAll]
  | [], _ :: _ => by simp [PyData.eqvAll]
  | _ :: _, [] => by simp [PyData.eqvAll]
  | x :: r, y :: q => by
    simp only [List.map_cons, PyData.eqvAll, PyData.eqv, eqvAll_ints r q]
    by_cases h : x = y
    · subst h; simp
    · simp [h]
theorem eqv_row (a b : Row) : PyData.eqv (rowD a) (rowD b) = decide (a = b) := by
  unfold rowD
  rw [PyData.eqv]
  exact eqvAll_ints a b
theorem anyRows (r : Row) : ∀ rows : List Row, ((rows.map rowD).any fun z => PyData.eqv z (rowD r)) = decide (r ∈ rows)
  | [] => by simp
  | x :: q => by
    rw [List.map_cons, List.any_cons, anyRows r q, eqv_row]
    by_cases h : x = r
    · subst h; simp
    · have h2 : ¬ r = x := fun e => h e.symm
      simp [h, h2]
/-! ### what is broken -/
def atF (fs : List Int) (p : Int) : Int := fs.getD p.toNat 0
def huesA (fs ps : List Int) : List Int := ps.map (atF fs)
def brk (fs : List Int) (wd : WD) : Bool := decide (huesA fs wd.1 ∈ wd.2)
def brkAt (fs : List Int) (wds : List WD) (k : Nat) : Bool := match wds[k]? with
  | some wd => brk fs wd
  | none => false
def broL (fs : List Int) (wds : List WD) (i : Nat) : List Int := ((List.range i).filter (brkAt fs wds)).map fun (k : Nat) => (k : Int)
theorem brkAt_of {fs : List Int} {wds : List WD} {k : Nat} {wd : WD} (h : wds[k]? = some wd) : brkAt fs wds k = brk fs wd := by
  unfold brkAt
  rw [h]
theorem broL_yes {fs : List Int} {wds : List WD} {i : Nat} (h : brkAt fs wds i = true) : broL fs wds (i + 1) = broL fs wds i ++ [(i : Int)] := by
  unfold broL
  rw [List.range_succ, List.filter_append, List.map_append]
  simp [h]
theorem broL_no {fs : List Int} {wds : List WD} {i : Nat} (h : brkAt fs wds i = false) : broL fs wds (i + 1) = broL fs wds i := by
  unfold broL
  rw [List.range_succ, List.filter_append, List.map_append]
  simp [h]
theorem broL_len (fs : List Int) (wds : List WD) (i : Nat) : (broL fs wds i).length ≤ i := by
  unfold broL
  rw [List.length_map]
  have q := List.length_filter_le (brkAt fs wds) (List.range i)
  rw [List.length_range] at q
  exact q
theorem broL_mem {fs : List Int} {wds : List WD} {i : Nat} {z : Int} (h : z ∈ broL fs wds i) : 0 ≤ z ∧ z < i := by
  unfold broL at h
  obtain ⟨k, hk, rfl⟩ := List.mem_map.mp h
  have := List.mem_range.mp (List.mem_filter.mp hk).1
  omega
theorem at_some {fs : List Int} {many hues : Int} {p : Int} (h : GoodF many hues fs) (h0 : 0 ≤ p) (h1 : p < many) : fs[p.toNat]? = some (atF fs p) := by
  have hl := h.len
  have hp : p.toNat < fs.length := by omega
  unfold atF
  rw [List.getD_eq_getElem?_getD, List.getElem?_eq_getElem hp]
  rfl
theorem atI_fs {fs : List Int} {many hues : Int} {p : Int} (h : GoodF many hues fs) (h0 : 0 ≤ p) (h1 : p < many) : atI (fs.map V.int) p = some (.int (atF fs p)) := by
  have e : p = ((p.toNat : Nat) : Int) := by omega
  have g : (fs.map V.int)[p.toNat]? = some (.int (atF fs p)) := by rw [List.getElem?_map, at_some h h0 h1]; rfl
  rw [e]
  rw [← e]
  have q := atI_nat g
  rw [← e] at q
  exact q
/-! ### riddles are fine data -/
theorem fine_row {r : Row} (h : ∀ z ∈ r, 0 ≤ z ∧ z < 64) (hl : r.length ≤ 8) : Fine (rowD r) 2 64 :=
  (Fine.tuple (fineAll_map r fun z hz => fine_int (h z hz).1 (h z hz).2)).mono (by omega) (by omega)
theorem fine_wish {many hues : Int} {wd : WD} (g : Good many hues wd) (hm : many ≤ 6) (hh : hues ≤ 4) : Fine (wishD wd) 4 5000 := by
  have a : Fine (rowD wd.1) 2 64 := fine_row (fun z hz => ⟨(g.pl z hz).1, by have := (g.pl z hz).2; omega⟩) (by have := g.three; omega)
  have b : Fine (.tuple (wd.2.map rowD)) 3 4200 := by
    refine (Fine.tuple (fineAll_map wd.2 fun r hr => fine_row (fun z hz => ⟨((g.row r hr).2 z hz).1, by have := ((g.row r hr).2 z hz).2; omega⟩) (by have := (g.row r hr).1; have := g.three; omega))).mono (Nat.le_refl _) ?_
    have := g.few
    omega
  exact (Fine.tuple (FineAll.cons (a.mono (by omega) (Nat.le_refl _)) (FineAll.cons b (FineAll.nil _)))).mono (Nat.le_refl _) (by omega)
theorem fine_rid {many hues : Int} {wds : List WD} (g : GoodR many hues wds) : Fine (ridD many hues wds) 6 50000 := by
  have c : Fine (.tuple (wds.map wishD)) 5 40100 := by
    refine (Fine.tuple (fineAll_map wds fun wd hw => fine_wish (g.each wd hw) g.m6 g.h4)).mono (Nat.le_refl _) ?_
    have := g.eight
    omega
  have m := fine_int (i := many) (by have := g.m1; omega) (by have := g.m6; omega)
  have h := fine_int (i := hues) (by have := g.h2; omega) (by have := g.h4; omega)
  exact (Fine.tuple (FineAll.cons (m.mono (by omega) (Nat.le_refl _)) (FineAll.cons (h.mono (by omega) (Nat.le_refl _)) (FineAll.cons c (FineAll.nil _))))).mono (Nat.le_refl _) (by omega)
theorem fine_fill {many hues : Int} {fs : List Int} (g : GoodF many hues fs) (hm : many ≤ 6) (hh : hues ≤ 4) : Fine (rowD fs) 2 64 :=
  fine_row (fun z hz => ⟨(g.hue z hz).1, by have := (g.hue z hz).2; omega⟩) (by have := g.len; omega)
theorem fine_bro (fs : List Int) (wds : List WD) {i : Nat} (h : i ≤ 8) : Fine (.list ((broL fs wds i).map .int)) 2 64 := by
  refine (Fine.list (fineAll_map (broL fs wds i) fun z hz => fine_int (broL_mem hz).1 (by have := (broL_mem hz).2; omega))).mono (by omega) ?_
  have := broL_len fs wds i
  omega
end Dt

set_option Elab.async false
set_option linter.all false
set_option maxRecDepth 100000
set_option maxHeartbeats 4000000
/-! sorted(xs) of tuples of small ints, any number of them -/
namespace Tt
open PySem PySem.Spec PyProof.Rows L2
def rk (h : Heap) (B : Int) (v : Value) : Int := TS.code B (TS.intsOf h v)
theorem swo_rk (f : Value → Int) : SrtO.Swo fun v u => decide (f v < f u) := by
  refine ⟨fun x y h => ?_, fun x y z h1 h2 => ?_⟩
  · have a := of_decide_eq_true h
    exact decide_eq_false (by omega)
  · have a := of_decide_eq_false h1
    have b := of_decide_eq_false h2
    exact decide_eq_false (by omega)
section
variable {prog : Program} {w : World} {A : Around} {E : Value → Shared → Prop} {s : Shared}
theorem cmp_tups {d : Nat} {B : Int} {vs : List Value} (x : TS.TupsOk s.heap d B vs) (r : Value → Int) (hr : ∀ v, v ∈ vs → ∀ ns, TS.TupInts s.heap v ns → r v = TS.code B ns) :
    SrtO.Cmp prog w A s (tuples' true) (fun p => p.1 ∈ vs) (SrtO.lt2 fun v u => decide (r v < r u)) := by
  intro p q hp hq
  obtain ⟨ns, tp, lp, bp⟩ := x _ hp
  obtain ⟨ms, tq, lq, bq⟩ := x _ hq
  show wpAny (model prog w) A (keyLt' (tuples' true) p.1 q.1) (fun b s' => s' = s ∧ b = decide (r p.1 < r q.1)) (fun _ _ => False) s
  rw [hr _ hp _ tp, hr _ hq _ tq]
  obtain ⟨a, xs, e1, ⟨o, ho, hc, n, hdt⟩, i⟩ := tp
  obtain ⟨a', ys, e2, ⟨o', ho', hc', n', hdt'⟩, i'⟩ := tq
  rw [e1, e2]
  refine PySem.W.kat_lt ho hdt ho' hdt' ?_
  have l1 := i.length
  have l2 := i'.length
  rw [Array.length_toList] at l1 l2
  rw [show decide (xs.size < ys.size) = false from decide_eq_false (by omega)]
  exact TS.lex_ints 0 i i' (by omega) bp bq ⟨rfl, rfl⟩
theorem sortable {a : Addr} {d : Nat} {B : Int} {vs : List Value} (hd : 1 ≤ d) (h2 : 2 ≤ vs.length) (x : TS.TupsOk s.heap d B vs) (ha : ∀ o, s.heap.get? a = some o → o.cls ≠ .type "tuple") (r : Value → Int) (hr : ∀ v, v ∈ vs → ∀ ns, TS.TupInts s.heap v ns → r v = TS.code B ns) :
    SrtO.SortableO prog w A s a vs fun v u => decide (r v < r u) := by
  intro h' keep
  have k2 : ∀ b o, s.heap.get? b = some o → o.cls = .type "tuple" → h'.get? b = some o := fun b o e c => keep b o (fun z => by subst z; exact ha o e c) e
  have x' := x.keeps k2
  obtain ⟨fs, kt, hl, hi⟩ := TS.firsts_of hd vs x'
  refine ⟨tuples' true, fun Q E hq => ?_, cmp_tups (s := { s with heap := h' }) x' r fun v hv ns t => ?_⟩
  · refine PySem.W.kat_kind (T := .type "int") kt (by omega) (fun f hm => ?_) (by rfl) ?_
    · obtain ⟨n, t, rfl⟩ := hi f hm
      exact PySem.W.Looks.of_pure rfl
    · rw [show (Value.type "int" != Value.type "tuple") = true by decide +kernel]
      exact hq
  · obtain ⟨n0, t0, _⟩ := x v hv
    rw [show ns = n0 from t.ints.symm.trans (t0.keeps k2).ints]
    exact hr v hv n0 t0
end
/-- sorted(xs): ts the tuples' places, k what stands at each -/
def rSortedT (K : PySem.W.Frag) : List V → Hp → VK → Prop := fun vs H Q => ∃ (a : Addr) (ts : List Addr) (k : Addr → List Int) (d : Nat) (B : Int), vs = [.ref a] ∧ SqL K H a (ts.map V.ref) ∧ 1 ≤ d ∧ (∀ t ∈ ts, H t = some (.tup ((k t).map V.int)) ∧ (k t).length = d ∧ TS.Bd B (k t)) ∧
  ∀ (ts' : List Addr) (p : Addr), ts'.Perm ts → ts'.Pairwise (fun u v => TS.code B (k u) ≤ TS.code B (k v)) → H p = none → Q (.ref p) (upd H p (.lst (ts'.map V.ref)))
theorem vals_refs : ∀ {ts : List Addr} {us : List Value}, Vals (ts.map V.ref) us → us = ts.map Value.ref
  | [], _, .nil => rfl
  | t :: r, _, .cons h q => by
    cases h
    rw [vals_refs q]
    rfl
theorem refs_vals : ∀ ts : List Addr, Vals (ts.map V.ref) (ts.map Value.ref)
  | [] => .nil
  | t :: r => .cons rfl (refs_vals r)
theorem cr_sortedT {X : Cx} : CallR X (.builtin "sorted") (rSortedT X.K) := by
  intro pins s σ H vs us Q I r h
  obtain ⟨a, ts, k, d, B, rfl, hs, hd, ht, q⟩ := h
  obtain ⟨its, rv, hl, hz⟩ := I.list hs
  obtain ⟨u, rfl, ru⟩ := vals1 r
  cases (show u = Value.ref a from ru)
  obtain rfl := vals_refs rv
  have tup : ∀ t ∈ ts, TS.TupInts s.heap (.ref t) (k t) := fun t hm => by
    obtain ⟨_, its, rr, hT⟩ := I.hok t _ (ht t hm).1
    exact ⟨t, its.toArray, rfl, hT, by simpa using rr.ints⟩
  have ok : TS.TupsOk s.heap d B (ts.map Value.ref) := fun v hv => by
    obtain ⟨t, hm, rfl⟩ := List.mem_map.mp hv
    exact ⟨k t, tup t hm, (ht t hm).2.1, (ht t hm).2.2⟩
  have rk_at : ∀ v ∈ ts.map Value.ref, ∀ ns, TS.TupInts s.heap v ns → rk s.heap B v = TS.code B ns := fun v _ ns t => by
    unfold rk
    rw [t.ints]
  refine SrtO.sorted_ord (swo_rk (rk s.heap B)) hl.isList (by rw [← rv.length]; exact hz) (fun h2 h₁ a' ha' kk => ?_) fun out so sb => ?_
  · have keep : ∀ b o, s.heap.get? b = some o → o.cls = .type "tuple" → h₁.get? b = some o := fun b o e _ => (kk b o e).2
    refine sortable (s := { s with heap := h₁ }) hd h2 (ok.keeps keep) (fun o e c => ?_) (rk s.heap B) fun v hv ns t => ?_
    · have e' := Option.some.inj (e.symm.trans ha')
      rw [e'] at c
      exact absurd (Value.type.inj c) (by decide)
    · obtain ⟨n0, t0, _⟩ := ok v hv
      rw [show ns = n0 from t.ints.symm.trans (t0.keeps keep).ints]
      exact rk_at v hv n0 t0
  · obtain ⟨ep, he⟩ := PyProof.Rows.sortedAll_at s.heap (ts.map Value.ref) out.toArray
    have pm := sb.perm
    obtain ⟨ts', rfl, pt⟩ : ∃ ts' : List Addr, out = ts'.map Value.ref ∧ ts'.Perm ts := by
      have back : ∀ v ∈ out, ∃ t, v = Value.ref t := fun v hv => by
        obtain ⟨t, _, e⟩ := List.mem_map.mp (pm.mem_iff.mp hv)
        exact ⟨t, e.symm⟩
      have g : ∀ l : List Value, (∀ v ∈ l, ∃ t, v = Value.ref t) → ∃ m : List Addr, l = m.map Value.ref := by
        intro l
        induction l with
        | nil => intro _; exact ⟨[], rfl⟩
        | cons v r ih =>
          intro hv
          obtain ⟨t, rfl⟩ := hv v List.mem_cons_self
          obtain ⟨m, rfl⟩ := ih fun z hz => hv z (List.mem_cons_of_mem _ hz)
          exact ⟨t :: m, rfl⟩
      obtain ⟨m, rfl⟩ := g out back
      let f : Value → Addr := fun v => match v with | .ref t => t | _ => 0
      have q2 := pm.map f
      rw [List.map_map, List.map_map] at q2
      have e1 : (f ∘ Value.ref) = id := by funext z; rfl
      rw [e1, List.map_id, List.map_id] at q2
      exact ⟨m, rfl, q2⟩
    refine ⟨.ref (s.heap.objs.size + 1), _, I.laid (t' := s.toks) (o := .lst (ts'.map V.ref)) (fun _ _ => PyProof.Rows.sortedAll_old) (Nat.le_succ _) ⟨?_, ts'.map Value.ref, ep, refs_vals ts', he⟩, rfl, q ts' _ pt ?_ (I.hok.fresh (Nat.le_succ _))⟩
    · rw [List.length_map, pt.length_eq]
      rw [List.length_map] at hz
      exact hz
    · have so2 := List.pairwise_map.mp so
      refine List.Pairwise.imp_of_mem (fun {x y} hx hy h => ?_) so2
      have h2 := of_decide_eq_false h
      unfold rk at h2
      rw [(tup x (pt.mem_iff.mp hx)).ints, (tup y (pt.mem_iff.mp hy)).ints] at h2
      omega
end Tt

set_option Elab.async false
set_option linter.all false
set_option maxRecDepth 100000
set_option maxHeartbeats 4000000
/-! the law's own call: tables of code objects tracked, and no repr under way around it -/
namespace Lg
open PySem PySem.Spec PyProof.Rows L2
/-- the def's body, run where A stands -/
theorem run_at {P : Program} {w : World} {K : PySem.W.Frag} {mg : Str → Option Value} {base : Heap} {k : Nat} {f : Addr} {x qual : Str} {st : Stmt} {fd : FuncData} {N ps : List Str} {A : Around} {outer : List Env} {s : Shared} {H : Hp} {args : Args} {us : List Value} {vs : List V} {Q : VK} {E : XK}
    (F : Fun K x qual st f fd) (S : FnScope N ps (defScope st)) (hr : Room (k + 1) A) (e0 : Env0 P w K mg base A outer s H) (hb : BindsTo s fd args (ps.zip us)) (r : Vals vs us) (hl : vs.length = ps.length)
    (body : ∀ cdv : Value, Room k (A.deeper (envOfC qual (defScope st) s.heap.objs.size f cdv)) → ∃ t, PSs (cxOf CX0 P w K mg base N qual (defScope st) f cdv A outer s H E).nox (defBody st) t ∧ t { nx := fun _ H' => Q .non H', rt := Q } (start N vs) H) :
    codeAny (model P w) A (.call (.ref f) args) (CR CX0 outer P w H s Q E) s := by
  obtain ⟨oc, od, kV, doc, pm, an, cdv, ct, osl, rfl, lk, hcd⟩ := F.ex
  have old : ∀ b o, base.get? b = some o → s.heap.get? b = some o := fun b o e => (e0.bs b o e).1
  have KX := e0.mod.kin.keeps old
  have lim := e0.mod.nolimit.keeps old
  obtain ⟨t, pt, ht⟩ := body cdv (hr.deeper _)
  refine codeAny_call_function hr.depth (KX _ _ lk) rfl S.co S.gen rfl (PySem.W.codeRec_of KX hcd) (hb _ _ _ _ (wpAny_newFunctionEnv_cells S.kind (fun y hy => ?_) fun env he s1 ic => ?_))
  · rcases S.par y.1 (List.of_mem_zip (show (y.1, y.2) ∈ ps.zip us from hy)).1 with z | z
    · exact .inl z
    · exact .inr ⟨z, PySem.W.cellsFrom_some _ _ _ (.inl z)⟩
  · subst he
    refine ⟨lim.keeps ic.toInCall.keep, codeAny_func (wpAny_mono (pt.nox.run [] s1 (start N vs) H _ (inv_start S hr.hd e0 hl r ic) ht) (fun fl s' q => ?_) fun _ _ q => q)⟩
    cases fl with
    | ret u => obtain ⟨v, σ', H', J, rv, q⟩ := q; exact ⟨v, H', J.os, J.bare, J.base, J.hok, rv, q⟩
    | next => obtain ⟨σ', H', J, q⟩ := q; exact ⟨.non, H', J.os, J.bare, J.base, J.hok, rfl, q⟩
    | brk => obtain ⟨_, _, _, q⟩ := q; exact q.elim
    | cont => obtain ⟨_, _, _, q⟩ := q; exact q.elim
/-- the abstract heap at the law's call: the tables, and the script where the top didn't write it -/
def H0 (K : PySem.W.Frag) (T : List Addr) (a : Addr) (o : Obj) (xs : List V) : Hp := fun b => if b ∈ T then some (.tbl #[]) else if b = a ∧ K.lookup a = none then some (.frz o (.lst xs)) else none
theorem H0_three (K : PySem.W.Frag) (T : List Addr) (a : Addr) (o : Obj) (xs : List V) (b : Addr) : (b ∈ T ∧ H0 K T a o xs b = some (.tbl #[])) ∨ (b = a ∧ K.lookup a = none ∧ H0 K T a o xs b = some (.frz o (.lst xs))) ∨ (H0 K T a o xs b = none ∧ b ∉ T) := by
  unfold H0
  by_cases h : b ∈ T
  · exact .inl ⟨h, if_pos h⟩
  · by_cases h2 : b = a ∧ K.lookup a = none
    · exact .inr (.inl ⟨h2.1, h2.2, by rw [if_neg h, if_pos h2]⟩)
    · exact .inr (.inr ⟨by rw [if_neg h, if_neg h2], h⟩)
theorem law_at {P : Program} {w : World} {K : PySem.W.Frag} {mg mb : Str → Option Value} {k : Nat} {fa a : Addr} {cs : List (Addr × Addr)} {x qual : Str} {st : Stmt} {fd : FuncData} {N : List Str} {par : Str} {s : Shared} {vs : List Value} {ns : List Int}
    (KX : K.In s.heap) (hns : s.heap.Ns mainGlobals mg) (hbl : s.heap.Ns builtinsNs mb) (hbb : ∀ x : Str, x ≠ "__name__" → mb x = bootBuiltins x) (hlim : s.heap.NoLimit) (hg : s.gens = #[])
    (hT : ∀ p ∈ cs, s.heap.get? p.2 = some { cls := .none, data := .fields #[] }) (nT : ∀ p ∈ cs, K.lookup p.2 = none) (hC : ∀ p ∈ cs, PySem.W.CodeHd s.heap p.1 p.2)
    (hbm : ∃ (bm : Addr) (ob : Obj), mg "__builtins__" = some (.ref bm) ∧ bm ≠ builtinsNs ∧ s.heap.get? bm = some ob ∧ ob.cls = .type "module" ∧ ob.dict = some builtinsNs ∧ ob.data = .plain)
    (ha : s.heap.get? a = some { cls := .type "list", data := .seq vs.toArray }) (hi : IntsAre vs ns) (hlen : ns.length ≤ sizeLine) (hr : Room (k + 1) callerA)
    (F : Fun K x qual st fa fd) (S : FnScope N [par] (defScope st)) (hb : ∀ (s : Shared) (u : Value), BindsTo s fd ⟨[u], []⟩ [(par, u)])
    (body : ∀ (base : Heap) (H : Hp) (cdv : Value), K.In base → base.Ns mainGlobals mg → (∀ p ∈ cs, GxR.TabB base mg p.1 p.2) → (∀ p ∈ cs, H p.2 = some (.tbl #[])) → SqL K H a (ns.map V.int) → Room k (callerA.deeper (envOfC qual (defScope st) s.heap.objs.size fa cdv)) →
      ∃ t, PSs (cxOf CX0 P w K mg base N qual (defScope st) fa cdv callerA [] s H (fun _ _ _ => False)).nox (defBody st) t ∧ t { nx := fun _ _ => False, rt := fun v _ => v = .bl true } (start N [.ref a]) H) :
    codeAny (model P w) callerA (.call (.ref fa) ⟨[.ref a], []⟩) (fun r s' => r = .ok (.ret (.bool true)) ∧ OldK s.heap s'.heap ∧ s'.os = s.os ∧ AllBare s'.gens) s := by
  have rv := vals_ints hi
  have lv := hi.length
  generalize hso : ({ cls := .type "list", data := .seq vs.toArray } : Obj) = so at ha
  have inT : ∀ b, b ∈ cs.map (·.2) → s.heap.get? b = some { cls := .none, data := .fields #[] } ∧ K.lookup b = none := fun b h => by
    obtain ⟨p, hp, rfl⟩ := List.mem_map.mp h
    exact ⟨hT p hp, nT p hp⟩
  generalize hH : H0 K (cs.map (·.2)) a so (ns.map V.int) = H
  have three := H0_three K (cs.map (·.2)) a so (ns.map V.int)
  rw [hH] at three
  -- an object of another kind isn't tracked
  have clean : ∀ b o, s.heap.get? b = some o → o.data ≠ .fields #[] → (∀ v n, o.data ≠ .seq v n) → H b = none := fun b o e h1 h2 => by
    rcases three b with ⟨z, _⟩ | ⟨z, _, _⟩ | ⟨z, _⟩
    · rw [(inT b z).1] at e; cases e; exact absurd rfl h1
    · rw [z, ha, ← hso] at e; cases e; exact absurd rfl (h2 _ _)
    · exact z
  have low : ∀ b o, s.heap.get? b = some o → o.data ≠ .fields #[] → (∀ v n, o.data ≠ .seq v n) → (hidT s.heap H).get? b = some o := fun b o e h1 h2 => hidT_get e (clean b o e h1 h2)
  have lowNs : ∀ b m, s.heap.Ns b m → (hidT s.heap H).Ns b m := fun b m ⟨o, es, ep, e, d, q⟩ => ⟨o, es, ep, low b o e (by rw [d]; exact fun z => nomatch z) (by rw [d]; exact fun _ _ z => nomatch z), d, q⟩
  have kb : K.In (hidT s.heap H) := fun b o e => hidT_get (KX b o e) (by
    rcases three b with ⟨z, _⟩ | ⟨z, q, _⟩ | ⟨z, _⟩
    · rw [(inT b z).2] at e; cases e
    · rw [z, q] at e; cases e
    · exact z)
  have hok : HOk P w H s.heap := fun b u e => by
    rcases three b with ⟨z, q⟩ | ⟨z, _, q⟩ | ⟨q, _⟩
    · rw [e] at q; cases q; exact (inT b z).1
    · rw [e] at q; cases q; rw [z]; exact ⟨ha, by rw [List.length_map]; exact hlen, vs, 0, rv, by rw [ha, ← hso]⟩
    · rw [e] at q; cases q
  have tb : ∀ p ∈ cs, GxR.TabB (hidT s.heap H) mg p.1 p.2 := fun p hp => by
    refine ⟨?_, ?_, fun z => ?_⟩
    · obtain ⟨o, us, fl, t1, fg, t2, b1, tx, t3, e1, e2, e3, e4, rest⟩ := hC p hp
      exact ⟨o, us, fl, t1, fg, t2, b1, tx, t3, low _ _ e1 (by rw [e3]; intro z; cases z; simp at e4) (by rw [e3]; exact fun _ _ z => nomatch z), e2, e3, e4, rest⟩
    · obtain ⟨bm, ob, m1, m2, m3, m4, m5, m6⟩ := hbm
      refine ⟨bm, ob, m1, m2, fun z => ?_, fun z => ?_, low _ _ m3 (by rw [m6]; exact fun z => nomatch z) (by rw [m6]; exact fun _ _ z => nomatch z), m4, m5, m6⟩
      · obtain ⟨o, es, ep, e, d, _⟩ := hns
        rw [z, e] at m3; cases m3; rw [d] at m6; cases m6
      · rw [z, hT p hp] at m3; cases m3; cases m6
    · obtain ⟨o, es, ep, e, d, _⟩ := hns
      rw [z, hT p hp] at e; cases e; cases d
  have tabH : ∀ p ∈ cs, H p.2 = some (.tbl #[]) := fun p hp => by
    have hm : p.2 ∈ cs.map (·.2) := List.mem_map.mpr ⟨p, hp, rfl⟩
    rcases three p.2 with ⟨_, q⟩ | ⟨z, _, _⟩ | ⟨_, q⟩
    · exact q
    · have e := (inT _ hm).1
      rw [z, ha, ← hso] at e; cases e
    · exact absurd hm q
  have hS : SqL K H a (ns.map V.int) := by
    rcases three a with ⟨z, _⟩ | ⟨_, _, q⟩ | ⟨q, nt⟩
    · have e := (inT a z).1
      rw [ha, ← hso] at e; cases e
    · exact .inl (.inr ⟨so, q⟩)
    · cases e : K.lookup a with
      | none => rw [← hH] at q; unfold H0 at q; rw [if_neg nt, if_pos ⟨rfl, e⟩] at q; cases q
      | some o =>
        have e2 := KX a o e
        rw [ha, ← hso] at e2; cases e2
        exact .inr ⟨_, vs.toArray, _, e, rfl, rfl, rfl, by rw [List.size_toArray, lv]; exact hlen, by simpa using rv⟩
  have e0 : Env0 P w K mg (hidT s.heap H) callerA [] s H := ⟨rfl, ⟨kb, lowNs _ _ hns, ⟨mb, lowNs _ _ hbl, hbb⟩, let ⟨mc, q1, q2⟩ := hlim; ⟨mc, lowNs _ _ q1, q2⟩⟩, fun b o e => of_hidT e, Nat.le_of_eq (hidT_size _ _), trivial, (fun b z => nomatch z), hok, .of_eq hg⟩
  refine codeAny_mono (run_at (vs := [.ref a]) (us := [.ref a]) (Q := fun v _ => v = .bl true) (E := fun _ _ _ => False) F S hr e0 (hb s (.ref a)) (.cons rfl .nil) rfl fun cdv hrm => ?_) fun r s' h => ?_
  · obtain ⟨t, p1, p2⟩ := body _ H cdv kb (lowNs _ _ hns) tb tabH hS hrm
    refine ⟨t, p1, ?_⟩
    have e : (fun (_ : L2.St) (H' : Hp) => (fun (v : V) (_ : Hp) => v = V.bl true) V.non H') = fun _ _ => False := by
      funext _ _
      exact propext ⟨(fun z => nomatch z), fun z => z.elim⟩
    rw [e]
    exact p2
  · match r, h with
    | .ok (.ret u), h =>
      obtain ⟨v, H', os, bare, un, hok', r', q⟩ := h
      obtain rfl : v = .bl true := q
      obtain rfl : u = Value.bool true := r'
      have grown : ∀ p ∈ cs, ∃ more : Array Value, s'.heap.get? p.2 = some { cls := .none, data := .fields more } := fun p hp => by
        obtain ⟨more, z⟩ := un.tbls p.2 #[] (tabH p hp)
        exact ⟨_, hok' p.2 _ z⟩
      have kept : ∀ b o, b ∉ cs.map (·.2) → s.heap.get? b = some o → s'.heap.get? b = some o := fun b o nb e => by
        rcases three b with ⟨z, _⟩ | ⟨z, _, q⟩ | ⟨q, _⟩
        · exact absurd z nb
        · have z2 := hok' b _ (un.frzs b so _ q)
          rw [z, ha] at e
          cases e
          exact z2.1
        · exact un.keep b o e q (by intro z; cases z) (by intro z; cases z)
      refine ⟨rfl, ⟨fun b o e => ?_, fun b o e => ?_⟩, os, bare⟩
      · by_cases hm : b ∈ cs.map (·.2)
        · obtain ⟨p, hp, rfl⟩ := List.mem_map.mp hm
          obtain ⟨more, z⟩ := grown p hp
          rw [hT p hp] at e
          cases e
          exact .inr (.inl ⟨((hC p hp).tab (hT p hp)).isCodeTable, rfl, #[], more, rfl, by rw [Array.empty_append]; exact z⟩)
        · exact .inl (kept b o hm e)
      · by_cases hm : b ∈ cs.map (·.2)
        · obtain ⟨p, hp, rfl⟩ := List.mem_map.mp hm
          obtain ⟨more, z⟩ := grown p hp
          exact ⟨_, z⟩
        · exact ⟨o, kept b o hm e⟩
/-! ### repr of data -/
/-- repr(x), x data -/
theorem call_repr {X : Cx} (hg : X.A.guards = some []) (hu : X.A.units + 64 < cLine) : CallR X (.builtin "repr") (fun xs H Q => ∃ (a : Addr) (d : PyData), xs = [.ref a] ∧ Dp X.K H (.ref a) d ∧ d.showable = true ∧ d.hasDict = false ∧ d.depth < 63 ∧ d.shown.length ≤ sizeLine ∧ Q (.str d.shown) H) := by
  intro pins s σ H xs us Q I r h
  obtain ⟨a, d, rfl, hd, h1, h2, h3, h4, q⟩ := h
  obtain ⟨u, rfl, ru⟩ := vals1 r
  obtain ⟨as, rd⟩ := Dp.reads I d _ u hd ru
  cases (show u = Value.ref a from ru)
  refine repr_of_reads' rd h1 (fun e => by rw [h2] at e; cases e) hg (by omega) (fun _ _ e => e) (fun h' u tk hk => ?_) h4
  exact ⟨.str d.shown, H, I.kept (t' := _) hk, ⟨_, rfl⟩, q⟩
end Lg

set_option Elab.async false
set_option linter.all false
set_option maxRecDepth 100000
set_option maxHeartbeats 4000000
namespace Lg
open PySem PySem.Spec PyProof.Rows L2
/-- the code object and the table of the def named x -/
def TabOf (mg : Str → Option Value) (h : Heap) (x : Str) (p : Addr × Addr) : Prop :=
  ∃ (a : Addr) (o : Obj) (fd : FuncData), mg x = some (.ref a) ∧ h.get? a = some o ∧ o.data = .func fd ∧ fd.code = .ref p.1 ∧ PySem.W.CodeHd h p.1 p.2 ∧ h.get? p.2 = some { cls := .none, data := .fields #[] }
theorem TabOf.code {K : PySem.W.Frag} {mg : Str → Option Value} {h : Heap} {x : Str} {p : Addr × Addr} {f : Addr} {cl : Value} {dd : Option Addr} {fd : FuncData} {sl : Array (Option Value)} (T : TabOf mg h x p) (X : K.In h) (hf : mg x = some (.ref f)) (l : K.lookup f = some ⟨cl, dd, .func fd, sl⟩) : fd.code = .ref p.1 := by
  obtain ⟨a, o, fd', h1, h2, h3, h4, _⟩ := T
  rw [hf] at h1
  cases h1
  rw [X _ _ l] at h2
  cases h2
  cases h3
  exact h4
theorem no_tab {K : PySem.W.Frag} {h : Heap} {P : Addr} (X : K.In h) (hK : PySem.W.noTabs K = true) (e : h.get? P = some { cls := .none, data := .fields #[] }) : K.lookup P = none := by
  cases z : K.lookup P with
  | none => rfl
  | some o =>
    have z2 := X _ _ z
    rw [e] at z2
    cases z2
    exact absurd (show false = true from List.all_eq_true.mp hK (P, _) (PySem.W.mem_of_lookupK z)) Bool.false_ne_true
theorem walk_of {l : PySem.W.OpenLaw} {n k : Nat} {q : Program} {loose : List Str} {XP : (Str → Option Value) → Heap → Prop} {YP : World → Heap → Prop} {d : DefRec} {K : Params → PySem.W.Frag} {x qual par : Str} {st : Stmt} {N : List Str} (names : List Str)
    (hn : l.most = some n) (hn2 : n ≤ sizeLine) (hdf : d.params.defaults = []) (hr : Room (k + 1) callerA) (hrec : (names.all fun y => (recsOf q).any fun e => e.name == y) = true) (hK : ∀ w : World, PySem.W.noTabs (K w.params) = true) (hY : ∀ (w : World) (h : Heap), YP w h → (K w.params).In h) (S : FnScope N [par] (defScope st))
    (F : ∀ (w : World) (mg : Str → Option Value) (fa : Addr) (h : Heap) (tb : Str → Addr × Addr), (K w.params).In h → h.Ns mainGlobals mg → mg d.name = some (.ref fa) → (∀ y ∈ names, TabOf mg h y (tb y)) →
      ∃ fd : FuncData, Fun (K w.params) x qual st fa fd ∧ (∀ (s : Shared) (u : Value), BindsTo s fd ⟨[u], []⟩ [(par, u)]) ∧ ∀ (base : Heap) (H : Hp) (cdv : Value) (a : Addr) (ns : List Int) (s : Shared), (K w.params).In base → base.Ns mainGlobals mg → (∀ y ∈ names, GxR.TabB base mg (tb y).1 (tb y).2) → (∀ y ∈ names, H (tb y).2 = some (.tbl #[])) → ns.length ≤ n → (∀ z ∈ ns, Builtin.Int.intBits z ≤ 1048576) → SqL (K w.params) H a (ns.map V.int) → Room k (callerA.deeper (envOfC qual (defScope st) s.heap.objs.size fa cdv)) →
        ∃ t, PSs (cxOf CX0 l.prog w (K w.params) mg base N qual (defScope st) fa cdv callerA [] s H (fun _ _ _ => False)).nox (defBody st) t ∧ t { nx := fun _ _ => False, rt := fun v _ => v = .bl true } (start N [.ref a]) H) :
    PySem.W.WalkO q loose XP YP l.row.toRowW d [] (fun f vs => PySem.call f vs) := by
  refine Att.attach_callB hn hdf fun w s₀ s₁ mg mb fa o pm cd doc a vs ns G Y ho hd hcd hmg hobj hints hlen hbits hg => ?_
  have KX := hY w _ Y
  have ex : ∀ y : Str, ∃ p : Addr × Addr, y ∈ names → TabOf mg s₁.heap y p := fun y => by
    by_cases hy : y ∈ names
    · obtain ⟨dL, hm, hn1⟩ := List.any_eq_true.mp (List.all_eq_true.mp hrec y hy)
      have hn2 : dL.name = y := beq_iff_eq.mp hn1
      obtain ⟨a', o', fd', c', P', h1, h2, h3, h4, h5, h6⟩ := G.T.tab dL hm
      rw [hn2] at h1
      exact ⟨(c', P'), fun _ => ⟨a', o', fd', h1, h2, h3, h4, PySem.W.CodeHd.of h5 h6, h6.2⟩⟩
    · exact ⟨(0, 0), fun z => absurd z hy⟩
  have tbx : ∃ tb : Str → Addr × Addr, ∀ y ∈ names, TabOf mg s₁.heap y (tb y) := ⟨fun y => Classical.choose (ex y), fun y => Classical.choose_spec (ex y)⟩
  obtain ⟨tb, ht⟩ := tbx
  obtain ⟨fd, hF, hb, body⟩ := F w mg fa _ tb KX G.T.g hmg ht
  have cm : ∀ p ∈ names.map tb, ∃ y ∈ names, tb y = p := fun p hp => List.mem_map.mp hp
  refine law_at (cs := names.map tb) KX G.T.g G.T.b G.T.builtins G.T.nolimit hg (fun p hp => ?_) (fun p hp => ?_) (fun p hp => ?_) G.T.bmain hobj hints (Nat.le_trans hlen hn2) hr hF S hb fun base H cdv kb gn tB tH hS hrm => body base H cdv a ns s₁ kb gn (fun y hy => tB _ (List.mem_map_of_mem hy)) (fun y hy => tH _ (List.mem_map_of_mem hy)) hlen hbits hS hrm
  · obtain ⟨y, hy, rfl⟩ := cm p hp
    obtain ⟨_, _, _, _, _, _, _, _, z⟩ := ht y hy
    exact z
  · obtain ⟨y, hy, rfl⟩ := cm p hp
    obtain ⟨_, _, _, _, _, _, _, _, z⟩ := ht y hy
    exact no_tab KX (hK w) z
  · obtain ⟨y, hy, rfl⟩ := cm p hp
    obtain ⟨_, _, _, _, _, _, _, z, _⟩ := ht y hy
    exact z
end Lg

set_option Elab.async false
set_option linter.all false
set_option maxRecDepth 100000
set_option maxHeartbeats 4000000
/-! fillings, counts, clashes: the data -/
namespace Dt
open PySem PySem.Spec PyProof.Rows L2
def longer (hues : Nat) (f : List Int) : List (List Int) := (List.range hues).map fun (h : Nat) => f ++ [(h : Int)]
def fillL (hues : Nat) : Nat → List (List Int)
  | 0 => [[]]
  | n + 1 => (fillL hues n).flatMap (longer hues)
theorem fill_good {hues : Nat} : ∀ {n : Nat} {f : List Int}, f ∈ fillL hues n → f.length = n ∧ ∀ h ∈ f, 0 ≤ h ∧ h < (hues : Int)
  | 0, f, h => by
    cases List.mem_singleton.mp h
    exact ⟨rfl, fun _ z => nomatch z⟩
  | n + 1, f, h => by
    obtain ⟨g, hg, hf⟩ := List.mem_flatMap.mp h
    obtain ⟨k, hk, rfl⟩ := List.mem_map.mp hf
    obtain ⟨l, a⟩ := fill_good hg
    have hk := List.mem_range.mp hk
    refine ⟨by simp [l], fun z hz => ?_⟩
    rcases List.mem_append.mp hz with q | q
    · exact a z q
    · cases List.mem_singleton.mp q
      omega
theorem longer_len (hues : Nat) (f : List Int) : (longer hues f).length = hues := by simp [longer]
theorem flat_len {hues : Nat} : ∀ l : List (List Int), (l.flatMap (longer hues)).length = l.length * hues
  | [] => by simp
  | f :: r => by rw [List.flatMap_cons, List.length_append, longer_len, flat_len r, List.length_cons, Nat.succ_mul, Nat.add_comm]
theorem fill_len (hues : Nat) : ∀ n : Nat, (fillL hues n).length = hues ^ n
  | 0 => by simp [fillL]
  | n + 1 => by rw [fillL, flat_len, fill_len hues n, Nat.pow_succ]
theorem fill_goodF {many hues : Int} (m0 : 0 ≤ many) (h0 : 0 ≤ hues) {f : List Int} (h : f ∈ fillL hues.toNat many.toNat) : GoodF many hues f := by
  obtain ⟨a, b⟩ := fill_good h
  exact ⟨by omega, fun z hz => by have := b z hz; omega⟩
theorem pow_le_4096 {h n : Nat} (hh : h ≤ 4) (hn : n ≤ 6) : h ^ n ≤ 4096 := by
  have a : h ^ n ≤ 4 ^ n := Nat.pow_le_pow_left hh n
  have b : 4 ^ n ≤ 4 ^ 6 := Nat.pow_le_pow_right (by decide) hn
  have c : (4 : Nat) ^ 6 = 4096 := by decide
  omega
/-! ### counts -/
def bump (ns : List Int) (i : Nat) : List Int := ns.set i (ns.getD i 0 + 1)
def cnt0 (wds : List WD) : List Int := List.replicate (wds.length + 1) 0
def cntL (wds : List WD) (fss : List (List Int)) : List Int := fss.foldl (fun ns f => bump ns (broL f wds wds.length).length) (cnt0 wds)
theorem cnt_snoc (wds : List WD) (fss : List (List Int)) (f : List Int) : cntL wds (fss ++ [f]) = bump (cntL wds fss) (broL f wds wds.length).length := by
  unfold cntL
  rw [List.foldl_append]
  rfl
theorem bump_len (ns : List Int) (i : Nat) : (bump ns i).length = ns.length := by simp [bump]
theorem foldl_len (wds : List WD) : ∀ (fss : List (List Int)) (ns : List Int), (fss.foldl (fun ns f => bump ns (broL f wds wds.length).length) ns).length = ns.length
  | [], _ => rfl
  | f :: r, ns => by rw [List.foldl_cons, foldl_len wds r, bump_len]
theorem cnt_len (wds : List WD) (fss : List (List Int)) : (cntL wds fss).length = wds.length + 1 := by
  unfold cntL
  rw [foldl_len]
  simp [cnt0]
theorem bump_mem {ns : List Int} {i : Nat} {b : Int} (h : ∀ z ∈ ns, 0 ≤ z ∧ z ≤ b) (hb : 0 ≤ b) : ∀ z ∈ bump ns i, 0 ≤ z ∧ z ≤ b + 1 := fun z hz => by
  unfold bump at hz
  rcases List.mem_or_eq_of_mem_set hz with q | q
  · have := h z q; omega
  · subst q
    rw [List.getD_eq_getElem?_getD]
    cases e : ns[i]? with
    | none => simp; omega
    | some x => have := h x (List.mem_of_getElem? e); simp; omega
theorem foldl_mem (wds : List WD) : ∀ (fss : List (List Int)) (ns : List Int) (b : Int), 0 ≤ b → (∀ z ∈ ns, 0 ≤ z ∧ z ≤ b) → ∀ z ∈ fss.foldl (fun ns f => bump ns (broL f wds wds.length).length) ns, 0 ≤ z ∧ z ≤ b + fss.length
  | [], _, b, _, h => fun z hz => by have := h z hz; simp; omega
  | f :: r, ns, b, hb, h => fun z hz => by
    have := foldl_mem wds r (bump ns (broL f wds wds.length).length) (b + 1) (by omega) (bump_mem h hb) z hz
    rw [List.length_cons]
    omega
theorem cnt_mem (wds : List WD) (fss : List (List Int)) : ∀ z ∈ cntL wds fss, 0 ≤ z ∧ z ≤ fss.length := fun z hz => by
  have := foldl_mem wds fss (cnt0 wds) 0 (by omega) (fun z hz => by
    have := List.eq_of_mem_replicate hz
    omega) z hz
  omega
theorem bump_eq {ns : List Int} {i : Nat} {x : Int} (h : ns[i]? = some x) : bump ns i = ns.set i (x + 1) := by
  unfold bump
  rw [List.getD_eq_getElem?_getD, h]
  rfl
/-! ### clashes -/
def clB (a b : WD) : Bool := a.1.any fun p => decide (p ∈ b.1)
theorem clB_comm (a b : WD) : clB a b = clB b a := by
  rw [Bool.eq_iff_iff]
  unfold clB
  simp only [List.any_eq_true, decide_eq_true_eq]
  exact ⟨fun ⟨x, h1, h2⟩ => ⟨x, h2, h1⟩, fun ⟨x, h1, h2⟩ => ⟨x, h2, h1⟩⟩
def clAt (wds : List WD) (a : WD) (k : Nat) : Bool := match wds[k]? with
  | some wd => clB a wd
  | none => false
def clsL (wds : List WD) (a : WD) (i : Nat) : List Int := ((List.range i).filter (clAt wds a)).map fun (k : Nat) => (k : Int)
theorem clAt_of {wds : List WD} {a wd : WD} {k : Nat} (h : wds[k]? = some wd) : clAt wds a k = clB a wd := by
  unfold clAt
  rw [h]
theorem clsL_yes {wds : List WD} {a : WD} {i : Nat} (h : clAt wds a i = true) : clsL wds a (i + 1) = clsL wds a i ++ [(i : Int)] := by
  unfold clsL
  rw [List.range_succ, List.filter_append, List.map_append]
  simp [h]
theorem clsL_no {wds : List WD} {a : WD} {i : Nat} (h : clAt wds a i = false) : clsL wds a (i + 1) = clsL wds a i := by
  unfold clsL
  rw [List.range_succ, List.filter_append, List.map_append]
  simp [h]
theorem clsL_len (wds : List WD) (a : WD) (i : Nat) : (clsL wds a i).length ≤ i := by
  unfold clsL
  rw [List.length_map]
  have q := List.length_filter_le (clAt wds a) (List.range i)
  rw [List.length_range] at q
  exact q
theorem clsL_mem {wds : List WD} {a : WD} {i : Nat} {z : Int} (h : z ∈ clsL wds a i) : 0 ≤ z ∧ z < i := by
  unfold clsL at h
  obtain ⟨k, hk, rfl⟩ := List.mem_map.mp h
  have := List.mem_range.mp (List.mem_filter.mp hk).1
  omega
def clsAll (wds : List WD) : List (List Int) := wds.map fun wd => clsL wds wd wds.length
/-! ### fine data -/
theorem short_int (m : Nat) (h : m < 10 ^ 10) : PyData.intsShort 13 (.int (m : Int)) = true := by
  have e := (Nat.length_repr_le_iff (n := m) (by decide : 0 < 10)).mpr h
  show decide ((Str.ofString (Nat.repr m)).length ≤ 13) = true
  rw [decide_eq_true_eq, Str.ofString_eq_toList]
  have z : (Str.mk ((Nat.repr m).toList.map Char.toNat).toArray).length = (Nat.repr m).length := by
    show ((Nat.repr m).toList.map Char.toNat).toArray.size = _
    rw [List.size_toArray, List.length_map, String.length_toList]
  omega
theorem fine_intM {i : Int} (h0 : 0 ≤ i) (h1 : i < 5000) : Fine (.int i) 1 14 := by
  obtain ⟨n, rfl⟩ : ∃ n : Nat, i = n := ⟨i.toNat, by omega⟩
  have hn : n < 5000 := by omega
  have hl : n.log2 ≤ 12 := by
    by_cases e : n = 0
    · subst e; decide
    · have := (Nat.log2_lt e).mpr (show n < 2 ^ 13 by omega)
      omega
  refine ⟨rfl, by simp [PyData.depth], ?_, ?_, rfl, short_int n (by omega)⟩
  · simp only [PyData.weight]
    split
    · omega
    · have e : ((n : Int)).natAbs = n := by omega
      rw [e]
      omega
  · simp only [PyData.showable]
    have e : ((n : Int)).natAbs = n := by omega
    rw [e]
    exact decide_eq_true (by omega)
theorem fine_ints {ns : List Int} (h : ∀ z ∈ ns, 0 ≤ z ∧ z < 5000) : Fine (.list (ns.map .int)) 2 (ns.length * 15) :=
  (Fine.list (fineAll_map ns fun z hz => fine_intM (h z hz).1 (h z hz).2)).mono (by omega) (by omega)
def listsD (ls : List (List Int)) : PyData := .list (ls.map fun l => .list (l.map .int))
theorem fine_lists {ls : List (List Int)} (hl : ls.length ≤ 300) (h : ∀ l ∈ ls, l.length ≤ 20 ∧ ∀ z ∈ l, 0 ≤ z ∧ z < 5000) : Fine (listsD ls) 3 100000 := by
  refine (Fine.list (fineAll_map (n := 2) (w := 300) ls fun l hl => (fine_ints (h l hl).2).mono (Nat.le_refl _) (by have := (h l hl).1; omega))).mono (by omega) (by omega)
end Dt

set_option Elab.async false
set_option linter.all false
set_option maxRecDepth 100000
set_option maxHeartbeats 4000000
/-! elements of generator expressions: x in f[0] -/
namespace Gv
open PySem PySem.Spec PyProof.Rows L2
variable {X : Cx} {pins : List (Addr × Obj)} {σ : L2.St}
theorem reads_ints (h : Heap) : ∀ (ns : List Int) (us : List Value), Vals (ns.map V.int) us → ∃ as, ReadsAll h us (ns.map PyData.int) as
  | [], _, r => by cases r; exact ⟨_, .nil⟩
  | n :: q, _, r => by
    cases r with
    | cons r1 r2 =>
      obtain ⟨as, z⟩ := reads_ints h q _ r2
      obtain ⟨t, rfl⟩ := r1
      exact ⟨_, .cons (.int n t) z⟩
theorem canAll_ints : ∀ ns : List Int, PyData.canLayAll0 (ns.map PyData.int) = true
  | [] => rfl
  | n :: q => by simp only [List.map_cons, PyData.canLayAll0, PyData.canLay0, canAll_ints q, Bool.and_self]
theorem any_ints (n : Int) : ∀ ns : List Int, ((ns.map PyData.int).any fun y => PyData.eqv y (.int n)) = decide (n ∈ ns)
  | [] => by simp
  | m :: q => by
    rw [List.map_cons, List.any_cons, any_ints n q]
    by_cases e : m = n
    · subst e; simp [PyData.eqv]
    · have e2 : ¬ n = m := fun z => e z.symm
      simp [PyData.eqv, e, e2]
theorem elt_in0 {f x : Str} {scope : Scope} {P fa pa : Addr} {H1 : Hp} {xs ys zs : List V} {ns : List Int} {j jj : Nat} {p1 p2 p3 p4 p5 : Pos} (hk : scope.kind = .function) (hx : scope.names.lookup x = some .local) (hf : scope.names.lookup f = some .free)
    (hcl : (cloFrom X.env.cells scope.names []).lookup f = some ((X.env.cells.lookup f).getD 0)) (hj : X.N[j]? = some f) (hkf : X.env.kindOf f = some .cell) (hσ : σ[j]? = some (some (.ref fa))) (hq : SqT X.K H1 fa (.ref pa :: zs)) (hp : SqT X.K H1 pa (ns.map V.int)) (hT : GxR.TabG H1 P) (hu : X.A.units + 64 < cLine)
    (hv : ∀ (i : Nat) x0, xs[i]? = some x0 → ∃ (n : Int), x0 = .int n ∧ ys[i]? = some (.bl (decide (n ∈ ns)))) (hdf : (f == ("__debug__" : Str)) = false := by decide) (hdx : (x == ("__debug__" : Str)) = false := by decide) (hcf : (f == ("__classdict__" : Str)) = false := by decide) :
    EltV X pins σ scope x (.Compare (.Name x p1) [.In] [.Subscript (.Name f p2) (.Constant (.int 0) jj p3) p4] p5) P H1 xs ys := by
  intro s1 t C code bi A' E' i x0 u m I hA hU hx0 ru hn hm hkp
  obtain ⟨n, rfl, hy⟩ := hv i x0 hx0
  obtain ⟨tk, rfl⟩ := (show ∃ t, u = Value.int n t from ru)
  obtain ⟨ps, hP, _⟩ := hT
  have tabS : s1.heap.get? P = some { cls := .none, data := .fields ps } := I.hok P _ hP
  obtain ⟨m1, _, hl⟩ := I.loc
  obtain ⟨uf, rf, lk⟩ := hl j f _ hj hσ (.inr (.inl hkf))
  cases (show uf = Value.ref fa from rf)
  obtain ⟨c, hc, ic⟩ : ∃ c, X.env.cells.lookup f = some c ∧ s1.heap.IsCell c (some (.ref fa)) := by
    rcases lk with ⟨z, _⟩ | ⟨_, c, hc, ic⟩
    · rw [hkf] at z; cases z
    · exact ⟨c, hc, ic⟩
  have ic2 : t.heap.IsCell c (some (.ref fa)) := by
    obtain ⟨o, ho, hd⟩ := ic
    refine ⟨o, hkp c o (fun z => ?_) ho, hd⟩
    rw [z, tabS] at ho
    cases ho
    cases hd
  have tup2 : ∀ {a : Addr} {its : Array Value}, IsTup s1.heap a its → IsTup t.heap a its := fun {a its} pl => by
    obtain ⟨o, ho, hcl', nn, hd⟩ := pl
    refine ⟨o, hkp a o (fun z => ?_) ho, hcl', nn, hd⟩
    rw [z, tabS] at ho
    cases ho
    cases hd
  obtain ⟨its, rv, pl, hz⟩ := I.tuple hq
  have pl2 := tup2 pl
  obtain ⟨its2, rv2, plb, hz2⟩ := I.tuple hp
  have plb2 := tup2 plb
  have clf : (genEnv scope (cloFrom X.env.cells scope.names []) C code bi X.env).cells.lookup f = some c := by
    show (cloFrom X.env.cells scope.names []).lookup f = some c
    rw [hcl, hc]
    rfl
  have hat0 : atI (.ref pa :: zs) 0 = some (.ref pa) := atI_nat (j := 0) rfl
  obtain ⟨j2, h1, h2, h3, h4, h5⟩ := atI_get hat0
  obtain ⟨wv, ew, rw'⟩ := rv.get h2
  cases (show wv = Value.ref pa from rw')
  have hlen := rv.length
  refine wpAny_Compare1 ?_
  refine wpAny_Name (wpAny_loadName_local hk hx hn hm ?_) hdx
  refine Subscript_ (wpAny_Name (wpAny_loadName_free hk hf clf ic2 ?_ hcf) hdf)
  refine wpAny_Constant_int ?_
  refine subscriptTail_builtinR (x := Value.ref pa) (show IsTup { t with toks := t.toks + 1 }.heap fa its.toArray from pl2).typeIs slot_tuple_getitem.lookup
    (getItem_tuple (j := j2) (show IsTup { t with toks := t.toks + 1 }.heap fa its.toArray from pl2) (by decide) (by decide) (by rw [List.size_toArray, ← hlen]; exact h1) (by simpa using ew) ⟨rfl, ?_⟩) (by rfl)
  obtain ⟨as, ra⟩ := reads_ints t.heap ns its2 rv2
  obtain ⟨o, ho, hcl', nn, hd⟩ := plb2
  refine PySem.SeqAt.in_tuple_reads (xs := ns.map PyData.int) (d := .int n) (.tuple (h := t.heap) ho hcl' hd (by simpa using ra)) (.int n tk) (canAll_ints ns) rfl ?_ ⟨⟨_, hy, ?_⟩, GxR.keeps_tok _ _⟩
  · have : min (PyData.depthAll (ns.map PyData.int)) (PyData.int n).depth ≤ 1 := Nat.le_trans (Nat.min_le_right _ _) (by simp [PyData.depth])
    omega
  · rw [any_ints]
    rfl
end Gv

set_option Elab.async false
set_option linter.all false
set_option maxRecDepth 100000
set_option maxHeartbeats 4000000
/-! comprehensions with two fors: the loops; an item of a list, by values -/
namespace Cp
open PySem PySem.Spec PyProof.Rows L2
theorem lc2_list {K : PySem.W.Frag} {a : Addr} {xs : List V} {g : TG} {tt : TT} {B : L2.St → Hp → (Hp → Prop) → Prop} {vs : List Nat} {σ : L2.St} {H1 : Hp} {D : Addr} {Qd : Hp → Prop} (Pv : Nat → Hp → Prop) (h0 : Pv 0 (upd H1 D (.lst []))) (hl : ∀ i H, i ≤ xs.length → Pv i H → SqL K H a xs)
    (hs : ∀ i x H, xs[i]? = some x → Pv i H → g x (wipe σ vs) H fun σ2 H2 => wipe σ2 vs = wipe σ vs ∧ tt σ2 H2 fun b H3 => if b = true then B σ2 H3 (Pv (i + 1)) else Pv (i + 1) H3) (hd : ∀ H, Pv xs.length H → Qd H) :
    ∃ W : Nat → Nat → Hp → Prop, (∃ m, W 0 m (upd H1 D (.lst []))) ∧ ∀ i m H, W i m H →
      ((Itl K a).stop i H ∧ Qd H) ∨ ((Itl K a).go i H ∧ ∃ Nx : Hp → Prop, (∀ H', Nx H' → ∃ m', m' < m ∧ W (i + 1) m' H') ∧ ∀ x H', (Itl K a).yld i H x H' → g x (wipe σ vs) H' fun σ2 H2 => wipe σ2 vs = wipe σ vs ∧ tt σ2 H2 fun b H3 => if b = true then B σ2 H3 Nx else Nx H3) := by
  refine ⟨fun i m H => m = xs.length - i ∧ i ≤ xs.length ∧ Pv i H, ⟨xs.length, by simp, Nat.zero_le _, h0⟩, ?_⟩
  rintro i m H ⟨rfl, hi, p⟩
  have q := hl i H hi p
  by_cases hlt : i < xs.length
  · refine .inr ⟨⟨xs, xs[i], q, by simp [hlt]⟩, Pv (i + 1), fun H' p' => ⟨xs.length - (i + 1), by omega, rfl, hlt, p'⟩, fun x H' y => ?_⟩
    obtain ⟨e, y⟩ := y
    subst e
    exact hs i x _ (y xs q) p
  · have e : i = xs.length := by omega
    subst e
    exact .inl ⟨⟨xs, q, by simp⟩, hd H p⟩
theorem lcin_range {lo : Int} {n : Nat} {g : TG} {tt : TT} {te : TE} {vs : List Nat} {σ : L2.St} {H4 : Hp} {D : Addr} {Qd : Hp → Prop} (Pv : Nat → Hp → Prop) (h0 : Pv 0 H4)
    (hs : ∀ i H, i < n → Pv i H → g (.int (lo + i)) (wipe σ vs) H fun σ2 H2 => wipe σ2 vs = wipe σ vs ∧ tt σ2 H2 fun b H3 =>
      if b = true then te σ2 H3 fun y H4 => ∃ acc, H4 D = some (.lst acc) ∧ acc.length < sizeLine ∧ Pv (i + 1) (upd H4 D (.lst (acc ++ [y]))) else Pv (i + 1) H3) (hd : ∀ H, Pv n H → Qd H) :
    ∃ W : Nat → Nat → Hp → Prop, (∃ m, W 0 m H4) ∧ ∀ i m H, W i m H →
      ((Itr lo n).stop i H ∧ Qd H) ∨ ((Itr lo n).go i H ∧ ∃ Nx : Hp → Prop, (∀ H', Nx H' → ∃ m', m' < m ∧ W (i + 1) m' H') ∧ ∀ x H', (Itr lo n).yld i H x H' → g x (wipe σ vs) H' fun σ2 H2 => wipe σ2 vs = wipe σ vs ∧ tt σ2 H2 fun b H3 =>
        if b = true then te σ2 H3 fun y H4 => ∃ acc, H4 D = some (.lst acc) ∧ acc.length < sizeLine ∧ Nx (upd H4 D (.lst (acc ++ [y]))) else Nx H3) := by
  refine ⟨fun i m H => m = n - i ∧ i ≤ n ∧ Pv i H, ⟨n, by simp, Nat.zero_le _, h0⟩, ?_⟩
  rintro i m H ⟨rfl, hi, p⟩
  by_cases hlt : i < n
  · refine .inr ⟨hlt, Pv (i + 1), fun H' p' => ⟨n - (i + 1), by omega, rfl, hlt, p'⟩, fun x H' y => ?_⟩
    obtain ⟨e, y⟩ := y
    subst e y
    exact hs i _ hlt p
  · have e : i = n := by omega
    subst e
    exact .inl ⟨Nat.le_refl _, hd H p⟩
/-- xs[k], k from 0 on -/
def rIxN (K : PySem.W.Frag) : V → V → Hp → VK → Prop := fun x y H Q => ∃ (p : Addr) (xs : List V) (k : Nat) (v : V), x = .ref p ∧ y = .int k ∧ SqL K H p xs ∧ xs[k]? = some v ∧ Q v H
theorem pget_list {X : Cx} : PGet X (rIxN X.K) := by
  intro pins s σ H o i ov iv Q I ro ri h
  obtain ⟨p, xs, k, z, rfl, rfl, hq, he, q⟩ := h
  cases ro
  obtain ⟨t, rfl⟩ := ri
  obtain ⟨its, r, pl, hz⟩ := I.list hq
  obtain ⟨w, ew, rw'⟩ := r.get he
  have hl := r.length
  have hn := line63
  have hk := (List.getElem?_eq_some_iff.mp he).1
  exact wpAny_getItem_list pl.isList (by omega) (by omega) (by simpa using ew) ⟨z, H, I, rw', q⟩
end Cp

set_option Elab.async false
set_option linter.all false
set_option maxRecDepth 100000
set_option maxHeartbeats 4000000
/-! all(..) and any(..) of a generator expression: any source, any target, any element -/
namespace Gx
open PySem PySem.Spec PyProof.Rows L2 GenW
/-- the element's context: a frame of its own over the def's -/
abbrev gcx (X : Cx) (A : Around) (s : Shared) (H : Hp) (cenv : Env) (fp : List Addr) : Cx :=
  { X with A := A, s_0 := s, H_0 := H, env := cenv, outer := X.stack, stack := cenv :: X.stack, ex := fp, fn := fun _ => false, pn := [], xe := fun _ _ => False }
structure GenK (scope : Scope) : Prop where
  co : scope.isCoroutine = false
  cell : ∀ y ∈ scope.names, y.2 ≠ .cell
  dot : scope.names.lookup (".0" : Str) = some NameKind.local
/-- nothing but the generators' own table has turned -/
structure Kept (s s' : Shared) : Prop where
  os : s'.os = s.os
  bare : AllBare s'.gens
  keep : ∀ b o, s.heap.get? b = some o → s'.heap.get? b = some o
theorem Inv.keptS {X : Cx} {pins : List (Addr × Obj)} {σ : L2.St} {H : Hp} {s s' : Shared} (I : Inv X pins σ H s) (k : Kept s s') : Inv X pins σ H s' :=
  I.call' (ch := []) k.os (Un.kept k.keep) (I.hok.kept k.keep) k.bare fun b z => by simp at z
section
variable {X : Cx} {pins : List (Addr × Obj)} {σ : L2.St} {H : Hp} {s : Shared}
theorem gen_start {scope : Scope} {own : List (Str × Nat)} {fp : List Addr} {code : Value} {A : Around} {s' : Shared} {m : Str → Option Value} (I : Inv X pins σ H s) (ok : BlkOk X.N X.env.scope scope own) (S : GenK scope) (hN : X.N.Nodup) (hfp : ∀ b ∈ fp, FpOk X pins H b ∧ b < s.heap.objs.size)
    (hA : A.handled = none) (hfr : A.frames = some (genEnv scope (cloFrom X.env.cells scope.names []) s.heap.objs.size code builtinsNs X.env :: X.stack))
    (k : Kept s s') (hns : s'.heap.Ns s.heap.objs.size m) :
    Inv (gcx X A s H (genEnv scope (cloFrom X.env.cells scope.names []) s.heap.objs.size code builtinsNs X.env) fp) [] (wipe σ (own.map (·.2))) H s' := by
  have hfree : ∀ y ∈ scope.names, y.2 = .free → ∃ c, X.env.cells.lookup y.1 = some c := fun y hy e => by
    rcases ok.free y hy e with k | k
    · exact I.ok.has _ (.inl k)
    · exact I.ok.has _ (.inr k)
  generalize hcenv : genEnv scope (cloFrom X.env.cells scope.names []) s.heap.objs.size code builtinsNs X.env = cenv at hfr
  have hL : cenv.locals = s.heap.objs.size := by rw [← hcenv]; rfl
  have hcl : cenv.cells = cloFrom X.env.cells scope.names [] := by rw [← hcenv]; rfl
  have hsc : cenv.scope = scope := by rw [← hcenv]; rfl
  have mem : ∀ {y c}, cenv.cells.lookup y = some c → X.env.cells.lookup y = some c ∧ c < s.heap.objs.size := fun {y c} e => by
    rw [hcl] at e
    rcases cloFrom_mem (PySem.mem_of_lookup e) with hm | ⟨h1, rfl⟩
    · cases hm
    · obtain ⟨c, hc⟩ := hfree _ h1 rfl
      rw [hc]
      obtain ⟨w, z⟩ := I.cell _ _ hc
      exact ⟨rfl, z.lt⟩
  have look : ∀ {y}, scope.names.lookup y = some .free → ∃ c, cenv.cells.lookup y = some c ∧ X.env.cells.lookup y = some c := fun {y} hl => by
    have hy : (y, NameKind.free) ∈ scope.names := PySem.mem_of_lookup hl
    obtain ⟨c', e'⟩ := mem_lookup (cloFrom_has (cells := X.env.cells) (acc := []) hy)
    rw [← hcl] at e'
    exact ⟨c', e', (mem e').1⟩
  have okB : (gcx X A s H cenv fp).Ok := by
    refine ⟨I.ok.mod, by show cenv.scope.kind = _; rw [hsc]; exact ok.kind, by show cenv.globals = _; rw [← hcenv]; exact I.ok.glob, by show cenv.builtins = _; rw [← hcenv]; rfl, by show s.heap.objs.size ≤ cenv.locals; rw [hL]; exact Nat.le_refl _,
      fun y z c e1 e2 => I.ok.inj y z c (mem e1).1 (mem e2).1, fun y hy => ?_, (fun y c z e => nomatch z), fun _ => hA, hfr, .inr ⟨rfl, ?_⟩, fun b hb => ⟨?_, fun y c e z => ?_⟩, I.bs, Nat.le_trans I.ok.bsz I.sz, fun b o e hb => ?_, fun b hb z => ?_, I.stack, I.stkFree⟩
    · show ∃ c, cenv.cells.lookup y = some c
      rcases hy with hy | hy
      · have e : scope.names.lookup y = some .cell := by rw [← hsc]; exact hy
        exact absurd rfl (S.cell _ (PySem.mem_of_lookup e))
      · have e : scope.names.lookup y = some .free := by rw [← hsc]; exact hy
        obtain ⟨c, h1, _⟩ := look e
        exact ⟨c, h1⟩
    · show cenv.frame = some cenv.locals
      rw [← hcenv]
      rfl
    · show b ≠ cenv.locals
      rw [hL]; exact Nat.ne_of_lt (hfp b hb).2
    · exact (hfp b hb).1.2.2.2.2.1 y c (mem e).1 z
    · rcases (hfp b hb).1.2.2.2.1 with z | z
      · exact I.ok.noex b o e z
      · exact absurd (Nat.lt_of_lt_of_le (Heap.lt_size e) (Nat.le_trans I.ok.bsz z)) (Nat.lt_irrefl _)
    · rcases List.mem_cons.mp (I.stkSub b z) with z | z
      · exact (hfp b hb).1.2.1 z
      · exact (hfp b hb).1.2.2.1 z
  refine ⟨okB, k.os, k.bare, Un.kept k.keep, ⟨m, ?_, fun i y av e1 e2 e3 => ?_⟩, fun y c e => ?_, ?_, fun y c e => I.freeC y c (mem e).1, fun p hp => ?_, I.hok.kept k.keep, by rw [wipe_length]; exact I.len⟩
  · show Heap.Ns _ cenv.locals _
    rw [hL]
    exact hns
  · obtain ⟨e2, hne⟩ := wipe_some e2
    have hfr : scope.names.lookup y = some .free := by
      have key : ∀ k, scope.names.lookup y = some k → k = .local ∨ k = .cell ∨ k = .free → scope.names.lookup y = some .free := fun k e hk' => by
        have no : ¬ (k = .local ∨ k = .cell) := fun hh => by
          rcases ok.own _ (PySem.mem_of_lookup e) hh with e' | e'
          · obtain ⟨p, hp, hpy⟩ := List.mem_map.mp e'
            have e3 := ok.ix p hp
            have : p.1 = y := hpy
            rw [this] at e3
            exact hne (List.mem_map.mpr ⟨p, hp, nodup_ix hN e3 e1⟩)
          · exact e' (List.mem_of_getElem? e1)
        rcases hk' with rfl | rfl | rfl
        · exact absurd (.inl rfl) no
        · exact absurd (.inr rfl) no
        · exact e
      have e3 : Vis cenv.scope y := e3
      rw [hsc] at e3
      rcases e3 with e3 | e3 | e3
      · exact key _ e3 (.inl rfl)
      · exact key _ e3 (.inr (.inl rfl))
      · exact key _ e3 (.inr (.inr rfl))
    obtain ⟨m2, hn, hl⟩ := I.loc
    have hvis : Vis X.env.scope y := (ok.free _ (PySem.mem_of_lookup hfr) rfl).elim (fun k => .inr (.inl k)) (fun k => .inr (.inr k))
    obtain ⟨w, r, q⟩ := hl i y av e1 e2 hvis
    refine ⟨w, r, .inr ⟨.inr (by show cenv.scope.names.lookup y = _; rw [hsc]; exact hfr), ?_⟩⟩
    obtain ⟨c, h1, h2⟩ := look hfr
    rcases q with ⟨k, _⟩ | ⟨_, c', e', z⟩
    · have k : X.env.scope.names.lookup y = some .local := k
      rcases ok.free _ (PySem.mem_of_lookup hfr) rfl with k' | k' <;> rw [show X.env.scope.names.lookup y = _ from k'] at k <;> cases k
    · rw [h2] at e'; cases e'
      exact ⟨c, h1, z.keeps k.keep⟩
  · obtain ⟨w, z⟩ := I.cell y c (mem e).1
    exact ⟨w, z.keeps k.keep⟩
  · show H cenv.locals = none
    rw [hL]; exact I.hok.fresh (Nat.le_refl _)
  · exact absurd (show p ∈ ([] : List (Addr × Obj)) ++ [] from hp) (by simp)
end
end Gx

set_option Elab.async false
set_option linter.all false
set_option maxRecDepth 100000
set_option maxHeartbeats 4000000
namespace Gx
open PySem PySem.Spec PyProof.Rows L2 GenW
/-- the end of the walk -/
def RG (X : Cx) (pz : List (Addr × Obj)) (σ0 : L2.St) (QT : Hp → Prop) : GenEnd := fun _ _ r s₁ => ((r = .ok (.ret .none) ∨ r = .ok .next) ∧ ∃ H', Inv X pz σ0 H' s₁ ∧ QT H') ∨ ∃ e, r = .error e ∧ False
/-- a truth is handed out: by d it goes on -/
def YG (X : Cx) (pz : List (Addr × Obj)) (d : Bool) (QF : Hp → Prop) : Protocol := fun _ _ v s kap => ∃ (c : Bool) (σ' : L2.St) (H' : Hp), v = .bool c ∧ Inv X pz σ' H' s ∧ (if c = d then ∀ s', Kept s s' → kap (.send .none) s' else QF H')
/-- the source's turns, the target, the tests, the element -/
def Turns (J : It) (g : TG) (tt : TT) (te : TE) (vs : List Nat) (σ : L2.St) (d : Bool) (QT QF : Hp → Prop) (W : Nat → Nat → Hp → Prop) : Prop := ∀ i m H, W i m H →
  (J.stop i H ∧ QT H) ∨ (J.go i H ∧ ∃ Nx : Hp → Prop, (∀ H', Nx H' → ∃ m', m' < m ∧ W (i + 1) m' H') ∧ ∀ x H', J.yld i H x H' → g x (wipe σ vs) H' fun σ2 H2 => wipe σ2 vs = wipe σ vs ∧ tt σ2 H2 fun b H3 =>
    if b = true then te σ2 H3 fun y H4 => ∃ c, y = .bl c ∧ (if c = d then Nx H4 else QF H4) else Nx H3)
section
variable {X : Cx} {A B : Around} {s3 : Shared} {H3 : Hp} {cenv : Env} {fp : List Addr} {σ : L2.St}
theorem seg_loop {elt tg iter : Expr} {ifs : List Expr} {scope : Scope} {pos : Pos} {it : Addr} {J : It} {tn : Nat → Heap → Prop} {g : TG} {tt : TT} {te : TE} {vs : List Nat} {d : Bool} {QT QF : Hp → Prop} {W : Nat → Nat → Hp → Prop} {pz : List (Addr × Obj)}
    (T : Turn X.prog X.w X.K tg J fp it tn) (hc : X.calm = true) (hov : B.over (.compLoop (.GeneratorExp elt [⟨tg, iter, ifs, 0⟩] scope pos) 0 (.ref it) .none cenv) [] = A) (hco : cenv.scope.isCoroutine = false) (hpz : ∀ p ∈ pz, p.1 ∉ fp)
    (pg : PG (gcx X A s3 H3 cenv fp) tg g) (pt : PTs (gcx X A s3 H3 cenv fp) ifs tt) (pe : PE (gcx X A s3 H3 cenv fp) elt te) (turn : Turns J g tt te vs σ d QT QF W) :
    ∀ (m n i : Nat) (s₀ s : Shared) (H : Hp), m < n → Inv (gcx X A s3 H3 cenv fp) pz (wipe σ vs) H s → tn i s.heap → (∀ b ∈ fp, H b = none) → W i m H →
      Seg (model X.prog X.w) B (RG (gcx X A s3 H3 cenv fp) pz (wipe σ vs) QT) (YG (gcx X A s3 H3 cenv fp) pz d QF) n s₀
        (.compLoop (.GeneratorExp elt [⟨tg, iter, ifs, 0⟩] scope pos) 0 (.ref it) .none cenv)
        ((model X.prog X.w).den (.compLoop (.GeneratorExp elt [⟨tg, iter, ifs, 0⟩] scope pos) 0 (.ref it) .none cenv)) [] s := by
  have stat : ∀ {σ' : L2.St} {H' : Hp} {s' : Shared}, Inv (gcx X A s3 H3 cenv fp) pz σ' H' s' → (∀ b ∈ fp, H' b = none) → ∀ b ∈ fp, FpOk (gcx X A s3 H3 cenv fp) pz H' b := fun {σ' H' s'} I' hn b hb =>
    ⟨hn b hb, (I'.ok.exf b hb).1, I'.ok.exfs b hb, .inl hb, fun x c e => (I'.ok.exf b hb).2 x c e, fun p hp z => hpz p (by simpa using hp) (by rw [z]; exact hb)⟩
  intro m
  induction m using Nat.strongRecOn with
  | ind m ih =>
    intro n i s₀ s H hmn I st nf w
    show Seg _ B _ _ _ s₀ _ ((compTurn (.GeneratorExp elt [⟨tg, iter, ifs, 0⟩] scope pos) 0 (.ref it) .none cenv).onRaise (leaving cenv)) [] s
    rw [compTurn_gen, Sem.onRaise_eq_wrap]
    refine seg_bind_wrap (wpAny_standAt ?_)
    rcases turn i m H w with ⟨stop, qq⟩ | ⟨go, Nx, hNx, step⟩
    · refine seg_bind_wrap ?_
      rw [hov]
      refine wpAny_mono (T.done (gcx X A s3 H3 cenv fp) rfl rfl rfl hc i pz s _ H (fun _ _ => False) I (stat I nf) st stop) (fun r s6 hx => ?_) fun _ _ e => e.elim
      obtain ⟨rfl, I6⟩ := hx
      exact seg_end (.ok .next) (.inl ⟨.inr rfl, H, I6, qq⟩)
    · refine seg_bind_wrap ?_
      rw [hov]
      refine wpAny_mono (T.item (gcx X A s3 H3 cenv fp) rfl rfl rfl hc i pz s _ H (fun _ _ => False) I (stat I nf) st go) (fun r s6 hx => ?_) fun _ _ e => e.elim
      obtain ⟨u, rfl, h6⟩ := hx
      refine seg_bind_wrap ?_
      rw [hov]
      refine wpAny_mono h6 (fun _ s7 hx => ?_) fun _ _ e => e.elim
      obtain ⟨x, H7, I7, r7, y7, st7, n7⟩ := hx
      have I7' := I7.pinned (stat I7 n7) (T.obj _ _ st7)
      refine seg_bind_wrap ?_
      rw [hov]
      refine wpAny_mono (pg.run _ s7 _ H7 x u _ I7' r7 (step x H7 y7)) (fun _ s8 hx => ?_) fun _ _ e => e.elim
      obtain ⟨σ8, H8, I8, hw8, q8⟩ := hx
      refine seg_bind_wrap ?_
      rw [hov]
      refine wpAny_mono (pt.run _ s8 σ8 H8 _ I8 q8) (fun b s9 hx => ?_) fun _ _ e => e.elim
      obtain ⟨H9, I9, q9⟩ := hx
      -- the turn's end
      have fin : ∀ {s' : Shared} {H' : Hp} {m' : Nat}, Inv (gcx X A s3 H3 cenv fp) (pz ++ pinsAt fp s7.heap) σ8 H' s' → Inv (gcx X A s3 H3 cenv fp) pz (wipe σ vs) H' s' ∧ tn (i + 1) s'.heap ∧ ∀ b ∈ fp, H' b = none := fun {s' H' m'} I' => by
        have pin' : ∀ b ∈ fp, ∀ o, s7.heap.get? b = some o → s'.heap.get? b = some o ∧ H' b = none := fun b hb o e =>
          let z := I'.pin (b, o) (List.mem_append_right _ (List.mem_append_right _ (mem_pinsAt hb e)))
          ⟨z.1, z.2.1⟩
        have hl : (wipe σ vs).length = σ8.length := by rw [← hw8, wipe_length]
        refine ⟨(I'.unpinned (pins := pz)).weak hl (fun j v e => ?_), T.keep _ _ _ st7 fun b hb o e => (pin' b hb o e).1, fun b hb => ?_⟩
        · rw [← hw8] at e
          exact (wipe_some e).1
        · obtain ⟨o, e, _⟩ := T.obj _ _ st7 b hb
          exact (pin' b hb o e).2
      cases b with
      | false =>
        simp only [Bool.false_eq_true, if_false] at q9 ⊢
        obtain ⟨m', hm, w'⟩ := hNx H9 q9
        obtain ⟨f1, f2, f3⟩ := fin (m' := m') I9
        exact seg_again rfl (ih m' hm n (i + 1) s₀ _ H9 (by omega) f1 f2 f3 w')
      | true =>
        simp only [if_true] at q9 ⊢
        have hy : ∀ v, yieldOut cenv v = yieldValue v := fun v => by simp only [yieldOut, hco, Bool.false_eq_true, if_false]
        simp only [hy]
        rw [Sem.bind_eq_wrap', Sem.bind_eq_wrap', Sem.wrap_wrap, Sem.wrap_wrap]
        refine seg_wrap ?_
        rw [hov]
        refine wpAny_mono (pe.run _ s9 σ8 H9 _ I9 q9) (fun z s10 hx => ?_) fun _ _ e => e.elim
        obtain ⟨yv, H10, I10, r10, c, rfl, nx⟩ := hx
        cases (show z = Value.bool c from r10)
        obtain ⟨n, rfl⟩ : ∃ n', n = n' + 1 := ⟨n - 1, by omega⟩
        refine seg_at (seg_yield rfl rfl rfl ⟨c, σ8, H10, rfl, I10.unpinned, ?_⟩)
        by_cases hcd : c = d
        · rw [if_pos hcd] at nx ⊢
          intro s'' hk
          obtain ⟨m', hm, w'⟩ := hNx H10 nx
          obtain ⟨f1, f2, f3⟩ := fin (m' := m') (Inv.keptS I10 hk)
          exact seg_again rfl (ih m' hm n (i + 1) s'' s'' H10 (by omega) f1 f2 f3 w')
        · rw [if_neg hcd] at nx ⊢
          exact nx
theorem seg_start {elt tg iter : Expr} {ifs : List Expr} {scope : Scope} {pos : Pos} {it : Addr} {J : It} {tn : Nat → Heap → Prop} {R : GenEnd} {Y : Protocol} {n : Nat} {s₀ s : Shared}
    (T : Turn X.prog X.w X.K tg J fp it tn) (st : tn 0 s.heap)
    (loop : Seg (model X.prog X.w) B R Y n s₀ (.compLoop (.GeneratorExp elt [⟨tg, iter, ifs, 0⟩] scope pos) 0 (.ref it) .none cenv) ((model X.prog X.w).den (.compLoop (.GeneratorExp elt [⟨tg, iter, ifs, 0⟩] scope pos) 0 (.ref it) .none cenv)) [] s) :
    Seg (model X.prog X.w) B R Y n s₀ (.compStart (.GeneratorExp elt [⟨tg, iter, ifs, 0⟩] scope pos) 0 (.ref it) .none cenv) ((model X.prog X.w).den (.compStart (.GeneratorExp elt [⟨tg, iter, ifs, 0⟩] scope pos) 0 (.ref it) .none cenv)) [] s := by
  show Seg _ B _ _ _ s₀ _ ((compStart (.GeneratorExp elt [⟨tg, iter, ifs, 0⟩] scope pos) 0 (.ref it) .none cenv).onRaise (leaving cenv)) [] s
  unfold compStart
  rw [Sem.onRaise_eq_wrap]
  show Seg _ B _ _ _ s₀ _ ((ask >>= _).wrap _ _ _ _) [] s
  refine seg_bind_wrap (wpAny_askSetting ?_)
  split
  · exact seg_again rfl loop
  · first
      | exact seg_bind_wrap (wpAny_rule (seg_bind_wrap (wpAny_standAt (seg_bind_wrap (T.self _ 0 s _ _ st (seg_again rfl loop))))))
      | (refine seg_bind_wrap (wpAny_rule ?_); show Seg _ B _ _ _ s₀ _ ((standAt iter.pos >>= _).wrap _ _ _ _) [] s; exact seg_bind_wrap (wpAny_standAt (seg_bind_wrap (T.self _ 0 s _ _ st (seg_again rfl loop)))))
end
/-- the consumer: all's loop by d = true, any's by d = false -/
def loopId (d : Bool) : String := if d then "all.loop" else "any.loop"
theorem walk_loop {X : Cx} {pz : List (Addr × Obj)} {σ0 : L2.St} {QT QF : Hp → Prop} {A : Around} {a : Addr} {g : Nat} {go : Obj} (d : Bool) {R : Result → Shared → Prop} (hpz : (a, go) ∈ pz) (hgo : ∀ h : Heap, h.get? a = some go → h.IsGen a g)
    (hh : A.handled = none) (hd : A.depth < recursionLimit)
    (hT : ∀ H' s1 s', Inv X pz σ0 H' s1 → QT H' → Kept s1 s' → R (.ok (.ret (.bool d))) s') (hF : ∀ σ' H' s1 s', Inv X pz σ' H' s1 → QF H' → Kept s1 s' → R (.ok (.ret (.bool (!d)))) s') :
    ∀ (n : Nat) (s : Shared), s.heap.IsGen a g → s.heap.NoLimit →
      (∃ gs, s.gens[g]? = some gs ∧ gs.Goes (model X.prog X.w) A.in1.in1 (RG X pz σ0 QT) (YG X pz d QF) n (.send .none) (s.setGen g .running)) →
      codeAny (model X.prog X.w) A (.builtin (loopId d) ⟨[.ref a], []⟩) R s := by
  intro n
  induction n with
  | zero =>
    intro s hg hl ⟨gs, hgs, hgo'⟩
    cases d
    · show codeAny (model X.prog X.w) A (.builtin "any.loop" ⟨[.ref a], []⟩) R s
      refine codeAny_builtin F.entry_any_loop ?_
      rw [Around.under_plainId F.plain_any_loop _]
      show wpAny _ A.in1 (pyNext (.ref a) >>= _) _ _ s
      refine wpAny_bind (next_genG (A := A.in1) (Er := fun _ _ => False) hh hl hd hg hgs hgo' (fun v s₁ gs' hbare hv => ?_) (fun s₁ hp h' hk => ?_) fun e s₁ he => he.elim)
      · obtain ⟨c, σ', H', rfl, I, hq⟩ := hv
        by_cases hcd : c = false
        · rw [if_pos hcd] at hq
          exact (hq s₁ ⟨rfl, I.bare, fun _ _ e => e⟩).elim
        · rw [if_neg hcd] at hq
          have hc : c = true := by cases c <;> simp at hcd ⊢
          subst hc
          refine wpAny_bind (wpAny_holding (wpAny_truthy_bool ?_))
          refine wpAny_bind (wpAny_letGo ?_)
          simp only [if_true]
          refine wpAny_bind (wpAny_rule (wpAny_pure ?_))
          exact hF σ' H' s₁ _ I hq ⟨rfl, allBare_setGen I.bare hbare, fun _ _ e => e⟩
      · obtain ⟨H', I, q⟩ := hp
        refine wpAny_bind (wpAny_rule (wpAny_pure ?_))
        exact hT H' s₁ _ I q ⟨rfl, allBare_setGen I.bare rfl, hk⟩
    · show codeAny (model X.prog X.w) A (.builtin "all.loop" ⟨[.ref a], []⟩) R s
      refine codeAny_builtin F.entry_all_loop ?_
      rw [Around.under_plainId F.plain_all_loop _]
      show wpAny _ A.in1 (pyNext (.ref a) >>= _) _ _ s
      refine wpAny_bind (next_genG (A := A.in1) (Er := fun _ _ => False) hh hl hd hg hgs hgo' (fun v s₁ gs' hbare hv => ?_) (fun s₁ hp h' hk => ?_) fun e s₁ he => he.elim)
      · obtain ⟨c, σ', H', rfl, I, hq⟩ := hv
        by_cases hcd : c = true
        · rw [if_pos hcd] at hq
          exact (hq s₁ ⟨rfl, I.bare, fun _ _ e => e⟩).elim
        · rw [if_neg hcd] at hq
          have hc : c = false := by cases c <;> simp at hcd ⊢
          subst hc
          refine wpAny_bind (wpAny_holding (wpAny_truthy_bool ?_))
          refine wpAny_bind (wpAny_letGo ?_)
          simp only [Bool.false_eq_true, if_false]
          refine wpAny_bind (wpAny_rule (wpAny_pure ?_))
          exact hF σ' H' s₁ _ I hq ⟨rfl, allBare_setGen I.bare hbare, fun _ _ e => e⟩
      · obtain ⟨H', I, q⟩ := hp
        refine wpAny_bind (wpAny_rule (wpAny_pure ?_))
        exact hT H' s₁ _ I q ⟨rfl, allBare_setGen I.bare rfl, hk⟩
  | succ n ih =>
    intro s hg hl ⟨gs, hgs, hgo'⟩
    have hgl : g < s.gens.size := (Array.getElem?_eq_some_iff.mp hgs).1
    have again : ∀ (σ' : L2.St) (H' : Hp) (s₁ : Shared) (gs' : GenState), gs'.bare = true → Inv X pz σ' H' s₁ → g + 1 ≤ (s₁.setGen g gs').gens.size → (∀ s', Kept s₁ s' → gs'.Goes (model X.prog X.w) A.in1.in1 (RG X pz σ0 QT) (YG X pz d QF) n (.send .none) s') →
        codeAny (model X.prog X.w) A (.builtin (loopId d) ⟨[.ref a], []⟩) R (s₁.setGen g gs') := fun σ' H' s₁ gs' hbare I hsz hq => by
      have hsz1 : g < s₁.gens.size := by
        have q : (s₁.setGen g gs').gens.size = s₁.gens.size := setGen_size _ _ _
        omega
      refine ih (s₁.setGen g gs') (hgo _ (I.pin (a, go) (List.mem_append_right _ hpz)).1) I.nolimit ⟨gs', setGen_at hsz1, hq _ ⟨rfl, allBare_setGen (s := s₁.setGen g gs') (allBare_setGen I.bare hbare) rfl, fun _ _ e => e⟩⟩
    cases d
    · show codeAny (model X.prog X.w) A (.builtin "any.loop" ⟨[.ref a], []⟩) R s
      refine codeAny_builtin F.entry_any_loop ?_
      rw [Around.under_plainId F.plain_any_loop _]
      show wpAny _ A.in1 (pyNext (.ref a) >>= _) _ _ s
      refine wpAny_bind (wpAny_gsz (n := g + 1) hgl (next_genG (A := A.in1) (Er := fun _ _ => False) hh hl hd hg hgs hgo' (fun v s₁ gs' hbare hv => ?_) (fun s₁ hp h' hk => ?_) fun e s₁ he => he.elim))
      · intro hsz
        obtain ⟨c, σ', H', rfl, I, hq⟩ := hv
        refine wpAny_bind (wpAny_holding (wpAny_truthy_bool ?_))
        refine wpAny_bind (wpAny_letGo ?_)
        cases c with
        | false =>
          rw [if_pos rfl] at hq
          simp only [Bool.false_eq_true, if_false]
          exact wpAny_pure ⟨plainId_quiet F.plain_any_loop _, again σ' H' s₁ gs' hbare I hsz hq⟩
        | true =>
          rw [if_neg (by decide)] at hq
          simp only [if_true]
          refine wpAny_bind (wpAny_rule (wpAny_pure ?_))
          exact hF σ' H' s₁ _ I hq ⟨rfl, allBare_setGen I.bare hbare, fun _ _ e => e⟩
      · intro hsz
        obtain ⟨H', I, q⟩ := hp
        refine wpAny_bind (wpAny_rule (wpAny_pure ?_))
        exact hT H' s₁ _ I q ⟨rfl, allBare_setGen I.bare rfl, hk⟩
    · show codeAny (model X.prog X.w) A (.builtin "all.loop" ⟨[.ref a], []⟩) R s
      refine codeAny_builtin F.entry_all_loop ?_
      rw [Around.under_plainId F.plain_all_loop _]
      show wpAny _ A.in1 (pyNext (.ref a) >>= _) _ _ s
      refine wpAny_bind (wpAny_gsz (n := g + 1) hgl (next_genG (A := A.in1) (Er := fun _ _ => False) hh hl hd hg hgs hgo' (fun v s₁ gs' hbare hv => ?_) (fun s₁ hp h' hk => ?_) fun e s₁ he => he.elim))
      · intro hsz
        obtain ⟨c, σ', H', rfl, I, hq⟩ := hv
        refine wpAny_bind (wpAny_holding (wpAny_truthy_bool ?_))
        refine wpAny_bind (wpAny_letGo ?_)
        cases c with
        | true =>
          rw [if_pos rfl] at hq
          simp only [if_true]
          exact wpAny_pure ⟨plainId_quiet F.plain_all_loop _, again σ' H' s₁ gs' hbare I hsz hq⟩
        | false =>
          rw [if_neg (by decide)] at hq
          simp only [Bool.false_eq_true, if_false]
          refine wpAny_bind (wpAny_rule (wpAny_pure ?_))
          exact hF σ' H' s₁ _ I hq ⟨rfl, allBare_setGen I.bare hbare, fun _ _ e => e⟩
      · intro hsz
        obtain ⟨H', I, q⟩ := hp
        refine wpAny_bind (wpAny_rule (wpAny_pure ?_))
        exact hT H' s₁ _ I q ⟨rfl, allBare_setGen I.bare rfl, hk⟩
end Gx

set_option Elab.async false
set_option linter.all false
set_option maxRecDepth 100000
set_option maxHeartbeats 4000000
namespace Gx
open PySem PySem.Spec PyProof.Rows L2 GenW
theorem over_gen {B : Around} {elt : Expr} {gens : List Comprehension} {scope : Scope} {pos : Pos} {it acc : Value} {env : Env} {st : List Env} (h : B.frames = some st) :
    (B.over (.compLoop (.GeneratorExp elt gens scope pos) 0 it acc env) []).frames = some (env :: st) := by
  have e1 : (B.over (.compLoop (.GeneratorExp elt gens scope pos) 0 it acc env) []).frames = pushEnvs (Code.envs (.compLoop (.GeneratorExp elt gens scope pos) 0 it acc env)) (pushEnvs (envsOf (([] : List Frame).map Frame.where_)) B.frames) := rfl
  rw [e1, h]
  rfl
/-- the reading: by d the walk goes on -/
def tQX (d : Bool) (wi : TI) (g : TG) (tt : TT) (te : TE) (vs : List Nat) (P : Addr) : TE := fun σ H Q => wi σ H fun J H1 => GxR.TabG H1 P ∧ ∀ H2, GxR.Tabbed P H1 H2 → ∃ W : Nat → Nat → Hp → Prop, (∃ m, W 0 m H2) ∧
  Turns J g tt te vs σ d (fun H => Q (.bl d) H) (fun H => Q (.bl (!d)) H) W
section
variable {X : Cx} {pins : List (Addr × Obj)} {σ : L2.St} {H : Hp} {s : Shared}
theorem gen_core {c P : Addr} {elt tg iter : Expr} {ifs : List Expr} {gpos : Pos} {scope : Scope} {own : List (Str × Nat)} {wi : TI} {g : TG} {tt : TT} {te : TE} {k : Nat} {d : Bool} {Q : VK}
    (hr : Room (k + 1) X.A) (hc : X.calm = true) (hN : X.N.Nodup) (TB : GxR.TabB X.base X.mg c P) (hcode : X.env.code = .ref c) (ok : BlkOk X.N X.env.scope scope own) (S : GenK scope) (hi : PI X tg iter wi) (hs : ∀ v, genFold iter X.env v = pure v)
    (hg : ∀ (A : Around) (s : Shared) (H : Hp) (C : Addr) (code : Value) (fp : List Addr), Room k A → PG (gcx X A s H (genEnv scope (cloFrom X.env.cells scope.names []) C code builtinsNs X.env) fp) tg g)
    (ht : ∀ (A : Around) (s : Shared) (H : Hp) (C : Addr) (code : Value) (fp : List Addr), Room k A → PTs (gcx X A s H (genEnv scope (cloFrom X.env.cells scope.names []) C code builtinsNs X.env) fp) ifs tt)
    (he : ∀ (A : Around) (s : Shared) (H : Hp) (C : Addr) (code : Value) (fp : List Addr), Room k A → PE (gcx X A s H (genEnv scope (cloFrom X.env.cells scope.names []) C code builtinsNs X.env) fp) elt te)
    (I : Inv X pins σ H s) (h : tQX d wi g tt te (own.map (·.2)) P σ H Q) :
    wpAny (model X.prog X.w) X.A (eval (.GeneratorExp elt [⟨tg, iter, ifs, 0⟩] scope gpos) X.env) (fun v s5 => ∃ (a : Addr) (gn : Nat), v = .ref a ∧ s5.heap.IsGen a gn ∧
      codeAny (model X.prog X.w) X.A (.builtin (loopId d) ⟨[.ref a], []⟩) (fun r s' => ∃ b, r = .ok (.ret (.bool b)) ∧ EP X pins σ Q (.bool b) s') s5) X.xe s := by
  have hfree : ∀ y ∈ scope.names, y.2 = .free → ∃ c, X.env.cells.lookup y.1 = some c := fun y hy e => by
    rcases ok.free y hy e with k | k
    · exact I.ok.has _ (.inl k)
    · exact I.ok.has _ (.inr k)
  refine wpAny_GeneratorExp_make S.co (closure_ok hfree) S.cell S.dot ok.kind hr.depth (wpAny_mono (hi.run pins s σ H _ I h) (fun xv s1 h1 => wpAny_mono h1 (fun itv s2 h2 => ?_) fun _ _ e => e) fun _ _ e => e) hs
  obtain ⟨it, fp, tn, J, H1, rfl, I2, T, st2, f2, ⟨ps, hP, htr⟩, hW⟩ := h2
  refine ⟨I2.nolimit, ?_⟩
  have tabS : s2.heap.get? P = some { cls := .none, data := .fields ps } := I2.hok P _ hP
  have hd : PySem.W.CodeHd s2.heap c P := TB.code.keeps fun b u e => I2.bk b u e
  have key : ∀ (REST : Value → Shared → Prop), (∀ (cv : Value) (h3 : Heap) (tk : Nat) (more : Array Value), Heap.ExtBut P s2.heap h3 → s2.heap.objs.size ≤ h3.objs.size → h3.get? P = some { cls := .none, data := .fields (ps ++ more) } → TriplesOk (ps ++ more).toList → REST cv { s2 with heap := h3, toks := tk }) →
      wpAny (model X.prog X.w) X.A (genexprCode X.env gpos (X.env.qual ++ "<genexpr>") scope) REST X.xe s2 := fun REST fin => by
    cases hf : codeAmong gpos ps.toList with
    | some cv =>
      have e : ps = ps ++ #[] := by simp
      exact wpAny_genexprCode_hit hcode (hd.code tabS htr) hf (fin cv _ s2.toks #[] (Heap.ExtBut.refl _ _) (Nat.le_refl _) (e ▸ tabS) (e ▸ htr))
    | none =>
      refine wpAny_genexprCodeX hcode (hd.code tabS htr) (hd.tab tabS) hf fun c' h3 tk ex ge lt ic _ ta _ => ?_
      obtain ⟨_, _, _, _, _, _, _, _, _, _, _, _, _, _, _, _, _, _, _, tr, _⟩ := ic
      exact fin _ h3 tk _ ex (Nat.le_trans ge (Nat.le_of_lt lt)) ta.2 tr
  refine key _ fun cv h3 tk more ex ge tab3 tr3 => ?_
  obtain ⟨bm, ob, b1, b2, b3, b4, b5, b6, b7, b8⟩ := TB.bm
  refine wpAny_builtinsFor (m := X.mg) (by rw [I2.ok.glob]; exact (I2.mod.glob.keeps I2.bk).extBut ex TB.gP) b1 b2 (ex _ _ b4 (I2.bk _ _ b5)) b6 b7 b8 ?_
  intro h' hn' hs'
  generalize hs3 : ({ s2 with heap := h3, toks := tk } : Shared) = s3 at hn' hs' ⊢
  have e3 : s3.heap = h3 := by rw [← hs3]
  have I3 : Inv X pins σ (upd H1 P (.tbl (ps ++ more))) s3 := by
    rw [← hs3]
    exact GxR.inv_tab (more := more) (h' := h3) (g' := s2.gens) (d' := s2.drawn) (t' := tk) I2 hP (fun b o n e => ex b o n e) tab3 I2.bare
  obtain ⟨W, ⟨m0, w0⟩, turn⟩ := hW _ ⟨⟨ps ++ more, upd_same, tr3⟩, fun b hb => upd_ne hb⟩
  have neP : ∀ b ∈ fp, b ≠ P := fun b hb z => by
    have := (f2 b hb).1
    rw [z, hP] at this
    cases this
  have f3 : ∀ b ∈ fp, FpOk X pins (upd H1 P (.tbl (ps ++ more))) b ∧ b < s3.heap.objs.size := fun b hb => by
    obtain ⟨o, e, _⟩ := T.obj _ _ st2 b hb
    refine ⟨⟨?_, (f2 b hb).2⟩, by rw [e3]; exact Nat.lt_of_lt_of_le (Heap.lt_size e) ge⟩
    rw [upd_ne (neP b hb)]
    exact (f2 b hb).1
  have st3 : tn 0 s3.heap := T.keep _ _ _ st2 fun b hb o e => by rw [e3]; exact ex b o (neP b hb) e
  generalize hH3 : upd H1 P (.tbl (ps ++ more)) = H3 at I3 w0 f3
  have nf : ∀ b ∈ fp, H3 b = none := fun b hb => (f3 b hb).1.1
  -- the generator's object
  generalize hgo : ({ cls := .type "generator", data := .fields #[.int s3.gens.size 0, .str "<genexpr>" (s3.toks + 1), .str (X.env.qual ++ "<genexpr>") (s3.toks + 1 + 1)] } : Obj) = go
  have sz' : h'.objs.size = s3.heap.objs.size + 1 := by rw [hs'.1, Heap.size_push]
  generalize hs5 : ({ s3 with gens := s3.gens.push (.fresh (.compStart (.GeneratorExp elt [⟨tg, iter, ifs, 0⟩] scope gpos) 0 (.ref it) .none (genEnv scope (cloFrom X.env.cells scope.names []) s3.heap.objs.size cv builtinsNs X.env))), toks := s3.toks + 1 + 1 + 1, heap := h'.push go } : Shared) = s5
  have h5 : s5.heap = h'.push go := by rw [← hs5]
  have kp : Kept s3 s5 := by
    refine ⟨by rw [← hs5], by rw [← hs5]; exact AllBare.push I3.bare rfl, fun b o e => ?_⟩
    rw [h5]
    exact Heap.get?_push_of_some _ (hs'.extBut b o (Nat.ne_of_lt (Heap.lt_size e)) (Heap.get?_push_of_some _ e))
  have hga : s5.heap.get? h'.objs.size = some go := by rw [h5, ← hgo]; exact Heap.get?_push_size _ rfl
  have isg : ∀ h : Heap, h.get? h'.objs.size = some go → h.IsGen h'.objs.size s3.gens.size := fun h e => ⟨go, _, _, e, by rw [← hgo], by rw [← hgo], by rw [← hgo]⟩
  have hgs : s5.gens[s3.gens.size]? = some (.fresh (.compStart (.GeneratorExp elt [⟨tg, iter, ifs, 0⟩] scope gpos) 0 (.ref it) .none (genEnv scope (cloFrom X.env.cells scope.names []) s3.heap.objs.size cv builtinsNs X.env))) := by
    rw [← hs5]
    exact Array.getElem?_push_size ..
  have hns : s5.heap.Ns s3.heap.objs.size (fun y => if y = ".0" then some (.ref it) else none) := by rw [h5]; exact hn'.push _
  have hfrX : X.A.frames = some X.stack := I3.ok.frames
  have rm : Room k (X.A.in1.in1.over (.compLoop (.GeneratorExp elt [⟨tg, iter, ifs, 0⟩] scope gpos) 0 (.ref it) .none (genEnv scope (cloFrom X.env.cells scope.names []) s3.heap.objs.size cv builtinsNs X.env)) []) := by
    have h1 := hr.dp
    have h2 := hr.un
    refine ⟨hr.hd, ?_, ?_⟩
    · show X.A.depth + 0 + 1 + 3 * k + 5 < _
      omega
    · show X.A.units + 1 + 1 + 0 + 3 + 16 * k + 200 < _
      omega
  have Ig := gen_start I3 ok S hN f3 rm.hd (over_gen (show X.A.in1.in1.frames = some X.stack from hfrX)) kp hns
  have aC : h'.objs.size ≠ s3.heap.objs.size := by omega
  have Ig2 : Inv (gcx X (X.A.in1.in1.over (.compLoop (.GeneratorExp elt [⟨tg, iter, ifs, 0⟩] scope gpos) 0 (.ref it) .none (genEnv scope (cloFrom X.env.cells scope.names []) s3.heap.objs.size cv builtinsNs X.env)) []) s3 H3 (genEnv scope (cloFrom X.env.cells scope.names []) s3.heap.objs.size cv builtinsNs X.env) fp) [(h'.objs.size, go)] (wipe σ (own.map (·.2))) H3 s5 := by
    refine Ig.pins_of fun p hp => ?_
    rw [List.mem_singleton.mp hp]
    refine ⟨hga, I3.hok.fresh (by omega), aC, fun z => ?_, fun v q => by rw [← hgo] at q; cases q⟩
    rcases List.mem_cons.mp (I3.stkSub _ z) with z | z
    · have z : h'.objs.size = X.env.locals := z
      have q : h'.objs.size < s3.heap.objs.size := by rw [z]; exact I3.lt
      omega
    · exact I3.nofs (by omega) z
  have hpz : ∀ p ∈ [(h'.objs.size, go)], p.1 ∉ fp := fun p hp z => by
    rw [List.mem_singleton.mp hp] at z
    have q : h'.objs.size < s3.heap.objs.size := (f3 _ z).2
    omega
  have back : ∀ (σ' : L2.St) (H' : Hp) (s1 s' : Shared), Inv (gcx X (X.A.in1.in1.over (.compLoop (.GeneratorExp elt [⟨tg, iter, ifs, 0⟩] scope gpos) 0 (.ref it) .none (genEnv scope (cloFrom X.env.cells scope.names []) s3.heap.objs.size cv builtinsNs X.env)) []) s3 H3 (genEnv scope (cloFrom X.env.cells scope.names []) s3.heap.objs.size cv builtinsNs X.env) fp) [(h'.objs.size, go)] σ' H' s1 → Kept s1 s' → Inv X pins σ H' s' := fun σ' H' s1 s' J1 k1 => by
    have J := Inv.keptS J1 k1
    exact I3.call' (ch := fp) J.os J.base J.hok J.bare fun b hb => ⟨(f3 b hb).1.2.2.2.1, (f3 b hb).1.2.1, (f3 b hb).1.2.2.2.2.1, (f3 b hb).1.2.2.2.2.2⟩
  refine ⟨_, s3.gens.size, rfl, isg _ hga, walk_loop (X := gcx X (X.A.in1.in1.over (.compLoop (.GeneratorExp elt [⟨tg, iter, ifs, 0⟩] scope gpos) 0 (.ref it) .none (genEnv scope (cloFrom X.env.cells scope.names []) s3.heap.objs.size cv builtinsNs X.env)) []) s3 H3 (genEnv scope (cloFrom X.env.cells scope.names []) s3.heap.objs.size cv builtinsNs X.env) fp) (pz := [(h'.objs.size, go)]) (σ0 := wipe σ (own.map (·.2))) (QT := fun H => Q (.bl d) H) (QF := fun H => Q (.bl (!d)) H) d (List.mem_singleton.mpr rfl) isg hr.hd hr.depth (fun H' s1 s' J1 q k1 => ⟨d, rfl, .bl d, H', back _ H' s1 s' J1 k1, rfl, q⟩) (fun σ' H' s1 s' J1 q k1 => ⟨!d, rfl, .bl (!d), H', back σ' H' s1 s' J1 k1, rfl, q⟩) (m0 + 1) s5 (isg _ hga) Ig2.nolimit ⟨_, hgs, rfl, ?_⟩⟩
  have k6 : Kept s5 (s5.setGen s3.gens.size .running) := ⟨rfl, allBare_setGen kp.bare rfl, fun _ _ e => e⟩
  have st5 : tn 0 (s5.setGen s3.gens.size .running).heap := T.keep _ _ _ st3 fun b hb o e => kp.keep b o e
  exact seg_start T st5 (seg_loop T hc rfl S.co hpz (hg _ _ _ _ _ _ rm) (ht _ _ _ _ _ _ rm) (he _ _ _ _ _ _ rm) turn m0 (m0 + 1) 0 _ _ H3 (Nat.lt_succ_self _) (Inv.keptS Ig2 k6) st5 nf w0)
theorem pe_allX {c P : Addr} {elt tg iter : Expr} {ifs : List Expr} {gpos p pos : Pos} {scope : Scope} {own : List (Str × Nat)} {wi : TI} {g : TG} {tt : TT} {te : TE} {k : Nat}
    (hr : Room (k + 1) X.A) (hgl : Gl X "all") (hm : X.mg "all" = none) (hc : X.calm = true) (hN : X.N.Nodup) (TB : GxR.TabB X.base X.mg c P) (hcode : X.env.code = .ref c) (ok : BlkOk X.N X.env.scope scope own) (S : GenK scope) (hi : PI X tg iter wi)
    (hg : ∀ (A : Around) (s : Shared) (H : Hp) (C : Addr) (code : Value) (fp : List Addr), Room k A → PG (gcx X A s H (genEnv scope (cloFrom X.env.cells scope.names []) C code builtinsNs X.env) fp) tg g)
    (ht : ∀ (A : Around) (s : Shared) (H : Hp) (C : Addr) (code : Value) (fp : List Addr), Room k A → PTs (gcx X A s H (genEnv scope (cloFrom X.env.cells scope.names []) C code builtinsNs X.env) fp) ifs tt)
    (he : ∀ (A : Around) (s : Shared) (H : Hp) (C : Addr) (code : Value) (fp : List Addr), Room k A → PE (gcx X A s H (genEnv scope (cloFrom X.env.cells scope.names []) C code builtinsNs X.env) fp) elt te)
    (hs : ∀ v, genFold iter X.env v = pure v := by intro _; rfl)
    (hst : starEach [.GeneratorExp elt [⟨tg, iter, ifs, 0⟩] scope gpos] X.env = (false, eval (.GeneratorExp elt [⟨tg, iter, ifs, 0⟩] scope gpos) X.env) :: starEach [] X.env := by rfl) :
    PE X (.Call (.Name "all" p) [.GeneratorExp elt [⟨tg, iter, ifs, 0⟩] scope gpos] [] pos) (tQX true wi g tt te (own.map (·.2)) P) := by
  refine ⟨fun pins s σ H Q I h => ?_⟩
  refine wpAny_Call_Name_kw (ld_blt I hgl hm boot_all (PyProof.Rows.callWith_builtin1 ?_ hst (by rfl)))
  rw [hst]
  show wpAny _ _ (spliced ((false, _) :: backTo pos (starEach [] X.env))) _ _ s
  refine Calls.spliced_cons (wpAny_mono (gen_core hr hc hN TB hcode ok S hi hs hg ht he I h) (fun v s5 hx => ?_) fun _ _ e => e)
  obtain ⟨a, gn, rfl, hgn, hcd⟩ := hx
  refine Calls.spliced_nil ?_
  refine call_function_tree F.kind_all F.plain_all F.entry_all (F.args_all1 _) ?_
  unfold Builtin.«all»
  refine wpAny_bind (m := oneArg "all" _) (wpAny_pure ?_)
  refine wpAny_bind (wpAny_pyIter_gen hgn ?_)
  exact wpAny_pure ⟨plainId_quiet F.plain_all_loop _, codeAny_mono hcd fun r s' hx => by obtain ⟨b, rfl, q⟩ := hx; exact q⟩
theorem pe_anyX {c P : Addr} {elt tg iter : Expr} {ifs : List Expr} {gpos p pos : Pos} {scope : Scope} {own : List (Str × Nat)} {wi : TI} {g : TG} {tt : TT} {te : TE} {k : Nat}
    (hr : Room (k + 1) X.A) (hgl : Gl X "any") (hm : X.mg "any" = none) (hc : X.calm = true) (hN : X.N.Nodup) (TB : GxR.TabB X.base X.mg c P) (hcode : X.env.code = .ref c) (ok : BlkOk X.N X.env.scope scope own) (S : GenK scope) (hi : PI X tg iter wi)
    (hg : ∀ (A : Around) (s : Shared) (H : Hp) (C : Addr) (code : Value) (fp : List Addr), Room k A → PG (gcx X A s H (genEnv scope (cloFrom X.env.cells scope.names []) C code builtinsNs X.env) fp) tg g)
    (ht : ∀ (A : Around) (s : Shared) (H : Hp) (C : Addr) (code : Value) (fp : List Addr), Room k A → PTs (gcx X A s H (genEnv scope (cloFrom X.env.cells scope.names []) C code builtinsNs X.env) fp) ifs tt)
    (he : ∀ (A : Around) (s : Shared) (H : Hp) (C : Addr) (code : Value) (fp : List Addr), Room k A → PE (gcx X A s H (genEnv scope (cloFrom X.env.cells scope.names []) C code builtinsNs X.env) fp) elt te)
    (hs : ∀ v, genFold iter X.env v = pure v := by intro _; rfl)
    (hst : starEach [.GeneratorExp elt [⟨tg, iter, ifs, 0⟩] scope gpos] X.env = (false, eval (.GeneratorExp elt [⟨tg, iter, ifs, 0⟩] scope gpos) X.env) :: starEach [] X.env := by rfl) :
    PE X (.Call (.Name "any" p) [.GeneratorExp elt [⟨tg, iter, ifs, 0⟩] scope gpos] [] pos) (tQX false wi g tt te (own.map (·.2)) P) := by
  refine ⟨fun pins s σ H Q I h => ?_⟩
  refine wpAny_Call_Name_kw (ld_blt I hgl hm boot_any (PyProof.Rows.callWith_builtin1 ?_ hst (by rfl)))
  rw [hst]
  show wpAny _ _ (spliced ((false, _) :: backTo pos (starEach [] X.env))) _ _ s
  refine Calls.spliced_cons (wpAny_mono (gen_core hr hc hN TB hcode ok S hi hs hg ht he I h) (fun v s5 hx => ?_) fun _ _ e => e)
  obtain ⟨a, gn, rfl, hgn, hcd⟩ := hx
  refine Calls.spliced_nil ?_
  refine call_function_tree F.kind_any F.plain_any F.entry_any (F.args_any1 _) ?_
  unfold Builtin.«any»
  refine wpAny_bind (m := oneArg "any" _) (wpAny_pure ?_)
  refine wpAny_bind (wpAny_pyIter_gen hgn ?_)
  exact wpAny_pure ⟨plainId_quiet F.plain_any_loop _, codeAny_mono hcd fun r s' hx => by obtain ⟨b, rfl, q⟩ := hx; exact q⟩
end
end Gx

set_option Elab.async false
set_option linter.all false
set_option maxRecDepth 100000
set_option maxHeartbeats 4000000
/-! the turns, by source -/
namespace Gx
open PySem PySem.Spec PyProof.Rows L2
theorem all_range {lo : Int} {n : Nat} {g : TG} {tt : TT} {te : TE} {vs : List Nat} {σ : L2.St} {d : Bool} {QT QF : Hp → Prop} {H2 : Hp} (Pv : Nat → Hp → Prop) (h0 : Pv 0 H2)
    (hs : ∀ i H, i < n → Pv i H → g (.int (lo + i)) (wipe σ vs) H fun σ2 H2 => wipe σ2 vs = wipe σ vs ∧ tt σ2 H2 fun b H3 => if b = true then te σ2 H3 fun y H4 => ∃ c, y = .bl c ∧ (if c = d then Pv (i + 1) H4 else QF H4) else Pv (i + 1) H3) (hd : ∀ H, Pv n H → QT H) :
    ∃ W : Nat → Nat → Hp → Prop, (∃ m, W 0 m H2) ∧ Turns (Itr lo n) g tt te vs σ d QT QF W := by
  refine ⟨fun i m H => m = n - i ∧ i ≤ n ∧ Pv i H, ⟨n, by simp, Nat.zero_le _, h0⟩, ?_⟩
  rintro i m H ⟨rfl, hi, p⟩
  by_cases hlt : i < n
  · refine .inr ⟨hlt, Pv (i + 1), fun H' p' => ⟨n - (i + 1), by omega, rfl, hlt, p'⟩, fun x H' y => ?_⟩
    obtain ⟨e, y⟩ := y
    subst e y
    exact hs i _ hlt p
  · have e : i = n := by omega
    subst e
    exact .inl ⟨Nat.le_refl _, hd H p⟩
theorem all_tup {K : PySem.W.Frag} {a : Addr} {xs : List V} {g : TG} {tt : TT} {te : TE} {vs : List Nat} {σ : L2.St} {d : Bool} {QT QF : Hp → Prop} {H2 : Hp} (Pv : Nat → Hp → Prop) (h0 : Pv 0 H2) (hl : ∀ i H, i ≤ xs.length → Pv i H → SqT K H a xs)
    (hs : ∀ i x H, xs[i]? = some x → Pv i H → g x (wipe σ vs) H fun σ2 H2 => wipe σ2 vs = wipe σ vs ∧ tt σ2 H2 fun b H3 => if b = true then te σ2 H3 fun y H4 => ∃ c, y = .bl c ∧ (if c = d then Pv (i + 1) H4 else QF H4) else Pv (i + 1) H3) (hd : ∀ H, Pv xs.length H → QT H) :
    ∃ W : Nat → Nat → Hp → Prop, (∃ m, W 0 m H2) ∧ Turns (Itt K a) g tt te vs σ d QT QF W := by
  refine ⟨fun i m H => m = xs.length - i ∧ i ≤ xs.length ∧ Pv i H, ⟨xs.length, by simp, Nat.zero_le _, h0⟩, ?_⟩
  rintro i m H ⟨rfl, hi, p⟩
  have q := hl i H hi p
  by_cases hlt : i < xs.length
  · refine .inr ⟨⟨xs, xs[i], q, by simp [hlt]⟩, Pv (i + 1), fun H' p' => ⟨xs.length - (i + 1), by omega, rfl, hlt, p'⟩, fun x H' y => ?_⟩
    obtain ⟨e, y⟩ := y
    subst e
    exact hs i x _ (y xs q) p
  · have e : i = xs.length := by omega
    subst e
    exact .inl ⟨⟨xs, q, Nat.le_refl _⟩, hd H p⟩
theorem all_list {K : PySem.W.Frag} {a : Addr} {xs : List V} {g : TG} {tt : TT} {te : TE} {vs : List Nat} {σ : L2.St} {d : Bool} {QT QF : Hp → Prop} {H2 : Hp} (Pv : Nat → Hp → Prop) (h0 : Pv 0 H2) (hl : ∀ i H, i ≤ xs.length → Pv i H → SqL K H a xs)
    (hs : ∀ i x H, xs[i]? = some x → Pv i H → g x (wipe σ vs) H fun σ2 H2 => wipe σ2 vs = wipe σ vs ∧ tt σ2 H2 fun b H3 => if b = true then te σ2 H3 fun y H4 => ∃ c, y = .bl c ∧ (if c = d then Pv (i + 1) H4 else QF H4) else Pv (i + 1) H3) (hd : ∀ H, Pv xs.length H → QT H) :
    ∃ W : Nat → Nat → Hp → Prop, (∃ m, W 0 m H2) ∧ Turns (Itl K a) g tt te vs σ d QT QF W := by
  refine ⟨fun i m H => m = xs.length - i ∧ i ≤ xs.length ∧ Pv i H, ⟨xs.length, by simp, Nat.zero_le _, h0⟩, ?_⟩
  rintro i m H ⟨rfl, hi, p⟩
  have q := hl i H hi p
  by_cases hlt : i < xs.length
  · refine .inr ⟨⟨xs, xs[i], q, by simp [hlt]⟩, Pv (i + 1), fun H' p' => ⟨xs.length - (i + 1), by omega, rfl, hlt, p'⟩, fun x H' y => ?_⟩
    obtain ⟨e, y⟩ := y
    subst e
    exact hs i x _ (y xs q) p
  · have e : i = xs.length := by omega
    subst e
    exact .inl ⟨⟨xs, q, by simp⟩, hd H p⟩
end Gx

set_option Elab.async false
set_option linter.all false
set_option maxRecDepth 100000
set_option maxHeartbeats 4000000
/-! tuple(..) of a generator expression: any source, any target, any element -/
namespace Gx
open PySem PySem.Spec PyProof.Rows L2 GenW
def TurnsC (J : It) (g : TG) (tt : TT) (te : TE) (vs : List Nat) (σ : L2.St) (Q : List V → Hp → Prop) (W : Nat → Nat → List V → Hp → Prop) : Prop := ∀ i m ys H, W i m ys H →
  (J.stop i H ∧ Q ys H) ∨ (J.go i H ∧ ys.length < sizeLine ∧ ∃ Nx : List V → Hp → Prop, (∀ ys' H', Nx ys' H' → ∃ m', m' < m ∧ W (i + 1) m' ys' H') ∧ ∀ x H', J.yld i H x H' → g x (wipe σ vs) H' fun σ2 H2 => wipe σ2 vs = wipe σ vs ∧ tt σ2 H2 fun b H3 =>
    if b = true then te σ2 H3 fun y H4 => Nx (ys ++ [y]) H4 else Nx ys H3)
section
variable {X : Cx} {A B : Around} {s3 : Shared} {H3 : Hp} {cenv : Env} {fp : List Addr} {σ : L2.St}
theorem seg_loopC {elt tg iter : Expr} {ifs : List Expr} {scope : Scope} {pos : Pos} {it a : Addr} {gn : Nat} {go : Obj} {J : It} {tn : Nat → Heap → Prop} {g : TG} {tt : TT} {te : TE} {vs : List Nat} {Q : List V → Hp → Prop} {W : Nat → Nat → List V → Hp → Prop} {S : Addr} {E : XK}
    (T : Turn X.prog X.w X.K tg J fp it tn) (hc : X.calm = true) (hov : B.over (.compLoop (.GeneratorExp elt [⟨tg, iter, ifs, 0⟩] scope pos) 0 (.ref it) .none cenv) [] = A) (hco : cenv.scope.isCoroutine = false) (haf : a ∉ fp) (hSf : S ∉ fp) (haS : a ≠ S) (hAp : Apart (gcx X A s3 H3 cenv fp) S)
    (hgo : ∀ h : Heap, h.get? a = some go → h.IsGen a gn)
    (pg : PG (gcx X A s3 H3 cenv fp) tg g) (pt : PTs (gcx X A s3 H3 cenv fp) ifs tt) (pe : PE (gcx X A s3 H3 cenv fp) elt te) (turn : TurnsC J g tt te vs σ Q W) :
    ∀ (m n i : Nat) (ys : List V) (s₀ s : Shared) (H : Hp), n + ys.length = sizeLine → GI (gcx X A s3 H3 cenv fp) S [(a, go)] ys (wipe σ vs) H s → tn i s.heap → (∀ b ∈ fp, H b = none) → W i m ys H →
      Seg (model X.prog X.w) B (REnd X.prog X.w X.stack H3 s3 fp S a gn Q E) (YItem s3 S a gn) n s₀
        (.compLoop (.GeneratorExp elt [⟨tg, iter, ifs, 0⟩] scope pos) 0 (.ref it) .none cenv)
        ((model X.prog X.w).den (.compLoop (.GeneratorExp elt [⟨tg, iter, ifs, 0⟩] scope pos) 0 (.ref it) .none cenv)) [] s := by
  have stat : ∀ {σ' : L2.St} {H' : Hp} {s' : Shared} {acc : Array Value} {c : Nat}, Inv (gcx X A s3 H3 cenv fp) ((S, lstObj acc c) :: [(a, go)]) σ' H' s' → (∀ b ∈ fp, H' b = none) → ∀ b ∈ fp, FpOk (gcx X A s3 H3 cenv fp) ((S, lstObj acc c) :: [(a, go)]) H' b := fun {σ' H' s' acc c} I' hn b hb =>
    ⟨hn b hb, (I'.ok.exf b hb).1, I'.ok.exfs b hb, .inl hb, fun x c e => (I'.ok.exf b hb).2 x c e, fun p hp z => by
      have hp : p ∈ (S, lstObj acc c) :: [(a, go)] := by simpa using hp
      rcases List.mem_cons.mp hp with q | q
      · rw [q] at z; exact hSf (by have z : S = b := z; rw [z]; exact hb)
      · rw [List.mem_singleton.mp q] at z; exact haf (by have z : a = b := z; rw [z]; exact hb)⟩
  intro m
  induction m using Nat.strongRecOn with
  | ind m ih =>
    intro n i ys s₀ s H hmn hG st nf w
    obtain ⟨acc, cc, rv, I⟩ := hG
    show Seg _ B _ _ _ s₀ _ ((compTurn (.GeneratorExp elt [⟨tg, iter, ifs, 0⟩] scope pos) 0 (.ref it) .none cenv).onRaise (leaving cenv)) [] s
    rw [compTurn_gen, Sem.onRaise_eq_wrap]
    refine seg_bind_wrap (wpAny_standAt ?_)
    rcases turn i m ys H w with ⟨stop, qq⟩ | ⟨go', hys, Nx, hNx, step⟩
    · refine seg_bind_wrap ?_
      rw [hov]
      refine wpAny_mono (T.done (gcx X A s3 H3 cenv fp) rfl rfl rfl hc i _ s _ H (fun _ _ => False) I (stat I nf) st stop) (fun r s6 hx => ?_) fun _ _ e => e.elim
      obtain ⟨rfl, I6⟩ := hx
      obtain ⟨z1, z2, z3, z4, _⟩ := I6.pin (S, lstObj acc cc) (List.mem_append_right _ List.mem_cons_self)
      exact seg_end (.ok .next) (.inl ⟨.inr rfl, H, ys, acc, cc, I6.os, I6.bare, I6.base, I6.hok, z2, z1, rv, by omega, qq⟩)
    · refine seg_bind_wrap ?_
      rw [hov]
      refine wpAny_mono (T.item (gcx X A s3 H3 cenv fp) rfl rfl rfl hc i _ s _ H (fun _ _ => False) I (stat I nf) st go') (fun r s6 hx => ?_) fun _ _ e => e.elim
      obtain ⟨u, rfl, h6⟩ := hx
      refine seg_bind_wrap ?_
      rw [hov]
      refine wpAny_mono h6 (fun _ s7 hx => ?_) fun _ _ e => e.elim
      obtain ⟨x, H7, I7, r7, y7, st7, n7⟩ := hx
      have I7' := I7.pinned (stat I7 n7) (T.obj _ _ st7)
      refine seg_bind_wrap ?_
      rw [hov]
      refine wpAny_mono (pg.run _ s7 _ H7 x u _ I7' r7 (step x H7 y7)) (fun _ s8 hx => ?_) fun _ _ e => e.elim
      obtain ⟨σ8, H8, I8, hw8, q8⟩ := hx
      refine seg_bind_wrap ?_
      rw [hov]
      refine wpAny_mono (pt.run _ s8 σ8 H8 _ I8 q8) (fun b s9 hx => ?_) fun _ _ e => e.elim
      obtain ⟨H9, I9, q9⟩ := hx
      have fin : ∀ {s' : Shared} {H' : Hp} {ys' : List V}, GI (gcx X A s3 H3 cenv fp) S ([(a, go)] ++ pinsAt fp s7.heap) ys' σ8 H' s' → GI (gcx X A s3 H3 cenv fp) S [(a, go)] ys' (wipe σ vs) H' s' ∧ tn (i + 1) s'.heap ∧ ∀ b ∈ fp, H' b = none := fun {s' H' ys'} hG' => by
        obtain ⟨acc', cc', rv', I'⟩ := hG'
        have I' : Inv (gcx X A s3 H3 cenv fp) (((S, lstObj acc' cc') :: [(a, go)]) ++ pinsAt fp s7.heap) σ8 H' s' := I'
        have pin' : ∀ b ∈ fp, ∀ o, s7.heap.get? b = some o → s'.heap.get? b = some o ∧ H' b = none := fun b hb o e =>
          let z := I'.pin (b, o) (List.mem_append_right _ (List.mem_append_right _ (mem_pinsAt hb e)))
          ⟨z.1, z.2.1⟩
        have hl : (wipe σ vs).length = σ8.length := by rw [← hw8, wipe_length]
        refine ⟨⟨acc', cc', rv', I'.unpinned.weak hl (fun j v e => ?_)⟩, T.keep _ _ _ st7 fun b hb o e => (pin' b hb o e).1, fun b hb => ?_⟩
        · rw [← hw8] at e
          exact (wipe_some e).1
        · obtain ⟨o, e, _⟩ := T.obj _ _ st7 b hb
          exact (pin' b hb o e).2
      cases b with
      | false =>
        simp only [Bool.false_eq_true, if_false] at q9 ⊢
        obtain ⟨m', hm, w'⟩ := hNx ys H9 q9
        obtain ⟨f1, f2, f3⟩ := fin (ys' := ys) ⟨acc, cc, rv, I9⟩
        exact seg_again rfl (ih m' hm n (i + 1) ys s₀ _ H9 hmn f1 f2 f3 w')
      | true =>
        simp only [if_true] at q9 ⊢
        have hy : ∀ v, yieldOut cenv v = yieldValue v := fun v => by simp only [yieldOut, hco, Bool.false_eq_true, if_false]
        simp only [hy]
        rw [Sem.bind_eq_wrap', Sem.bind_eq_wrap', Sem.wrap_wrap, Sem.wrap_wrap]
        refine seg_wrap ?_
        rw [hov]
        refine wpAny_mono (pe.run _ s9 σ8 H9 _ I9 q9) (fun z s10 hx => ?_) fun _ _ e => e.elim
        obtain ⟨yv, H10, I10, r10, nx⟩ := hx
        obtain ⟨n, rfl⟩ : ∃ n', n = n' + 1 := ⟨n - 1, by omega⟩
        have hasz : acc.size = ys.length := by
          have e1 := rv.length
          have e2 : acc.toList.length = acc.size := by simp
          omega
        have pS := I10.pin (S, lstObj acc cc) (List.mem_append_right _ List.mem_cons_self)
        have pA := I10.pin (a, go) (List.mem_append_right _ (List.mem_append_left _ (List.mem_cons_of_mem _ (List.mem_singleton.mpr rfl))))
        refine seg_at (seg_yield rfl rfl rfl ⟨I10.os, I10.bare, I10.nolimit, hgo _ pA.1, ⟨acc, cc, pS.1, by rw [hasz]; omega⟩, fun s'' hk => ?_⟩)
        obtain ⟨m', hm, w'⟩ := hNx (ys ++ [yv]) H10 nx
        have hG10 : GI (gcx X A s3 H3 cenv fp) S ([(a, go)] ++ pinsAt fp s7.heap) ys σ8 H10 s10 := ⟨acc, cc, rv, I10⟩
        have wk := hG10.woken (x := yv) (fun p hp => by simp at hp) (fun p hp z => by
          rcases List.mem_append.mp hp with q | q
          · rw [List.mem_singleton.mp q] at z; exact haS z
          · obtain ⟨hb, _⟩ := of_pinsAt q
            exact hSf (by rw [← z]; exact hb)) hAp r10 hk
        obtain ⟨f1, f2, f3⟩ := fin wk
        exact seg_again rfl (ih m' hm n (i + 1) (ys ++ [yv]) s'' s'' H10 (by rw [List.length_append, List.length_singleton]; omega) f1 f2 f3 w')
end
/-- tuple(g), g a generator that has not begun -/
theorem call_tuple_new {P : Program} {w : World} {outer : List Env} {H : Hp} {sc s : Shared} {ex : List Addr} {Q : List V → Hp → Prop} {A : Around} {k : Nat} {u : Value} {Q' : Value → Shared → Prop} {E : Value → Shared → Prop}
    (hr : Room (k + 1) A) (hfr : A.frames = some outer) (h : GMade P w k outer H sc ex Q (fun _ _ _ => False) u s)
    (hQ : ∀ (s' : Shared) (acc : Array Value) (H' : Hp) (ys : List V), Vals ys acc.toList → ys.length ≤ sizeLine → s'.os = sc.os → AllBare s'.gens → Un (frs outer) ex H H' sc.heap s'.heap → HOk P w H' s'.heap → Q ys H' → Q' (.ref s'.heap.objs.size) { s' with heap := s'.heap.push { cls := .type "tuple", data := .seq acc } }) :
    wpAny (model P w) A (call (.type "tuple") [u]) Q' E s := by
  obtain ⟨a, g, c, rfl, ha1, ha2, hg, hgs, hos, hb, hl, hkp, wake⟩ := h
  have hSa : s.heap.objs.size ≠ a := Nat.ne_of_gt ha2
  have hcl : cStatics < s.heap.objs.size := let ⟨_, hn, _⟩ := hl; hn.lt
  have hSc : s.heap.objs.size ≠ cStatics := Nat.ne_of_gt hcl
  refine callType_codes (Q₁ := fun obj s₁ => s₁.TypeIs obj "tuple" ∧ Q' obj s₁) F.called_tuple (F.typeCall_tuple_1 _) F.entry_object_init ?_ fun obj s₁ h₁ =>
    ⟨h₁.1, F.args_object_init_2 obj _, object_init_meets F.called_tuple.init.lookup F.called_tuple.made (by decide) P w A.in1 _ s₁ ⟨h₁.1, rfl, h₁.2⟩⟩
  refine codeAny_of_tree ?_
  show wpAny _ A.in1.in1 (do checkBuiltinCall "tuple.__new__" ⟨[.type "tuple", .ref a], []⟩; again (.builtin "tuple.__new__" ⟨[.type "tuple", .ref a], []⟩)) _ _ s
  refine wpAny_bind (wpAny_of_eq (F.newCall_tuple_1 _) (wpAny_pure ⟨plainId_quiet F.plain_tuple_new _, codeAny_builtin F.entry_tuple_new ?_⟩))
  rw [Around.under_plainId F.plain_tuple_new _]
  have hsub := sub_tuple_self
  have hinit := init_tuple_lookup
  have hmh := madeHere_tuple
  have hTI := hg.typeIs (s := s)
  have coll : ∀ {A2 : Around} {QC : List Value → Shared → Prop} {EC : Value → Shared → Prop}, A2.handled = none → A2.depth = A.depth → A2.units ≤ A.units + 8 → A2.frames = some outer →
      (∀ (s' : Shared) (acc : Array Value) (H' : Hp) (ys : List V), Vals ys acc.toList → ys.length ≤ sizeLine → s'.os = sc.os → AllBare s'.gens → Un (frs outer) ex H H' sc.heap s'.heap → HOk P w H' s'.heap → Q ys H' → QC acc.toList s') → wpAny (model P w) A2 (collect (.ref a)) QC EC s := fun {A2 QC EC} h1 h2 h3 h4 hq => by
    unfold collect
    refine wpAny_bind (wpAny_runValue (codeAny_builtin F.entry_proto_collect ?_))
    rw [Around.under_plainId F.plain_proto_collect _]
    show wpAny _ A2.in1 (newList [] >>= fun l => again (.builtin "list.__iadd__" ⟨[l, .ref a], []⟩)) _ _ s
    refine wpAny_bind (wpAny_newObj_type ?_)
    refine wpAny_pure ⟨plainId_quiet F.plain_list_iadd _, codeAny_builtin F.entry_list_iadd ?_⟩
    rw [Around.under_plainId F.plain_list_iadd _]
    show wpAny _ A2.in1 (Builtin.List.listExtendWith (.ref s.heap.objs.size) (.ref a) (.ref s.heap.objs.size)) _ _ _
    unfold Builtin.List.listExtendWith
    have up : ∀ (h : Heap) (f : Obj → Obj), (∀ b o, s.heap.get? b = some o → h.get? b = some o) → ∀ b o, s.heap.get? b = some o → (h.update s.heap.objs.size f).get? b = some o := fun h f q b o e =>
      (Heap.get?_update_other _ _ (Ne.symm (Nat.ne_of_lt (Heap.lt_size e)))).trans (q b o e)
    have k1 : ∀ b o, s.heap.get? b = some o → (s.heap.push { cls := .type "list", data := .seq ([] : List Value).toArray }).get? b = some o := fun b o e => Heap.get?_push_of_some _ e
    have gty : ∀ {h : Heap}, (∀ b o, s.heap.get? b = some o → h.get? b = some o) → h.IsGen a g := fun {h} q => hg.keeps q
    refine wpAny_bind (wpAny_typeOf (Heap.IsGen.typeIs (s := { s with heap := _ }) (gty k1)) ?_)
    have e1 : Builtin.List.listSameRef (.ref s.heap.objs.size) (.ref a) = false := by simp [Builtin.List.listSameRef, hSa]
    have e2 : (Value.type "generator" == Value.type "list") = false := by decide
    have e3 : (Value.type "generator" == Value.type "tuple") = false := by decide
    simp only [e1, e2, e3, Bool.or_false, Bool.false_eq_true, if_false]
    refine wpAny_bind (wpAny_pyIter_gen (s := { s with heap := _ }) (gty k1) ?_)
    refine wpAny_bind (wpAny_holding ?_)
    unfold Builtin.List.listLengthHint
    refine wpAny_bind (wpAny_specialOf (Heap.IsGen.typeIs (s := { s with heap := _ }) (gty k1)) F.gen_no_len ?_)
    show wpAny _ A2.in1 (specialOf (Value.ref a) (Str.ofString "__length_hint__") >>= _) _ _ _
    refine wpAny_bind (wpAny_specialOf (Heap.IsGen.typeIs (s := { s with heap := _ }) (gty k1)) F.gen_no_hint ?_)
    refine wpAny_pure ?_
    show wpAny _ A2.in1 (rule "list.extend.makes-room" >>= fun _ => Builtin.List.listTouch (.ref s.heap.objs.size) >>= fun _ =>
      again (.builtin "list.extend.loop" ⟨[.ref s.heap.objs.size, .ref a, .ref s.heap.objs.size], []⟩)) _ _ _
    refine wpAny_bind (wpAny_rule ?_)
    have hS₁ : (s.heap.push { cls := .type "list", data := .seq ([] : List Value).toArray }).get? s.heap.objs.size = some { cls := .type "list", data := .seq ([] : List Value).toArray } := Heap.get?_push_size _ rfl
    refine wpAny_bind ?_
    show wpAny _ A2.in1 (updateSeq s.heap.objs.size (·.push .none) >>= fun _ => updateSeq s.heap.objs.size (·.pop)) _ _ _
    refine wpAny_bind (wpAny_updateSeq hS₁ rfl ?_)
    have hS₂ := Heap.get?_update_self (Obj.mapSeq (·.push Value.none)) hS₁ rfl
    refine wpAny_updateSeq hS₂ rfl ?_
    have hS₃ := Heap.get?_update_self (Obj.mapSeq (·.pop)) hS₂ rfl
    have k4 := up _ (Obj.mapSeq (·.pop)) (up _ (Obj.mapSeq (·.push Value.none)) k1)
    refine wpAny_pure ⟨plainId_quiet F.plain_extend_loop _, ?_⟩
    refine drain (P := P) (w := w) (outer := outer) (H := H) (sc := sc) (ex := ex) (Q := Q) (EX := fun _ _ _ => False) (A := A2) (g := g) h1 (by have := hr.dp; omega) hSa hSc
      (fun s' acc c H' ys q1 q2 q3 q4 q5 q6 q7 q8 q9 => ?_) (fun e s' hc => by obtain ⟨_, _, _, _, _, _, _, _, _, _, _, _, hf⟩ := hc; exact hf.elim)
      sizeLine _ (gty k4) (hl.keeps k4) ⟨_, hgs, rfl, ?_⟩
    · show wpAny _ A2 (load s.heap.objs.size >>= _) _ _ s'
      refine wpAny_bind (wpAny_load q1 ?_)
      exact wpAny_pure (hq s' acc H' ys q2 q3 q4 q5 q6 q7 q9)
    · refine wake _ _ _ ⟨h1, ?_, ?_⟩ h4 (Nat.le_refl _) k4 ⟨_, hS₃⟩ hos (allBare_setGen (s := { s with heap := _ }) hb rfl)
      · have := hr.dp
        show A2.depth + 3 * k + 5 < _
        omega
      · have := hr.un
        show A2.units + 1 + 1 + 16 * k + 200 < _
        omega
  wp_walk using wpAny_typeOf hTI, coll (A2 := A.in1.in1) hr.hd rfl (by show A.units + 1 + 1 ≤ A.units + 8; omega) hfr
  intro s' acc H' ys q1 q2 q3 q4 q5 q6 q7
  show wpAny _ _ (Builtin.Tuple.tupleExact acc.toList.toArray >>= fun v => ret v) _ _ _
  unfold Builtin.Tuple.tupleExact
  have hz : acc.size ≤ sizeLine := by
    have e1 := q1.length
    have e2 : acc.toList.length = acc.size := by simp
    omega
  refine wpAny_bind (wpAny_newObj_type ?_ (by show acc.toList.toArray.size ≤ sizeLine; simp only [Array.toArray_toList]; exact hz))
  refine wpAny_pure ?_
  have e : acc.toList.toArray = acc := by simp
  rw [e]
  exact ⟨⟨_, Heap.get?_push_size _ rfl, rfl⟩, hQ s' acc H' ys q1 q2 q3 q4 q5 q6 q7⟩
end Gx

set_option Elab.async false
set_option linter.all false
set_option maxRecDepth 100000
set_option maxHeartbeats 4000000
namespace Gx
open PySem PySem.Spec PyProof.Rows L2 GenW
def tCX (wi : TI) (g : TG) (tt : TT) (te : TE) (vs : List Nat) (P : Addr) : TE := fun σ H Q => wi σ H fun J H1 => GxR.TabG H1 P ∧ ∀ H2, GxR.Tabbed P H1 H2 → ∃ W : Nat → Nat → List V → Hp → Prop, (∃ m, W 0 m [] H2) ∧
  TurnsC J g tt te vs σ (fun ys H => ∀ p, H p = none → Q (.ref p) (upd H p (.tup ys))) W
section
variable {X : Cx} {pins : List (Addr × Obj)} {σ : L2.St} {H : Hp} {s : Shared}
theorem gen_made {c P : Addr} {elt tg iter : Expr} {ifs : List Expr} {gpos : Pos} {scope : Scope} {own : List (Str × Nat)} {wi : TI} {g : TG} {tt : TT} {te : TE} {k : Nat} {QQ : List V → Hp → Prop}
    (hr : Room (k + 1) X.A) (hc : X.calm = true) (hN : X.N.Nodup) (TB : GxR.TabB X.base X.mg c P) (hcode : X.env.code = .ref c) (ok : BlkOk X.N X.env.scope scope own) (S : GenK scope) (hi : PI X tg iter wi) (hs : ∀ v, genFold iter X.env v = pure v)
    (hg : ∀ (A : Around) (s : Shared) (H : Hp) (C : Addr) (code : Value) (fp : List Addr), Room k A → PG (gcx X A s H (genEnv scope (cloFrom X.env.cells scope.names []) C code builtinsNs X.env) fp) tg g)
    (ht : ∀ (A : Around) (s : Shared) (H : Hp) (C : Addr) (code : Value) (fp : List Addr), Room k A → PTs (gcx X A s H (genEnv scope (cloFrom X.env.cells scope.names []) C code builtinsNs X.env) fp) ifs tt)
    (he : ∀ (A : Around) (s : Shared) (H : Hp) (C : Addr) (code : Value) (fp : List Addr), Room k A → PE (gcx X A s H (genEnv scope (cloFrom X.env.cells scope.names []) C code builtinsNs X.env) fp) elt te)
    (I : Inv X pins σ H s) (h : wi σ H fun J H1 => GxR.TabG H1 P ∧ ∀ H2, GxR.Tabbed P H1 H2 → ∃ W : Nat → Nat → List V → Hp → Prop, (∃ m, W 0 m [] H2) ∧ TurnsC J g tt te (own.map (·.2)) σ QQ W) :
    wpAny (model X.prog X.w) X.A (eval (.GeneratorExp elt [⟨tg, iter, ifs, 0⟩] scope gpos) X.env) (fun v s5 => ∃ (s3 : Shared) (H3 : Hp) (fp : List Addr), GMade X.prog X.w (k + 1) X.stack H3 s3 fp QQ (fun _ _ _ => False) v s5 ∧
      ∀ (H' : Hp) (s' : Shared), s'.os = s3.os → AllBare s'.gens → Un (frs X.stack) fp H3 H' s3.heap s'.heap → HOk X.prog X.w H' s'.heap → Inv X pins σ H' s') X.xe s := by
  have hfree : ∀ y ∈ scope.names, y.2 = .free → ∃ c, X.env.cells.lookup y.1 = some c := fun y hy e => by
    rcases ok.free y hy e with k | k
    · exact I.ok.has _ (.inl k)
    · exact I.ok.has _ (.inr k)
  refine wpAny_GeneratorExp_make S.co (closure_ok hfree) S.cell S.dot ok.kind hr.depth (wpAny_mono (hi.run pins s σ H _ I h) (fun xv s1 h1 => wpAny_mono h1 (fun itv s2 h2 => ?_) fun _ _ e => e) fun _ _ e => e) hs
  obtain ⟨it, fp, tn, J, H1, rfl, I2, T, st2, f2, ⟨ps, hP, htr⟩, hW⟩ := h2
  refine ⟨I2.nolimit, ?_⟩
  have tabS : s2.heap.get? P = some { cls := .none, data := .fields ps } := I2.hok P _ hP
  have hd : PySem.W.CodeHd s2.heap c P := TB.code.keeps fun b u e => I2.bk b u e
  have key : ∀ (REST : Value → Shared → Prop), (∀ (cv : Value) (h3 : Heap) (tk : Nat) (more : Array Value), Heap.ExtBut P s2.heap h3 → s2.heap.objs.size ≤ h3.objs.size → h3.get? P = some { cls := .none, data := .fields (ps ++ more) } → TriplesOk (ps ++ more).toList → REST cv { s2 with heap := h3, toks := tk }) →
      wpAny (model X.prog X.w) X.A (genexprCode X.env gpos (X.env.qual ++ "<genexpr>") scope) REST X.xe s2 := fun REST fin => by
    cases hf : codeAmong gpos ps.toList with
    | some cv =>
      have e : ps = ps ++ #[] := by simp
      exact wpAny_genexprCode_hit hcode (hd.code tabS htr) hf (fin cv _ s2.toks #[] (Heap.ExtBut.refl _ _) (Nat.le_refl _) (e ▸ tabS) (e ▸ htr))
    | none =>
      refine wpAny_genexprCodeX hcode (hd.code tabS htr) (hd.tab tabS) hf fun c' h3 tk ex ge lt ic _ ta _ => ?_
      obtain ⟨_, _, _, _, _, _, _, _, _, _, _, _, _, _, _, _, _, _, _, tr, _⟩ := ic
      exact fin _ h3 tk _ ex (Nat.le_trans ge (Nat.le_of_lt lt)) ta.2 tr
  refine key _ fun cv h3 tk more ex ge tab3 tr3 => ?_
  obtain ⟨bm, ob, b1, b2, b3, b4, b5, b6, b7, b8⟩ := TB.bm
  refine wpAny_builtinsFor (m := X.mg) (by rw [I2.ok.glob]; exact (I2.mod.glob.keeps I2.bk).extBut ex TB.gP) b1 b2 (ex _ _ b4 (I2.bk _ _ b5)) b6 b7 b8 ?_
  intro h' hn' hs'
  generalize hs3 : ({ s2 with heap := h3, toks := tk } : Shared) = s3 at hn' hs' ⊢
  have e3 : s3.heap = h3 := by rw [← hs3]
  have I3 : Inv X pins σ (upd H1 P (.tbl (ps ++ more))) s3 := by
    rw [← hs3]
    exact GxR.inv_tab (more := more) (h' := h3) (g' := s2.gens) (d' := s2.drawn) (t' := tk) I2 hP (fun b o n e => ex b o n e) tab3 I2.bare
  obtain ⟨W, ⟨m0, w0⟩, turn⟩ := hW _ ⟨⟨ps ++ more, upd_same, tr3⟩, fun b hb => upd_ne hb⟩
  have neP : ∀ b ∈ fp, b ≠ P := fun b hb z => by
    have := (f2 b hb).1
    rw [z, hP] at this
    cases this
  have f3 : ∀ b ∈ fp, FpOk X pins (upd H1 P (.tbl (ps ++ more))) b ∧ b < s3.heap.objs.size := fun b hb => by
    obtain ⟨o, e, _⟩ := T.obj _ _ st2 b hb
    refine ⟨⟨?_, (f2 b hb).2⟩, by rw [e3]; exact Nat.lt_of_lt_of_le (Heap.lt_size e) ge⟩
    rw [upd_ne (neP b hb)]
    exact (f2 b hb).1
  have st3 : tn 0 s3.heap := T.keep _ _ _ st2 fun b hb o e => by rw [e3]; exact ex b o (neP b hb) e
  generalize hH3 : upd H1 P (.tbl (ps ++ more)) = H3 at I3 w0 f3
  have nf : ∀ b ∈ fp, H3 b = none := fun b hb => (f3 b hb).1.1
  generalize hgo : ({ cls := .type "generator", data := .fields #[.int s3.gens.size 0, .str "<genexpr>" (s3.toks + 1), .str (X.env.qual ++ "<genexpr>") (s3.toks + 1 + 1)] } : Obj) = go
  have sz' : h'.objs.size = s3.heap.objs.size + 1 := by rw [hs'.1, Heap.size_push]
  generalize hs5 : ({ s3 with gens := s3.gens.push (.fresh (.compStart (.GeneratorExp elt [⟨tg, iter, ifs, 0⟩] scope gpos) 0 (.ref it) .none (genEnv scope (cloFrom X.env.cells scope.names []) s3.heap.objs.size cv builtinsNs X.env))), toks := s3.toks + 1 + 1 + 1, heap := h'.push go } : Shared) = s5
  have h5 : s5.heap = h'.push go := by rw [← hs5]
  have sz5 : s5.heap.objs.size = h'.objs.size + 1 := by rw [h5, Heap.size_push]
  have kp : Kept s3 s5 := by
    refine ⟨by rw [← hs5], by rw [← hs5]; exact AllBare.push I3.bare rfl, fun b o e => ?_⟩
    rw [h5]
    exact Heap.get?_push_of_some _ (hs'.extBut b o (Nat.ne_of_lt (Heap.lt_size e)) (Heap.get?_push_of_some _ e))
  have hga : s5.heap.get? h'.objs.size = some go := by rw [h5, ← hgo]; exact Heap.get?_push_size _ rfl
  have isg : ∀ h : Heap, h.get? h'.objs.size = some go → h.IsGen h'.objs.size s3.gens.size := fun h e => ⟨go, _, _, e, by rw [← hgo], by rw [← hgo], by rw [← hgo]⟩
  have hgs : s5.gens[s3.gens.size]? = some (.fresh (.compStart (.GeneratorExp elt [⟨tg, iter, ifs, 0⟩] scope gpos) 0 (.ref it) .none (genEnv scope (cloFrom X.env.cells scope.names []) s3.heap.objs.size cv builtinsNs X.env))) := by
    rw [← hs5]
    exact Array.getElem?_push_size ..
  have hns : s5.heap.Ns s3.heap.objs.size (fun y => if y = ".0" then some (.ref it) else none) := by rw [h5]; exact hn'.push _
  have nstk : ∀ b, s3.heap.objs.size ≤ b → b ∉ frs X.stack := fun b hb z => by
    rcases List.mem_cons.mp (I3.stkSub _ z) with z | z
    · exact absurd (Nat.lt_of_lt_of_le I3.lt (show s3.heap.objs.size ≤ X.env.locals by rw [← z]; exact hb)) (Nat.lt_irrefl _)
    · exact I3.nofs hb z
  have lt35 : s3.heap.objs.size < s5.heap.objs.size := by omega
  refine ⟨s3, H3, fp, ⟨h'.objs.size, s3.gens.size, _, rfl, (show s3.heap.objs.size ≤ h'.objs.size by omega), (show h'.objs.size < s5.heap.objs.size by omega), isg _ hga, hgs, kp.os, kp.bare, I3.nolimit.keeps kp.keep, kp.keep, fun A' Sx s6 hrA hfrA hSx hk6 hSo hos hba => ?_⟩, fun H' s' ho hb hu hok => I3.call' (ch := fp) ho hu hok hb fun b hb => ⟨(f3 b hb).1.2.2.2.1, (f3 b hb).1.2.1, (f3 b hb).1.2.2.2.2.1, (f3 b hb).1.2.2.2.2.2⟩⟩
  have k6 : Kept s3 s6 := ⟨hos, hba, fun b o e => hk6 b o (kp.keep b o e)⟩
  have rm : Room k (A'.over (.compLoop (.GeneratorExp elt [⟨tg, iter, ifs, 0⟩] scope gpos) 0 (.ref it) .none (genEnv scope (cloFrom X.env.cells scope.names []) s3.heap.objs.size cv builtinsNs X.env)) []) := by
    have h1 := hrA.dp
    have h2 := hrA.un
    refine ⟨hrA.hd, ?_, ?_⟩
    · show A'.depth + 0 + 1 + 3 * k + 5 < _
      omega
    · show A'.units + 0 + 3 + 16 * k + 200 < _
      omega
  have Ig := gen_start I3 ok S hN f3 rm.hd (over_gen hfrA) k6 (hns.keeps hk6)
  obtain ⟨cS, heS⟩ := hSo
  have Sx3 : s3.heap.objs.size ≤ Sx := Nat.le_trans (Nat.le_of_lt lt35) hSx
  have SxC : Sx ≠ s3.heap.objs.size := Nat.ne_of_gt (Nat.lt_of_lt_of_le lt35 hSx)
  have aS : h'.objs.size ≠ Sx := Nat.ne_of_lt (Nat.lt_of_lt_of_le (by omega) hSx)
  have hG : GI (gcx X (A'.over (.compLoop (.GeneratorExp elt [⟨tg, iter, ifs, 0⟩] scope gpos) 0 (.ref it) .none (genEnv scope (cloFrom X.env.cells scope.names []) s3.heap.objs.size cv builtinsNs X.env)) []) s3 H3 (genEnv scope (cloFrom X.env.cells scope.names []) s3.heap.objs.size cv builtinsNs X.env) fp) Sx [(h'.objs.size, go)] [] (wipe σ (own.map (·.2))) H3 s6 := by
    refine ⟨#[], cS, .nil, Ig.pins_of fun p hp => ?_⟩
    rcases List.mem_cons.mp hp with z | z
    · rw [z]
      exact ⟨heS, I3.hok.fresh Sx3, SxC, nstk _ Sx3, fun v q => by cases q⟩
    · rw [List.mem_singleton.mp z]
      exact ⟨hk6 _ _ hga, I3.hok.fresh (by omega), by show h'.objs.size ≠ s3.heap.objs.size; omega, nstk _ (by omega), fun v q => by rw [← hgo] at q; cases q⟩
  have st6 : tn 0 s6.heap := T.keep _ _ _ st3 fun b hb o e => k6.keep b o e
  have hAp : Apart (gcx X (A'.over (.compLoop (.GeneratorExp elt [⟨tg, iter, ifs, 0⟩] scope gpos) 0 (.ref it) .none (genEnv scope (cloFrom X.env.cells scope.names []) s3.heap.objs.size cv builtinsNs X.env)) []) s3 H3 (genEnv scope (cloFrom X.env.cells scope.names []) s3.heap.objs.size cv builtinsNs X.env) fp) Sx := by
    refine ⟨Sx3, SxC, fun x c e z => ?_⟩
    obtain ⟨v, q⟩ := Ig.cell x c e
    have hcl : X.env.cells.lookup x = some c := by
      have e : (cloFrom X.env.cells scope.names []).lookup x = some c := e
      rcases cloFrom_mem (PySem.mem_of_lookup e) with hm | ⟨h1, rfl⟩
      · cases hm
      · obtain ⟨c, hc⟩ := hfree _ h1 rfl
        rw [hc]
        rfl
    obtain ⟨v3, q3⟩ := I3.cell x c hcl
    exact absurd (Nat.lt_of_lt_of_le q3.lt (by rw [z]; exact Sx3)) (Nat.lt_irrefl _)
  refine seg_start T st6 (seg_loopC T hc rfl S.co (fun z => ?_) (fun z => ?_) aS hAp isg (hg _ _ _ _ _ _ rm) (ht _ _ _ _ _ _ rm) (he _ _ _ _ _ _ rm) turn m0 sizeLine 0 [] _ _ H3 (Nat.add_zero _) hG st6 nf w0)
  · have q : h'.objs.size < s3.heap.objs.size := (f3 _ z).2
    omega
  · exact absurd (Nat.lt_of_lt_of_le (f3 _ z).2 Sx3) (Nat.lt_irrefl _)
theorem pe_tupX {c P : Addr} {elt tg iter : Expr} {ifs : List Expr} {gpos p pos : Pos} {scope : Scope} {own : List (Str × Nat)} {wi : TI} {g : TG} {tt : TT} {te : TE} {k : Nat}
    (hr : Room (k + 2) X.A) (hgl : Gl X "tuple") (hm : X.mg "tuple" = none) (hc : X.calm = true) (hN : X.N.Nodup) (TB : GxR.TabB X.base X.mg c P) (hcode : X.env.code = .ref c) (ok : BlkOk X.N X.env.scope scope own) (S : GenK scope) (hi : PI X tg iter wi)
    (hg : ∀ (A : Around) (s : Shared) (H : Hp) (C : Addr) (code : Value) (fp : List Addr), Room k A → PG (gcx X A s H (genEnv scope (cloFrom X.env.cells scope.names []) C code builtinsNs X.env) fp) tg g)
    (ht : ∀ (A : Around) (s : Shared) (H : Hp) (C : Addr) (code : Value) (fp : List Addr), Room k A → PTs (gcx X A s H (genEnv scope (cloFrom X.env.cells scope.names []) C code builtinsNs X.env) fp) ifs tt)
    (he : ∀ (A : Around) (s : Shared) (H : Hp) (C : Addr) (code : Value) (fp : List Addr), Room k A → PE (gcx X A s H (genEnv scope (cloFrom X.env.cells scope.names []) C code builtinsNs X.env) fp) elt te)
    (hs : ∀ v, genFold iter X.env v = pure v := by intro _; rfl)
    (hst : starEach [.GeneratorExp elt [⟨tg, iter, ifs, 0⟩] scope gpos] X.env = (false, eval (.GeneratorExp elt [⟨tg, iter, ifs, 0⟩] scope gpos) X.env) :: starEach [] X.env := by rfl) :
    PE X (.Call (.Name "tuple" p) [.GeneratorExp elt [⟨tg, iter, ifs, 0⟩] scope gpos] [] pos) (tCX wi g tt te (own.map (·.2)) P) := by
  refine ⟨fun pins s σ H Q I h => ?_⟩
  refine wpAny_Call_Name_kw (ld_blt I hgl hm boot_tuple (PyProof.Rows.callWith_type1 ?_ hst (by rfl)))
  rw [hst]
  show wpAny _ _ (spliced ((false, _) :: backTo pos (starEach [] X.env))) _ _ s
  refine Calls.spliced_cons (wpAny_mono (gen_made (k := k) (hr.mono (by omega)) hc hN TB hcode ok S hi hs hg ht he I h) (fun v s5 hx => ?_) fun _ _ e => e)
  obtain ⟨s3, H3, fp, hG, back⟩ := hx
  refine Calls.spliced_nil (call_tuple_new hr I.ok.frames hG fun s' acc H' ys q1 q2 q3 q4 q5 q6 q7 => ?_)
  have J := back H' s' q3 q4 q5 q6
  refine ⟨.ref s'.heap.objs.size, _, J.laid (t' := s'.toks) (o := .tup ys) (fun b u e => Heap.get?_push_of_some _ e) (Nat.le_refl _) ⟨q2, acc.toList, q1, ?_⟩, rfl, q7 _ (J.hok.fresh (Nat.le_refl _))⟩
  have z := IsTup.new s'.heap acc
  simpa using z
end
/-! ### turns, by source -/
theorem tup_tup {K : PySem.W.Frag} {a : Addr} {xs : List V} {g : TG} {tt : TT} {te : TE} {vs : List Nat} {σ : L2.St} {Q : List V → Hp → Prop} {H2 : Hp} (hz : xs.length ≤ sizeLine) (Pv : Nat → List V → Hp → Prop) (h0 : Pv 0 [] H2) (hl : ∀ i ys H, i ≤ xs.length → Pv i ys H → SqT K H a xs) (hy : ∀ i ys H, Pv i ys H → ys.length ≤ i)
    (hs : ∀ i x ys H, xs[i]? = some x → Pv i ys H → g x (wipe σ vs) H fun σ2 H2 => wipe σ2 vs = wipe σ vs ∧ tt σ2 H2 fun b H3 => if b = true then te σ2 H3 fun y H4 => Pv (i + 1) (ys ++ [y]) H4 else Pv (i + 1) ys H3) (hd : ∀ ys H, Pv xs.length ys H → Q ys H) :
    ∃ W : Nat → Nat → List V → Hp → Prop, (∃ m, W 0 m [] H2) ∧ TurnsC (Itt K a) g tt te vs σ Q W := by
  refine ⟨fun i m ys H => m = xs.length - i ∧ i ≤ xs.length ∧ Pv i ys H, ⟨xs.length, by simp, Nat.zero_le _, h0⟩, ?_⟩
  rintro i m ys H ⟨rfl, hi, p⟩
  have q := hl i ys H hi p
  by_cases hlt : i < xs.length
  · refine .inr ⟨⟨xs, xs[i], q, by simp [hlt]⟩, Nat.lt_of_le_of_lt (hy i ys H p) (Nat.lt_of_lt_of_le hlt hz), Pv (i + 1), fun ys' H' p' => ⟨xs.length - (i + 1), by omega, rfl, hlt, p'⟩, fun x H' y => ?_⟩
    obtain ⟨e, y⟩ := y
    subst e
    exact hs i x ys _ (y xs q) p
  · have e : i = xs.length := by omega
    subst e
    exact .inl ⟨⟨xs, q, Nat.le_refl _⟩, hd ys H p⟩
end Gx

set_option Elab.async false
set_option linter.all false
set_option maxRecDepth 100000
set_option maxHeartbeats 4000000
/-! runs, by themselves -/
namespace Dt
open PySem PySem.Spec PyProof.Rows L2
abbrev Log := List (Int × List Int)
abbrev Res := Bool × List Int × Log
def stand (tb : List (List Int)) (tk : List Int) : List Int := List.zipWith atF tb tk
def leftOf (tb : List (List Int)) (tk : List Int) : List (List Int) := List.zipWith (fun ds k => ds.drop (k.toNat + 1)) tb tk
def firstB (fs : List Int) (wds : List WD) (ord : List Int) : Option Int := ord.find? fun n => brkAt fs wds n.toNat
def plc (wds : List WD) (k : Int) : List Int := (wds.getD k.toNat ([], [])).1
def lenAt (tb : List (List Int)) (p : Int) : Int := ((tb.getD p.toNat []).length : Int)
def canN (tb : List (List Int)) (tk ps : List Int) : Bool := ps.all fun p => decide (atF tk p + 1 < lenAt tb p)
def bumpA (tk ps : List Int) : List Int := ps.foldl (fun t p => bump t p.toNat) tk
def goR (wds : List WD) (tb : List (List Int)) (ord : List Int) : Nat → List Int → Log → Option Res
  | 0, _, _ => none
  | n + 1, tk, log => match firstB (stand tb tk) wds ord with
    | none => some (true, stand tb tk, log)
    | some k => if canN tb tk (plc wds k) = true then goR wds tb ord n (bumpA tk (plc wds k)) (log ++ [(k, huesA (stand tb tk) (plc wds k))]) else some (false, stand tb tk, log)
structure GoodT (many hues : Int) (tb : List (List Int)) : Prop where
  len : (tb.length : Int) = many
  one : ∀ ds ∈ tb, 1 ≤ ds.length
  few : ∀ ds ∈ tb, ds.length ≤ 1000
  hue : ∀ ds ∈ tb, ∀ h ∈ ds, 0 ≤ h ∧ h < hues
structure GoodK (tb : List (List Int)) (tk : List Int) : Prop where
  len : tk.length = tb.length
  at_ : ∀ p : Nat, p < tb.length → 0 ≤ tk.getD p 0 ∧ tk.getD p 0 < ((tb.getD p []).length : Int)
/-- an order of so many numbers -/
structure GoodO (n : Nat) (ord : List Int) : Prop where
  mem : ∀ z ∈ ord, 0 ≤ z ∧ z < (n : Int)
  all : ∀ k : Nat, k < n → (k : Int) ∈ ord
  len : ord.length ≤ n
def zerosI (n : Nat) : List Int := List.replicate n 0
def rem (tb : List (List Int)) (tk : List Int) : Nat := (List.zipWith (fun (ds : List Int) (k : Int) => ds.length - 1 - k.toNat) tb tk).sum
def runOf (wds : List WD) (tb : List (List Int)) (ord : List Int) : Option Res := goR wds tb ord (rem tb (zerosI tb.length) + 1) (zerosI tb.length) []
theorem getD_get {α : Type} {l : List α} {p : Nat} {d : α} (h : p < l.length) : l.getD p d = l[p] := by
  rw [List.getD_eq_getElem?_getD, List.getElem?_eq_getElem h]
  rfl
theorem getD_mem {α : Type} {l : List α} {p : Nat} {d : α} (h : p < l.length) : l.getD p d ∈ l := by
  rw [getD_get h]
  exact List.getElem_mem h
theorem bump_get (tk : List Int) (p i : Nat) : (bump tk p).getD i 0 = if i = p ∧ p < tk.length then tk.getD p 0 + 1 else tk.getD i 0 := by
  unfold bump
  rw [List.getD_eq_getElem?_getD, List.getElem?_set]
  by_cases h : p = i
  · subst h
    by_cases h2 : p < tk.length
    · rw [if_pos rfl, if_pos h2, if_pos ⟨rfl, h2⟩]
      rfl
    · rw [if_pos rfl, if_neg h2, if_neg (fun z => h2 z.2), List.getD_eq_getElem?_getD, List.getElem?_eq_none (by omega)]
  · rw [if_neg h, if_neg (fun z => h z.1.symm), List.getD_eq_getElem?_getD]
theorem zeros_get (n p : Nat) : (zerosI n).getD p 0 = 0 := by
  unfold zerosI
  rw [List.getD_eq_getElem?_getD, List.getElem?_replicate]
  split <;> rfl
theorem zeros_good {many hues : Int} {tb : List (List Int)} (g : GoodT many hues tb) : GoodK tb (zerosI tb.length) := by
  refine ⟨by simp [zerosI], fun p hp => ?_⟩
  rw [zeros_get]
  have := g.one _ (getD_mem (d := []) hp)
  omega
theorem stand_len {tb : List (List Int)} {tk : List Int} (g : GoodK tb tk) : (stand tb tk).length = tb.length := by
  unfold stand
  rw [List.length_zipWith, g.len, Nat.min_self]
theorem left_len {tb : List (List Int)} {tk : List Int} (g : GoodK tb tk) : (leftOf tb tk).length = tb.length := by
  unfold leftOf
  rw [List.length_zipWith, g.len, Nat.min_self]
theorem stand_get {tb : List (List Int)} {tk : List Int} (g : GoodK tb tk) {p : Nat} (hp : p < tb.length) : (stand tb tk)[p]? = some (atF (tb.getD p []) (tk.getD p 0)) := by
  have h2 : p < tk.length := by rw [g.len]; exact hp
  unfold stand
  rw [List.getElem?_zipWith, List.getElem?_eq_getElem hp, List.getElem?_eq_getElem h2, getD_get hp, getD_get h2]
theorem left_get {tb : List (List Int)} {tk : List Int} (g : GoodK tb tk) {p : Nat} (hp : p < tb.length) : (leftOf tb tk)[p]? = some ((tb.getD p []).drop ((tk.getD p 0).toNat + 1)) := by
  have h2 : p < tk.length := by rw [g.len]; exact hp
  unfold leftOf
  rw [List.getElem?_zipWith, List.getElem?_eq_getElem hp, List.getElem?_eq_getElem h2, getD_get hp, getD_get h2]
theorem stand_good {many hues : Int} {tb : List (List Int)} {tk : List Int} (gt : GoodT many hues tb) (g : GoodK tb tk) : GoodF many hues (stand tb tk) := by
  refine ⟨by rw [stand_len g]; exact gt.len, fun h hh => ?_⟩
  obtain ⟨p, hp, e⟩ := List.getElem_of_mem hh
  rw [stand_len g] at hp
  have e2 := stand_get g hp
  rw [List.getElem?_eq_getElem (by rw [stand_len g]; exact hp), e] at e2
  cases e2
  have a := g.at_ p hp
  have m : (tk.getD p 0).toNat < (tb.getD p []).length := by omega
  exact gt.hue _ (getD_mem hp) _ (getD_mem m)
theorem first_some {fs : List Int} {wds : List WD} {ord : List Int} {k : Int} (h : firstB fs wds ord = some k) : k ∈ ord ∧ brkAt fs wds k.toNat = true := ⟨List.mem_of_find?_eq_some h, by
  have z := List.find?_some (p := fun n : Int => brkAt fs wds n.toNat) (l := ord) (a := k) h
  exact z⟩
theorem wd_of {wds : List WD} {k : Int} (h0 : 0 ≤ k) (h1 : k < (wds.length : Int)) : ∃ wd, wds[k.toNat]? = some wd ∧ plc wds k = wd.1 := by
  have h : k.toNat < wds.length := by omega
  exact ⟨wds[k.toNat], List.getElem?_eq_getElem h, by rw [plc, getD_get h]⟩
/-! ### one more draw at a place -/
theorem rem_bump : ∀ {tb : List (List Int)} {tk : List Int} {p : Nat}, p < tb.length → p < tk.length → 0 ≤ tk.getD p 0 → tk.getD p 0 + 1 < ((tb.getD p []).length : Int) → rem tb (bump tk p) + 1 = rem tb tk
  | [], _, _, h, _, _, _ => absurd h (Nat.not_lt_zero _)
  | _ :: _, [], _, _, h, _, _ => absurd h (Nat.not_lt_zero _)
  | ds :: r, k :: q, 0, _, _, h0, h1 => by
    simp only [List.getD_cons_zero] at h0 h1
    unfold rem bump
    simp only [List.getD_cons_zero, List.set_cons_zero, List.zipWith_cons_cons, List.sum_cons]
    omega
  | ds :: r, k :: q, p + 1, hp, hq, h0, h1 => by
    simp only [List.getD_cons_succ] at h0 h1
    have ih := rem_bump (tb := r) (tk := q) (p := p) (Nat.lt_of_succ_lt_succ hp) (Nat.lt_of_succ_lt_succ hq) h0 h1
    unfold rem bump at ih ⊢
    simp only [List.getD_cons_succ, List.set_cons_succ, List.zipWith_cons_cons, List.sum_cons] at ih ⊢
    omega
theorem good_bump {tb : List (List Int)} {tk : List Int} {p : Nat} (g : GoodK tb tk) (hp : p < tb.length) (h : tk.getD p 0 + 1 < ((tb.getD p []).length : Int)) : GoodK tb (bump tk p) := by
  refine ⟨by rw [bump_len]; exact g.len, fun i hi => ?_⟩
  have a := g.at_ i hi
  rw [bump_get]
  by_cases e : i = p
  · subst e
    rw [if_pos ⟨rfl, by rw [g.len]; exact hp⟩]
    omega
  · rw [if_neg (fun z => e z.1)]
    exact a
theorem stand_bump {tb : List (List Int)} {tk : List Int} {p : Nat} {x : Int} {r : List Int} (g : GoodK tb tk) (hp : p < tb.length) (h : (leftOf tb tk)[p]? = some (x :: r)) : stand tb (bump tk p) = (stand tb tk).set p x ∧ leftOf tb (bump tk p) = (leftOf tb tk).set p r ∧ tk.getD p 0 + 1 < ((tb.getD p []).length : Int) := by
  rw [left_get g hp] at h
  have a := g.at_ p hp
  have e := Option.some.inj h
  have hl : (tk.getD p 0).toNat + 1 < (tb.getD p []).length := by
    have z := congrArg List.length e
    rw [List.length_drop, List.length_cons] at z
    omega
  have hc : tk.getD p 0 + 1 < ((tb.getD p []).length : Int) := by omega
  have g2 := good_bump g hp hc
  have en : (tk.getD p 0 + 1).toNat = (tk.getD p 0).toNat + 1 := by omega
  have ex : (tb.getD p []).getD ((tk.getD p 0).toNat + 1) 0 = x := by
    have z := congrArg (fun l : List Int => l[0]?) e
    simp only [List.getElem?_drop, List.getElem?_cons_zero, Nat.add_zero] at z
    rw [List.getD_eq_getElem?_getD, z]
    rfl
  have er : (tb.getD p []).drop ((tk.getD p 0).toNat + 1 + 1) = r := by
    have z := congrArg (fun l : List Int => l.drop 1) e
    simp only [List.drop_drop, List.drop_succ_cons, List.drop_zero] at z
    exact z
  refine ⟨?_, ?_, hc⟩
  · refine List.ext_getElem? fun i => ?_
    rw [List.getElem?_set]
    by_cases hi : i < tb.length
    · rw [stand_get g2 hi, bump_get]
      by_cases e2 : p = i
      · subst e2
        rw [if_pos ⟨rfl, by rw [g.len]; exact hp⟩, if_pos rfl, if_pos (by rw [stand_len g]; exact hp)]
        unfold atF
        rw [en, ex]
      · rw [if_neg (fun z => e2 z.1.symm), if_neg e2, stand_get g hi]
    · rw [List.getElem?_eq_none (by rw [stand_len g2]; omega), if_neg (by omega), List.getElem?_eq_none (by rw [stand_len g]; omega)]
  · refine List.ext_getElem? fun i => ?_
    rw [List.getElem?_set]
    by_cases hi : i < tb.length
    · rw [left_get g2 hi, bump_get]
      by_cases e2 : p = i
      · subst e2
        rw [if_pos ⟨rfl, by rw [g.len]; exact hp⟩, if_pos rfl, if_pos (by rw [left_len g]; exact hp), en, er]
      · rw [if_neg (fun z => e2 z.1.symm), if_neg e2, left_get g hi]
    · rw [List.getElem?_eq_none (by rw [left_len g2]; omega), if_neg (by omega), List.getElem?_eq_none (by rw [left_len g]; omega)]
/-! ### one more draw at some places -/
structure Can (tb : List (List Int)) (tk ps : List Int) : Prop where
  nd : ps.Nodup
  pl : ∀ p ∈ ps, 0 ≤ p ∧ p < (tb.length : Int)
  nx : ∀ p ∈ ps, atF tk p + 1 < lenAt tb p
theorem Can.tail {tb : List (List Int)} {tk ps : List Int} {p : Int} (c : Can tb tk (p :: ps)) : Can tb (bump tk p.toNat) ps := by
  refine ⟨(List.nodup_cons.mp c.nd).2, fun q hq => c.pl q (List.mem_cons_of_mem _ hq), fun q hq => ?_⟩
  have hp := c.pl p List.mem_cons_self
  have hq2 := c.pl q (List.mem_cons_of_mem _ hq)
  have hne : q ≠ p := fun z => (List.nodup_cons.mp c.nd).1 (z ▸ hq)
  have := c.nx q (List.mem_cons_of_mem _ hq)
  unfold atF at this ⊢
  rw [bump_get, if_neg (fun z => hne (by omega))]
  exact this
theorem bumpA_good : ∀ {ps : List Int} {tb : List (List Int)} {tk : List Int}, GoodK tb tk → Can tb tk ps → GoodK tb (bumpA tk ps) ∧ rem tb (bumpA tk ps) + ps.length = rem tb tk
  | [], _, _, g, _ => ⟨g, rfl⟩
  | p :: ps, tb, tk, g, c => by
    have hp := c.pl p List.mem_cons_self
    have hn := c.nx p List.mem_cons_self
    have hpn : p.toNat < tb.length := by omega
    have g2 := good_bump g hpn hn
    have a := g.at_ _ hpn
    have r := rem_bump (tb := tb) (tk := tk) hpn (by rw [g.len]; exact hpn) a.1 hn
    obtain ⟨i1, i2⟩ := bumpA_good (ps := ps) g2 c.tail
    refine ⟨i1, ?_⟩
    show rem tb (bumpA (bump tk p.toNat) ps) + (ps.length + 1) = rem tb tk
    omega
theorem can_of {many hues : Int} {wds : List WD} {tb : List (List Int)} {tk : List Int} {k : Int} {wd : WD} (gr : GoodR many hues wds) (nd : ∀ wd ∈ wds, wd.1.Nodup) (gt : GoodT many hues tb) (hw : wds[k.toNat]? = some wd) (he : plc wds k = wd.1) (h : canN tb tk (plc wds k) = true) : Can tb tk (plc wds k) := by
  have hm := List.mem_of_getElem? hw
  rw [he] at h ⊢
  refine ⟨nd wd hm, fun p hp => ?_, fun p hp => ?_⟩
  · have := (gr.each wd hm).pl p hp
    have := gt.len
    omega
  · exact of_decide_eq_true (List.all_eq_true.mp h p hp)
def LogOk (wds : List WD) (log : Log) : Prop := ∀ e ∈ log, 0 ≤ e.1 ∧ e.1 < (wds.length : Int) ∧ ∃ wd, wds[e.1.toNat]? = some wd ∧ e.2 ∈ wd.2
theorem LogOk.nil (wds : List WD) : LogOk wds [] := fun _ h => nomatch h
theorem LogOk.snoc {wds : List WD} {log : Log} {fs : List Int} {k : Int} {wd : WD} (h : LogOk wds log) (h0 : 0 ≤ k) (h1 : k < (wds.length : Int)) (hw : wds[k.toNat]? = some wd) (he : plc wds k = wd.1) (hb : brkAt fs wds k.toNat = true) : LogOk wds (log ++ [(k, huesA fs (plc wds k))]) := by
  intro e hm
  rcases List.mem_append.mp hm with z | z
  · exact h e z
  · rw [List.mem_singleton.mp z]
    refine ⟨h0, h1, wd, hw, ?_⟩
    rw [brkAt_of hw] at hb
    rw [he]
    exact of_decide_eq_true hb
theorem goR_total {many hues : Int} {wds : List WD} {tb : List (List Int)} {ord : List Int} (gr : GoodR many hues wds) (nd : ∀ wd ∈ wds, wd.1.Nodup) (gt : GoodT many hues tb) (go : GoodO wds.length ord) :
    ∀ (n : Nat) (tk : List Int) (log : Log), GoodK tb tk → LogOk wds log → rem tb tk < n → ∃ R, goR wds tb ord n tk log = some R ∧ GoodF many hues R.2.1 ∧ LogOk wds R.2.2 ∧ R.2.2.length ≤ log.length + rem tb tk
  | 0, _, _, _, _, h => absurd h (Nat.not_lt_zero _)
  | n + 1, tk, log, g, hl, h => by
    cases e : firstB (stand tb tk) wds ord with
    | none => exact ⟨(true, stand tb tk, log), by simp only [goR, e], stand_good gt g, hl, Nat.le_add_right _ _⟩
    | some k =>
      obtain ⟨hk, hb⟩ := first_some e
      obtain ⟨k0, k1⟩ := go.mem k hk
      obtain ⟨wd, hw, he⟩ := wd_of k0 k1
      cases c : canN tb tk (plc wds k) with
      | false => exact ⟨(false, stand tb tk, log), by simp only [goR, e, c]; rfl, stand_good gt g, hl, Nat.le_add_right _ _⟩
      | true =>
        have cn := can_of gr nd gt hw he c
        obtain ⟨g2, r2⟩ := bumpA_good g cn
        have one := (gr.each wd (List.mem_of_getElem? hw)).one
        rw [← he] at one
        obtain ⟨R, hR, a1, a2, a3⟩ := goR_total gr nd gt go n (bumpA tk (plc wds k)) (log ++ [(k, huesA (stand tb tk) (plc wds k))]) g2 (hl.snoc k0 k1 hw he hb) (by omega)
        refine ⟨R, by simp only [goR, e, c, if_true]; exact hR, a1, a2, ?_⟩
        rw [List.length_append, List.length_singleton] at a3
        omega
theorem rem_le : ∀ (tb : List (List Int)) (tk : List Int) (b : Nat), (∀ ds ∈ tb, ds.length ≤ b) → rem tb tk ≤ tb.length * b
  | [], _, _, _ => by simp [rem]
  | _ :: _, [], _, _ => by simp [rem]
  | ds :: r, k :: q, b, h => by
    have ih := rem_le r q b fun d hd => h d (List.mem_cons_of_mem _ hd)
    have a := h ds List.mem_cons_self
    unfold rem at ih ⊢
    rw [List.zipWith_cons_cons, List.sum_cons, List.length_cons, Nat.succ_mul]
    omega
theorem runOf_some {many hues : Int} {wds : List WD} {tb : List (List Int)} {ord : List Int} (gr : GoodR many hues wds) (nd : ∀ wd ∈ wds, wd.1.Nodup) (gt : GoodT many hues tb) (go : GoodO wds.length ord) :
    ∃ R, runOf wds tb ord = some R ∧ GoodF many hues R.2.1 ∧ LogOk wds R.2.2 ∧ R.2.2.length ≤ 6000 := by
  obtain ⟨R, h1, h2, h3, h4⟩ := goR_total gr nd gt go (rem tb (zerosI tb.length) + 1) (zerosI tb.length) [] (zeros_good gt) (LogOk.nil _) (Nat.lt_succ_self _)
  refine ⟨R, h1, h2, h3, ?_⟩
  have a := rem_le tb (zerosI tb.length) 1000 gt.few
  have b := gt.len
  have c := gr.m6
  rw [List.length_nil] at h4
  have : tb.length ≤ 6 := by omega
  omega
/-! ### the first broken one, as the law finds it -/
theorem broL_iff {fs : List Int} {wds : List WD} {n : Nat} {z : Int} : z ∈ broL fs wds n ↔ 0 ≤ z ∧ z < (n : Int) ∧ brkAt fs wds z.toNat = true := by
  unfold broL
  rw [List.mem_map]
  constructor
  · rintro ⟨k, hk, rfl⟩
    obtain ⟨h1, h2⟩ := List.mem_filter.mp hk
    have := List.mem_range.mp h1
    exact ⟨by omega, by omega, by rw [Int.toNat_natCast]; exact h2⟩
  · rintro ⟨h0, h1, h2⟩
    exact ⟨z.toNat, List.mem_filter.mpr ⟨List.mem_range.mpr (by omega), h2⟩, by omega⟩
theorem first_filter {fs : List Int} {wds : List WD} {ord : List Int} (go : GoodO wds.length ord) : (ord.filter fun z => decide (z ∈ broL fs wds wds.length)).head? = firstB fs wds ord := by
  unfold firstB
  rw [List.head?_filter]
  have e : ∀ l : List Int, (∀ z ∈ l, 0 ≤ z ∧ z < (wds.length : Int)) → l.find? (fun z => decide (z ∈ broL fs wds wds.length)) = l.find? (fun n => brkAt fs wds n.toNat) := by
    intro l
    induction l with
    | nil => intro _; rfl
    | cons a r ih =>
      intro h
      have ha := h a List.mem_cons_self
      have hq : decide (a ∈ broL fs wds wds.length) = brkAt fs wds a.toNat := by
        cases c : brkAt fs wds a.toNat with
        | true => exact decide_eq_true (broL_iff.mpr ⟨ha.1, ha.2, c⟩)
        | false => exact decide_eq_false fun z => by rw [(broL_iff.mp z).2.2] at c; cases c
      rw [List.find?_cons, List.find?_cons, hq, ih fun z hz => h z (List.mem_cons_of_mem _ hz)]
  exact e ord go.mem
theorem first_none {fs : List Int} {wds : List WD} {ord : List Int} (go : GoodO wds.length ord) : firstB fs wds ord = none ↔ broL fs wds wds.length = [] := by
  constructor
  · intro h
    rw [List.eq_nil_iff_forall_not_mem]
    intro z hz
    obtain ⟨h0, h1, h2⟩ := broL_iff.mp hz
    have hm := go.all z.toNat (by omega)
    have e : ((z.toNat : Nat) : Int) = z := by omega
    rw [e] at hm
    have := List.find?_eq_none.mp h z hm
    exact this h2
  · intro h
    refine List.find?_eq_none.mpr fun z hz c => ?_
    have hm := go.mem z hz
    have : z ∈ broL fs wds wds.length := broL_iff.mpr ⟨hm.1, hm.2, c⟩
    rw [h] at this
    cases this
end Dt

set_option Elab.async false
set_option linter.all false
set_option maxRecDepth 100000
set_option maxHeartbeats 4000000
/-! calls, frames, tables, logs: over no program -/
namespace Rd
open PySem PySem.Spec PyProof.Rows L2 Dt
theorem same_upd {H : Hp} {p : Addr} {o : HO} (h : H p = none) : Same H (upd H p o) := fun b x e => by
  rw [upd_ne (ne_of_none e h)]
  exact e
def Cal (P : Program) (w : World) (K : PySem.W.Frag) (mg : Str → Option Value) (base : Heap) (k : Nat) (x : Str) (ps : List Str) (sp : Sp) : Prop :=
  ∃ (f : Addr) (fd : FuncData), FnOk P w K mg base CX0 k f fd ps sp ∧ mg x = some (.ref f) ∧ PySem.W.keepIn K (.ref f) = true ∧ Binds K fd ps []
theorem pe_cal {X : Cx} {k : Nat} {x : Str} {ps : List Str} {sp : Sp} {p pos : Pos} {e : Expr} {es : List Expr} {t : TA} (C : Cal X.prog X.w X.K X.mg X.base k x ps sp) (hr : Room k X.A) (hg : Gl X x)
    (ha : PA X (e :: es) t) (hdb : (x == ("__debug__" : Str)) = false := by decide) (he : starEach (e :: es) X.env = (false, eval e X.env) :: starEach es X.env := by rfl) (hpl : (backTo pos (starEach es X.env)).any (·.1) = false := by rfl) :
    PE X (.Call (.Name x p) (e :: es) [] pos) (tCall sp [] E0 t) := by
  obtain ⟨f, fd, F, hm, hk, hb⟩ := C
  exact pe_call F hr hg hm hk hb .nil pass0 ha hdb he hpl
/-- a def whose code object is known -/
structure FunC (K : PySem.W.Frag) (x qual : Str) (st : Stmt) (f : Addr) (fd : FuncData) (cdv : Value) : Prop where
  ex : ∃ (oc : Value) (od : Option Addr) (kV doc pm : Value) (an : Option Addr) (ct : Value) (osl : Array (Option Value)),
    fd = PySem.W.fnOf x qual (defArgs st) (defBody st) (defScope st) .none kV doc pm an cdv ct ∧ K.lookup f = some ⟨oc, od, .func fd, osl⟩ ∧ PySem.W.codeIn K cdv qual = true
theorem FunC.ok {P : Program} {w : World} {K : PySem.W.Frag} {mg : Str → Option Value} {base : Heap} {x qual : Str} {st : Stmt} {f : Addr} {fd : FuncData} {cdv : Value} {N ps : List Str} {k : Nat} {sp : Sp} (F : FunC K x qual st f fd cdv) (S : FnScope N ps (defScope st)) (len : ∀ vs H Q E, sp vs H Q E → vs.length = ps.length)
    (body : ∀ (A : Around) (outer : List Env) (s : Shared) (H : Hp) (vs : List V) (Q : VK) (E : XK), Room k (A.deeper (envOfC qual (defScope st) s.heap.objs.size f cdv)) → sp vs H Q E →
      ∃ t, PSs (cxOf CX0 P w K mg base N qual (defScope st) f cdv A outer s H E).nox (defBody st) t ∧ t { nx := fun _ H' => Q .non H', rt := Q } (start N vs) H) : FnOk P w K mg base CX0 (k + 1) f fd ps sp := by
  obtain ⟨oc, od, kV, doc, pm, an, ct, osl, rfl, lk, hcd⟩ := F.ex
  refine fn_of lk hcd S len fun A outer s H vs Q E hr hsp => ?_
  obtain ⟨t, h, q⟩ := body A outer s H vs Q E hr hsp
  exact ⟨t, h.nox, q⟩
theorem units65 {A : Around} {k : Nat} (hr : Room k A) : A.units + 65 < cLine := by have := hr.un; omega
/-! ### frames but for some tables -/
def Tabs (Ps : List Addr) (H : Hp) : Prop := ∀ P ∈ Ps, GxR.TabG H P
def FrS (Ps : List Addr) (H H' : Hp) : Prop := (∀ b o, b ∉ Ps → H b = some o → H' b = some o) ∧ Tabs Ps H'
/-- tuples and lists stay -/
def Seqs (H H' : Hp) : Prop := Tups H H' ∧ ∀ b xs, H b = some (.lst xs) → H' b = some (.lst xs)
theorem Seqs.refl (H : Hp) : Seqs H H := ⟨Tups.refl H, fun _ _ e => e⟩
theorem Seqs.trans {H H1 H2 : Hp} (a : Seqs H H1) (b : Seqs H1 H2) : Seqs H H2 := ⟨a.1.trans b.1, fun c xs e => b.2 c xs (a.2 c xs e)⟩
theorem seqs_same {H H' : Hp} (s : Same H H') : Seqs H H' := ⟨tups_same s, fun b xs e => s b _ e⟩
theorem FrS.refl {Ps : List Addr} {H : Hp} (t : Tabs Ps H) : FrS Ps H H := ⟨fun _ _ _ e => e, t⟩
theorem FrS.trans {Ps : List Addr} {H H1 H2 : Hp} (a : FrS Ps H H1) (b : FrS Ps H1 H2) : FrS Ps H H2 := ⟨fun x o n e => b.1 x o n (a.1 x o n e), b.2⟩
theorem FrS.of {Ps : List Addr} {H H' : Hp} (t : Tabs Ps H) (s : Same H H') : FrS Ps H H' := ⟨fun b o _ e => s b o e, fun P hP => let ⟨ps, h, q⟩ := t P hP; ⟨ps, s _ _ h, q⟩⟩
theorem FrS.same {Ps : List Addr} {H H1 H2 : Hp} (a : FrS Ps H H1) (s : Same H1 H2) : FrS Ps H H2 := a.trans (FrS.of a.2 s)
theorem FrS.one {Ps : List Addr} {P : Addr} {H H' : Hp} (t : Tabs Ps H) (hP : P ∈ Ps) (f : GxR.Tabbed P H H') : FrS Ps H H' := by
  refine ⟨fun b o n e => ?_, fun Q hQ => ?_⟩
  · rw [f.2 b (fun z => n (by rw [z]; exact hP))]
    exact e
  · by_cases z : Q = P
    · rw [z]; exact f.1
    · obtain ⟨ps, h, q⟩ := t Q hQ
      exact ⟨ps, by rw [f.2 Q z]; exact h, q⟩
theorem Tabs.tup {Ps : List Addr} {H : Hp} (t : Tabs Ps H) {b : Addr} {xs : List V} (e : H b = some (.tup xs)) : b ∉ Ps := fun z => by
  obtain ⟨ps, h, _⟩ := t b z
  rw [e] at h
  cases h
theorem Tabs.lst {Ps : List Addr} {H : Hp} (t : Tabs Ps H) {b : Addr} {xs : List V} (e : H b = some (.lst xs)) : b ∉ Ps := fun z => by
  obtain ⟨ps, h, _⟩ := t b z
  rw [e] at h
  cases h
theorem FrS.seqs {Ps : List Addr} {H H' : Hp} (t : Tabs Ps H) (f : FrS Ps H H') : Seqs H H' := ⟨fun b xs e => f.1 b _ (t.tup e) e, fun b xs e => f.1 b _ (t.lst e) e⟩
theorem FrS.tups {Ps : List Addr} {H H' : Hp} (t : Tabs Ps H) (f : FrS Ps H H') : Tups H H' := (f.seqs t).1
theorem FrS.free {Ps : List Addr} {H H' : Hp} {b : Addr} (f : FrS Ps H H') (h : H' b = none) : H b = none := by
  cases e : H b with
  | none => rfl
  | some o =>
    by_cases z : b ∈ Ps
    · obtain ⟨ps, q, _⟩ := f.2 b z
      rw [q] at h
      cases h
    · rw [f.1 b o z e] at h
      cases h
/-- a store at a place that wasn't there at first -/
theorem FrS.put {Ps : List Addr} {H H1 : Hp} {b : Addr} {o : HO} (a : FrS Ps H H1) (n : H b = none) (nb : b ∉ Ps) : FrS Ps H (upd H1 b o) :=
  ⟨fun x u nx e => by rw [upd_ne (ne_of_none e n)]; exact a.1 x u nx e, fun P hP => by
    obtain ⟨ps, h, q⟩ := a.2 P hP
    exact ⟨ps, by rw [upd_ne (fun z : P = b => nb (by rw [← z]; exact hP))]; exact h, q⟩⟩
theorem Tabs.new {Ps : List Addr} {H : Hp} (t : Tabs Ps H) {b : Addr} (n : H b = none) : b ∉ Ps := fun z => by
  obtain ⟨ps, h, _⟩ := t b z
  rw [n] at h
  cases h
theorem Tabs.same {Ps : List Addr} {H H' : Hp} (t : Tabs Ps H) (s : Same H H') : Tabs Ps H' := (FrS.of t s).2
theorem Tabs.put {Ps : List Addr} {H : Hp} (t : Tabs Ps H) {b : Addr} {o : HO} (nb : b ∉ Ps) : Tabs Ps (upd H b o) := fun P hP => by
  obtain ⟨ps, h, q⟩ := t P hP
  exact ⟨ps, by rw [upd_ne (fun z : P = b => nb (by rw [← z]; exact hP))]; exact h, q⟩
theorem free_same {H H' : Hp} {b : Addr} (s : Same H H') (h : H' b = none) : H b = none := s.free h
theorem same_put {H H1 : Hp} {b : Addr} {o : HO} (s : Same H H1) (n : H b = none) : Same H (upd H1 b o) := fun x u e => by
  rw [upd_ne (ne_of_none e n)]
  exact s x u e
/-! ### numbers, lists -/
theorem cut_from {α : Type} (f : α → V) (l : List α) (k : Nat) : cutV (l.map f) (some (k : Int)) none = (l.drop k).map f := by
  unfold cutV
  rw [HT.sIx_nat, HT.sIx_none, List.length_map, ← List.map_drop]
  by_cases h : k ≤ l.length
  · rw [Nat.min_eq_left h, List.take_of_length_le (by rw [List.length_map, List.length_drop]; exact Nat.le_refl _)]
  · have h2 : l.drop k = [] := List.drop_eq_nil_of_le (by omega)
    rw [Nat.min_eq_right (by omega), Nat.sub_self, List.take_zero, h2]
    rfl
theorem cut_to {α : Type} (f : α → V) (l : List α) (k : Nat) : cutV (l.map f) none (some (k : Int)) = (l.take k).map f := by
  unfold cutV
  rw [HT.sIx_nat, HT.sIx_none, List.length_map, List.drop_zero, Nat.sub_zero, ← List.map_take]
  by_cases h : k ≤ l.length
  · rw [Nat.min_eq_left h]
  · rw [Nat.min_eq_right (by omega), List.take_of_length_le (Nat.le_refl _), List.take_of_length_le (by omega)]
theorem log_small {m : Int} (h0 : 0 ≤ m) (h : m < 4294967296) : m.natAbs.log2 < 9000 := by
  have e : m.natAbs < 2 ^ 32 := by omega
  by_cases z : m.natAbs = 0
  · rw [z]; decide
  · have := (Nat.log2_lt z).mpr e
    omega
def toI : V → Int
  | .int i => i
  | _ => 0
def rowAt (H : Hp) (t : Addr) : List Int := match H t with
  | some (.tup xs) => xs.map toI
  | _ => []
theorem rowAt_of {H : Hp} {t : Addr} {row : Dt.Row} (h : IsRow H t row) : rowAt H t = row := by
  unfold rowAt
  rw [show H t = some (.tup (row.map V.int)) from h]
  show (row.map V.int).map toI = row
  rw [List.map_map]
  have e : (toI ∘ V.int) = id := by funext z; rfl
  rw [e, List.map_id]
def rngI (m : Int) : List Int := (List.range m.toNat).map fun (i : Nat) => (i : Int)
theorem rngI_len (m : Int) : (rngI m).length = m.toNat := by
  unfold rngI
  rw [List.length_map, List.length_range]
theorem rngI_mem {m z : Int} (h : z ∈ rngI m) : 0 ≤ z ∧ z < m := by
  obtain ⟨i, hi, rfl⟩ := List.mem_map.mp h
  have := List.mem_range.mp hi
  omega
theorem rngI_all {m : Int} {k : Nat} (h : (k : Int) < m) : (k : Int) ∈ rngI m := List.mem_map.mpr ⟨k, List.mem_range.mpr (by omega), rfl⟩
theorem rngI_nodup (m : Int) : (rngI m).Nodup := by
  unfold rngI
  refine List.Pairwise.map _ (fun a b h z => h ?_) (List.nodup_range (n := m.toNat))
  omega
theorem rgV_eq (m : Int) : rgV 0 m = (rngI m).map V.int := by
  unfold rgV rngI
  rw [List.map_map]
  have e : (m - 0).toNat = m.toNat := by rw [Int.sub_zero]
  rw [e]
  refine List.map_congr_left fun i _ => ?_
  show V.int (0 + (i : Int)) = V.int (i : Int)
  rw [Int.zero_add]
theorem map_erase {α : Type} (f : α → V) (ls : List α) (k : Nat) : (ls.map f).eraseIdx k = (ls.eraseIdx k).map f := by
  induction ls generalizing k with
  | nil => rfl
  | cons a r ih => cases k with
    | zero => rfl
    | succ k => simp [ih]
theorem erase_perm {α : Type} : ∀ (l : List α) (k : Nat) (h : k < l.length), (l[k] :: l.eraseIdx k).Perm l
  | [], k, h => absurd h (Nat.not_lt_zero _)
  | a :: r, 0, _ => List.Perm.refl _
  | a :: r, k + 1, h => by
    have ih := erase_perm r k (Nat.lt_of_succ_lt_succ h)
    show ((r[k]'(Nat.lt_of_succ_lt_succ h)) :: a :: r.eraseIdx k).Perm (a :: r)
    exact (List.Perm.swap a _ _).trans (List.Perm.cons a ih)
theorem map_get {α : Type} {f : α → V} {l : List α} {i : Nat} {x : V} (h : (l.map f)[i]? = some x) : ∃ a, l[i]? = some a ∧ x = f a := by
  rw [List.getElem?_map] at h
  cases e : l[i]? with
  | none => rw [e] at h; cases h
  | some a => rw [e] at h; cases h; exact ⟨a, rfl, rfl⟩
theorem map_at {α : Type} {f : α → V} {l : List α} {i : Nat} {a : α} (h : l[i]? = some a) : (l.map f)[i]? = some (f a) := by
  rw [List.getElem?_map, h]
  rfl
theorem atI_of {α : Type} {f : α → V} {l : List α} {p : Int} {a : α} (h0 : 0 ≤ p) (h : l[p.toNat]? = some a) : atI (l.map f) p = some (f a) := by
  have e : p = ((p.toNat : Nat) : Int) := by omega
  have q := atI_nat (xs := l.map f) (j := p.toNat) (v := f a) (map_at h)
  rw [← e] at q
  exact q
theorem ixN_of {n : Nat} {p : Int} (h0 : 0 ≤ p) (h1 : p < n) : ixN n p = some p.toNat := by
  unfold ixN
  rw [if_pos h0, if_pos h1]
theorem take_snoc {α : Type} {l : List α} {i : Nat} {a : α} (h : l[i]? = some a) : l.take (i + 1) = l.take i ++ [a] := by
  rw [List.take_add_one, h]
  rfl
/-! ### the tape -/
def Tape (H : Hp) (tp : Addr) : Prop := ∃ b c : Int, H tp = some (.lst [.int b, .int c]) ∧ 0 ≤ b ∧ 0 ≤ c ∧ c ≤ 2147483647
def Taped (tp : Addr) (H H' : Hp) : Prop := (∀ b o, b ≠ tp → H b = some o → H' b = some o) ∧ Tape H' tp
theorem Tape.same {H H' : Hp} {tp : Addr} (h : Tape H tp) (s : Same H H') : Tape H' tp := let ⟨b, c, h1, r⟩ := h; ⟨b, c, s _ _ h1, r⟩
theorem Tape.seqs {H H' : Hp} {tp : Addr} (h : Tape H tp) (s : Seqs H H') : Tape H' tp := let ⟨b, c, h1, r⟩ := h; ⟨b, c, s.2 _ _ h1, r⟩
theorem Tape.new {H : Hp} {tp b : Addr} (h : Tape H tp) (n : H b = none) : b ≠ tp := fun z => by
  obtain ⟨_, _, h1, _⟩ := h
  rw [z, h1] at n
  cases n
theorem Tape.put {H : Hp} {tp b : Addr} {o : HO} (h : Tape H tp) (n : b ≠ tp) : Tape (upd H b o) tp := let ⟨x, c, h1, r⟩ := h; ⟨x, c, by rw [upd_ne n.symm]; exact h1, r⟩
theorem Taped.refl {H : Hp} {tp : Addr} (h : Tape H tp) : Taped tp H H := ⟨fun _ _ _ e => e, h⟩
theorem Taped.trans {H H1 H2 : Hp} {tp : Addr} (a : Taped tp H H1) (b : Taped tp H1 H2) : Taped tp H H2 := ⟨fun x o n e => b.1 x o n (a.1 x o n e), b.2⟩
theorem Taped.same {H H1 H2 : Hp} {tp : Addr} (a : Taped tp H H1) (s : Same H1 H2) : Taped tp H H2 := ⟨fun x o n e => s _ _ (a.1 x o n e), a.2.same s⟩
theorem Taped.put {H H1 : Hp} {tp b : Addr} {o : HO} (a : Taped tp H H1) (n : H b = none) (nb : b ≠ tp) : Taped tp H (upd H1 b o) :=
  ⟨fun x u nx e => by rw [upd_ne (ne_of_none e n)]; exact a.1 x u nx e, a.2.put nb⟩
theorem Taped.tups {H H' : Hp} {tp : Addr} (t : Tape H tp) (a : Taped tp H H') : Tups H H' := fun b xs e => by
  obtain ⟨_, _, h1, _⟩ := t
  exact a.1 b _ (fun z => by rw [z, h1] at e; cases e) e
theorem Taped.free {H H' : Hp} {tp b : Addr} (a : Taped tp H H') (n : H' b = none) : H b = none := by
  cases e : H b with
  | none => rfl
  | some o =>
    have m := a.2.new n
    rw [a.1 b o m e] at n
    cases n
theorem Taped.tabs {Ps : List Addr} {H H' : Hp} {tp : Addr} (t : Tape H tp) (a : Taped tp H H') (tt : Tabs Ps H) : Tabs Ps H' := fun P hP => by
  obtain ⟨ps, h, q⟩ := tt P hP
  obtain ⟨_, _, h1, _⟩ := t
  exact ⟨ps, a.1 P _ (fun z => by rw [z, h1] at h; cases h) h, q⟩
/-- len of a list or a tuple -/
def rLen (K : PySem.W.Frag) : List V → Hp → VK → Prop := fun xs H Q => ∃ p ys, xs = [.ref p] ∧ (SqL K H p ys ∨ SqT K H p ys) ∧ Q (.int (ys.length : Nat)) H
/-! ### pairs of ints, written -/
def pairsT : List (Int × Int) → TA
  | [] => tNil
  | p :: r => tCons (tTup (tCons (tC (.int p.1)) (tCons (tC (.int p.2)) tNil))) (pairsT r)
def IsPr (H : Hp) (t : Addr) (p : Int × Int) : Prop := H t = some (.tup [.int p.1, .int p.2])
theorem pairs_read {σ : L2.St} : ∀ (prs : List (Int × Int)) (H : Hp) (k : List V → Hp → Prop), (∀ ts H', Same H H' → Paired (IsPr H') ts prs → k (ts.map V.ref) H') → pairsT prs σ H k
  | [], H, k, h => h [] H (fun _ _ e => e) .nil
  | p :: r, H, k, h => by
    refine ⟨(by show 2 ≤ sizeLine; decide), fun t nt => ?_⟩
    refine pairs_read r _ _ fun ts H' sm pr => ?_
    exact h (t :: ts) H' ((same_upd nt).trans sm) (.cons (sm _ _ upd_same) pr)
theorem pairs_list {σ : L2.St} {prs : List (Int × Int)} {H : Hp} {Q : VK} (hl : prs.length ≤ 1000) (h : ∀ l ts H', Same H H' → H l = none → H' l = some (.lst (ts.map V.ref)) → Paired (IsPr H') ts prs → Q (.ref l) H') : tLst (pairsT prs) σ H Q := by
  refine pairs_read prs H _ fun ts H' sm pr => ?_
  refine ⟨by rw [List.length_map, pairedLen pr]; exact Nat.le_of_lt (small1000 hl), fun l nl => ?_⟩
  have sl := same_upd (o := .lst (ts.map V.ref)) nl
  exact h l ts _ (sm.trans sl) (sm.free nl) upd_same (pairedMap (fun _ _ e => sl _ _ e) pr)
theorem pairs_asg {i : Nat} {prs : List (Int × Int)} {D : Ends} {σ : L2.St} {H : Hp} (hl : prs.length ≤ 1000) (h : ∀ l ts H', Same H H' → H l = none → H' l = some (.lst (ts.map V.ref)) → Paired (IsPr H') ts prs → D.nx (σ.set i (some (.ref l))) H') : tAsg (tLst (pairsT prs)) (gName i) D σ H := by
  unfold tAsg
  exact pairs_list hl fun l ts H' a b c d => h l ts H' a b c d
theorem pairs_set {i : Nat} {prs : List (Int × Int)} {u : TS} {D : Ends} {σ : L2.St} {H : Hp} (hl : prs.length ≤ 1000) (h : ∀ l ts H', Same H H' → H l = none → H' l = some (.lst (ts.map V.ref)) → Paired (IsPr H') ts prs → u D (σ.set i (some (.ref l))) H') : tSeq (tAsg (tLst (pairsT prs)) (gName i)) u D σ H := pairs_asg hl h
/-! ### things popped at drawn places -/
structure Pops {α : Type} (f : α → V) (tp : Addr) (H : Hp) (l D : Addr) (zs0 : List α) (i : Nat) (H5 : Hp) (acc ls : List α) : Prop where
  fr : Taped tp H H5
  hL : H5 l = some (.lst (ls.map f))
  hD : H5 D = some (.lst (acc.map f))
  la : acc.length = i
  ll : ls.length + i = zs0.length
  pm : (acc ++ ls).Perm zs0
theorem pop_step {α : Type} {f : α → V} {tp : Addr} {H : Hp} {l D : Addr} {zs0 : List α} {i : Nat} {H5 H6 : Hp} {acc ls : List α} {d : Int} (nl : H l = none) (nlt : l ≠ tp) (nD : H D = none) (nDt : D ≠ tp) (nlD : l ≠ D) (hz : zs0.length ≤ 999) (p : Pops f tp H l D zs0 i H5 acc ls) (D6 : Taped tp H5 H6) (d0 : 0 ≤ d) (d1 : d < (ls.length : Int)) :
    ∃ y, (ls.map f)[d.toNat]? = some y ∧ H6 l = some (.lst (ls.map f)) ∧ seqIndex? d (ls.map f).length = some d.toNat ∧ ∃ acc', upd H6 l (.lst ((ls.map f).eraseIdx d.toNat)) D = some (.lst acc') ∧ acc'.length < sizeLine ∧ ∃ acc2 ls2, Pops f tp H l D zs0 (i + 1) (upd (upd H6 l (.lst ((ls.map f).eraseIdx d.toNat))) D (.lst (acc' ++ [y]))) acc2 ls2 := by
  have hd : d.toNat < ls.length := by omega
  have hL6 := D6.1 l _ nlt p.hL
  have hD6 := D6.1 D _ nDt p.hD
  have la := p.la
  have ll := p.ll
  refine ⟨f ls[d.toNat], map_at (List.getElem?_eq_getElem hd), hL6, seqIndex_of d0 (by rw [List.length_map]; exact d1), acc.map f, ?_, ?_, acc ++ [ls[d.toNat]], ls.eraseIdx d.toNat, ?_, ?_, ?_, ?_, ?_, ?_⟩
  · rw [upd_ne (Ne.symm nlD)]
    exact hD6
  · rw [List.length_map]
    exact small1000 (by omega)
  · exact ((p.fr.trans D6).put nl nlt).put nD nDt
  · rw [upd_ne nlD, upd_same, map_erase]
  · rw [upd_same, List.map_append]
    rfl
  · rw [List.length_append, la]
    rfl
  · rw [List.length_eraseIdx_of_lt hd]
    omega
  · refine List.Perm.trans ?_ p.pm
    rw [List.append_assoc]
    exact List.Perm.append_left acc (erase_perm ls _ hd)
/-! ### lists of rows -/
def IsFills (H : Hp) (l : Addr) (fss : List (List Int)) : Prop := ∃ as : List Addr, H l = some (.lst (as.map V.ref)) ∧ Paired (IsRow H) as fss
theorem pairedSnoc {α β : Type} {F : α → β → Prop} {a : α} {b : β} : ∀ {l : List α} {m : List β}, Paired F l m → F a b → Paired F (l ++ [a]) (m ++ [b])
  | _, _, .nil, h => .cons h .nil
  | _, _, .cons h t, k => .cons h (pairedSnoc t k)
theorem pairedApp {α β : Type} {F : α → β → Prop} {l2 : List α} {m2 : List β} : ∀ {l : List α} {m : List β}, Paired F l m → Paired F l2 m2 → Paired F (l ++ l2) (m ++ m2)
  | _, _, .nil, h => h
  | _, _, .cons h t, k => .cons h (pairedApp t k)
theorem yes_if {σ : L2.St} {H : Hp} {A B : Hp → Prop} (h : A H) : tYes σ H (fun b H3 => if b = true then A H3 else B H3) := by
  dsimp only [tYes]
  rw [if_pos rfl]
  exact h
theorem longer_at {hues j : Nat} (f : List Int) (h : j < hues) : (longer hues f)[j]? = some (f ++ [(j : Int)]) := by
  unfold longer
  rw [List.getElem?_map, List.getElem?_range h]
  rfl
theorem pairedZip {α β : Type} {F : α → β → Prop} : ∀ {l : List α} {m : List β}, Paired F l m → ∃ zs : List (α × β), zs.map (·.1) = l ∧ zs.map (·.2) = m ∧ ∀ z ∈ zs, F z.1 z.2
  | _, _, .nil => ⟨[], rfl, rfl, fun _ h => nomatch h⟩
  | a :: _, b :: _, .cons h t => by
    obtain ⟨zs, h1, h2, h3⟩ := pairedZip t
    refine ⟨(a, b) :: zs, by rw [List.map_cons, h1], by rw [List.map_cons, h2], fun z hz => ?_⟩
    rcases List.mem_cons.mp hz with e | e
    · rw [e]; exact h
    · exact h3 z e
theorem pairedOf {α β : Type} {F : α → β → Prop} {g : α → β} : ∀ {l : List α}, (∀ a ∈ l, F a (g a)) → Paired F l (l.map g)
  | [], _ => .nil
  | a :: r, h => .cons (h a List.mem_cons_self) (pairedOf fun b hb => h b (List.mem_cons_of_mem _ hb))
theorem longer_nodup (hues : Nat) (f : List Int) : (longer hues f).Nodup := by
  unfold longer
  refine List.Pairwise.map _ (fun a b h z => h ?_) (List.nodup_range (n := hues))
  have := List.append_cancel_left z
  simp only [List.cons.injEq, and_true] at this
  omega
theorem flat_nodup {hues : Nat} : ∀ {l : List (List Int)}, l.Nodup → (l.flatMap (longer hues)).Nodup
  | [], _ => by simp
  | f :: r, h => by
    rw [List.flatMap_cons]
    have hh := List.nodup_cons.mp h
    refine List.nodup_append.mpr ⟨longer_nodup hues f, flat_nodup hh.2, fun a ha b hb e => ?_⟩
    obtain ⟨i, _, rfl⟩ := List.mem_map.mp ha
    obtain ⟨g, hg, hb2⟩ := List.mem_flatMap.mp hb
    obtain ⟨j, _, rfl⟩ := List.mem_map.mp hb2
    have e2 : f = g := by
      have := congrArg List.dropLast e
      simpa using this
    exact hh.1 (e2 ▸ hg)
theorem fill_nodup (hues : Nat) : ∀ n : Nat, (fillL hues n).Nodup
  | 0 => by simp [fillL]
  | n + 1 => flat_nodup (fill_nodup hues n)
/-- places rising, no row twice -/
structure Neat (wd : WD) : Prop where
  pl : wd.1.Pairwise (· < ·)
  rows : wd.2.Nodup
theorem Neat.nd {wd : WD} (h : Neat wd) : wd.1.Nodup := h.pl.imp fun z e => by omega
theorem rise_of {ps : List Int} (h : ps.Pairwise (· ≤ ·)) (n : ps.Nodup) : ps.Pairwise (· < ·) := by
  have z := List.Pairwise.and h n
  exact z.imp fun ⟨a, b⟩ => by omega
/-! ### tables of draws -/
abbrev IsInts (H : Hp) (a : Addr) (ns : List Int) : Prop := H a = some (.lst (ns.map V.int))
/-- a list of lists of ints, none of them in Av -/
def IsTab (Av : Addr → Prop) (H : Hp) (ta : Addr) (tb : List (List Int)) : Prop := ∃ das : List Addr, H ta = some (.lst (das.map V.ref)) ∧ ¬ Av ta ∧ (∀ d ∈ das, ¬ Av d) ∧ Paired (IsInts H) das tb
theorem IsTab.mono {Av : Addr → Prop} {H H' : Hp} {ta : Addr} {tb : List (List Int)} (h : IsTab Av H ta tb) (k : ∀ b xs, ¬ Av b → H b = some (.lst xs) → H' b = some (.lst xs)) : IsTab Av H' ta tb := by
  obtain ⟨das, h1, h2, h3, h4⟩ := h
  refine ⟨das, k _ _ h2 h1, h2, h3, ?_⟩
  clear h1
  induction h4 with
  | nil => exact .nil
  | @cons a b l m e t ih => exact .cons (k _ _ (h3 a List.mem_cons_self) e) (ih fun d hd => h3 d (List.mem_cons_of_mem _ hd))
theorem IsTab.seqs {Av : Addr → Prop} {H H' : Hp} {ta : Addr} {tb : List (List Int)} (h : IsTab Av H ta tb) (s : Seqs H H') : IsTab Av H' ta tb := h.mono fun b xs _ e => s.2 b xs e
theorem IsTab.weak {Av Bv : Addr → Prop} {H : Hp} {ta : Addr} {tb : List (List Int)} (h : IsTab Av H ta tb) (k : ∀ b, Bv b → Av b) : IsTab Bv H ta tb := let ⟨das, h1, h2, h3, h4⟩ := h; ⟨das, h1, fun z => h2 (k _ z), fun d hd z => h3 d hd (k _ z), h4⟩
theorem IsTab.none {Av : Addr → Prop} {H : Hp} {ta : Addr} {tb : List (List Int)} (h : IsTab Av H ta tb) : IsTab (fun _ => False) H ta tb := h.weak fun _ z => z.elim
abbrev Old (H : Hp) : Addr → Prop := fun b => H b ≠ none
theorem IsTab.taped {tp : Addr} {H H' : Hp} {ta : Addr} {tb : List (List Int)} (h : IsTab (· = tp) H ta tb) (f : Taped tp H H') : IsTab (· = tp) H' ta tb := h.mono fun b xs n e => f.1 b _ n e
theorem Tape.old {H : Hp} {tp : Addr} (h : Tape H tp) : ∀ b, b = tp → Old H b := fun b e z => by
  obtain ⟨_, _, h1, _⟩ := h
  rw [e, h1] at z
  cases z
theorem dpTabs {K : PySem.W.Frag} {H : Hp} : ∀ {das : List Addr} {tb : List (List Int)}, Paired (IsInts H) das tb → DpAll K H (das.map V.ref) (tb.map fun l => .list (l.map .int))
  | _, _, .nil => .nil
  | _, _, .cons h t => .cons (.lst (.inl (.inl h)) (dpInts _)) (dpTabs t)
theorem dpTab {K : PySem.W.Frag} {Av : Addr → Prop} {H : Hp} {ta : Addr} {tb : List (List Int)} (h : IsTab Av H ta tb) : Dp K H (.ref ta) (listsD tb) := by
  obtain ⟨das, h1, _, _, h4⟩ := h
  exact .lst (.inl (.inl h1)) (dpTabs h4)
/-! ### logs and what a run tells -/
def IsEnt (H : Hp) (e : Addr) (x : Int × List Int) : Prop := ∃ r, H e = some (.tup [.int x.1, .ref r]) ∧ IsRow H r x.2
def IsLog (H : Hp) (la : Addr) (log : Log) : Prop := ∃ es : List Addr, H la = some (.lst (es.map V.ref)) ∧ Paired (IsEnt H) es log
theorem IsEnt.mono {H H' : Hp} {e : Addr} {x : Int × List Int} (h : IsEnt H e x) (t : Tups H H') : IsEnt H' e x := let ⟨r, h1, h2⟩ := h; ⟨r, t _ _ h1, t _ _ h2⟩
theorem IsLog.seqs {H H' : Hp} {la : Addr} {log : Log} (h : IsLog H la log) (s : Seqs H H') : IsLog H' la log := let ⟨es, h1, h2⟩ := h; ⟨es, s.2 _ _ h1, pairedMap (fun _ _ e => e.mono s.1) h2⟩
theorem IsLog.keep {H H' : Hp} {la : Addr} {log : Log} (h : IsLog H la log) (t : Tups H H') (k : ∀ xs, H la = some (.lst xs) → H' la = some (.lst xs)) : IsLog H' la log := let ⟨es, h1, h2⟩ := h; ⟨es, k _ h1, pairedMap (fun _ _ e => e.mono t) h2⟩
def entD (x : Int × List Int) : PyData := .tuple [.int x.1, rowD x.2]
def logD (log : Log) : PyData := .list (log.map entD)
def endS (b : Bool) : Str := if b = true then "kept" else "spent"
def resD (R : Res) : PyData := .tuple [.str (endS R.1), rowD R.2.1, logD R.2.2]
theorem dpEnts {K : PySem.W.Frag} {H : Hp} : ∀ {es : List Addr} {log : Log}, Paired (IsEnt H) es log → DpAll K H (es.map V.ref) (log.map entD)
  | _, _, .nil => .nil
  | _, _, .cons ⟨r, h1, h2⟩ t => .cons (.tup (.inl (.inl h1)) (.cons (.int _) (.cons (dpRow h2) .nil))) (dpEnts t)
theorem dpLog {K : PySem.W.Frag} {H : Hp} {la : Addr} {log : Log} (h : IsLog H la log) : Dp K H (.ref la) (logD log) := let ⟨es, h1, h2⟩ := h; .lst (.inl (.inl h1)) (dpEnts h2)
/-- what a run tells: the tuple, the filling and the log's list, which is new -/
def IsRes (H0 H : Hp) (t : Addr) (R : Res) : Prop := ∃ fa la, H t = some (.tup [.str (endS R.1), .ref fa, .ref la]) ∧ IsRow H fa R.2.1 ∧ IsLog H la R.2.2 ∧ H0 la = none
theorem dpRes {K : PySem.W.Frag} {H0 H : Hp} {t : Addr} {R : Res} (h : IsRes H0 H t R) : Dp K H (.ref t) (resD R) := let ⟨fa, la, h1, h2, h3, _⟩ := h; .tup (.inl (.inl h1)) (.cons (.str _) (.cons (dpRow h2) (.cons (dpLog h3) .nil)))
theorem IsRes.seqs {H0 H H' : Hp} {t : Addr} {R : Res} (h : IsRes H0 H t R) (s : Seqs H H') : IsRes H0 H' t R := let ⟨fa, la, h1, h2, h3, h4⟩ := h; ⟨fa, la, s.1 _ _ h1, s.1 _ _ h2, h3.seqs s, h4⟩
theorem IsRes.old {H0 H1 H : Hp} {t : Addr} {R : Res} (h : IsRes H1 H t R) (k : ∀ b, H1 b = none → H0 b = none) : IsRes H0 H t R := let ⟨fa, la, h1, h2, h3, h4⟩ := h; ⟨fa, la, h1, h2, h3, k _ h4⟩
/-- each log's pair is fine -/
theorem fine_ent {many hues : Int} {wds : List WD} (gr : GoodR many hues wds) {x : Int × List Int} (h : 0 ≤ x.1 ∧ x.1 < (wds.length : Int) ∧ ∃ wd, wds[x.1.toNat]? = some wd ∧ x.2 ∈ wd.2) : Fine (entD x) 3 80 := by
  obtain ⟨h0, h1, wd, hw, hr⟩ := h
  have e8 := gr.eight
  have g := gr.each wd (List.mem_of_getElem? hw)
  have a := fine_int (i := x.1) h0 (by omega)
  have b : Fine (rowD x.2) 2 64 := fine_row (fun z hz => ⟨((g.row _ hr).2 z hz).1, by have := ((g.row _ hr).2 z hz).2; have := gr.h4; omega⟩) (by have := (g.row _ hr).1; have := g.three; omega)
  exact (Fine.tuple (FineAll.cons (a.mono (by omega) (Nat.le_refl _)) (FineAll.cons b (FineAll.nil _)))).mono (Nat.le_refl _) (by omega)
theorem fine_log {many hues : Int} {wds : List WD} (gr : GoodR many hues wds) {log : Log} (h : LogOk wds log) (hl : log.length ≤ 6000) : Fine (logD log) 4 600000 :=
  (Fine.list (fineAll_map log fun x hx => fine_ent gr (h x hx))).mono (Nat.le_refl _) (by omega)
theorem fine_end (b : Bool) : Fine (.str (endS b)) 1 64 := by
  cases b <;> exact ⟨by decide +kernel, by decide +kernel, by decide +kernel, by decide +kernel, by decide +kernel, by decide +kernel⟩
theorem fine_res {many hues : Int} {wds : List WD} (gr : GoodR many hues wds) {R : Res} (gf : GoodF many hues R.2.1) (h : LogOk wds R.2.2) (hl : R.2.2.length ≤ 6000) : Fine (resD R) 5 700000 :=
  (Fine.tuple (FineAll.cons ((fine_end R.1).mono (by omega) (Nat.le_refl _)) (FineAll.cons ((fine_fill gf gr.m6 gr.h4).mono (by omega) (Nat.le_refl _)) (FineAll.cons (fine_log gr h hl) (FineAll.nil _))))).mono (Nat.le_refl _) (by omega)
theorem fine_tabT {many hues : Int} {tb : List (List Int)} (m6 : many ≤ 6) (h4 : hues ≤ 4) (g : GoodT many hues tb) : Fine (listsD tb) 3 100000 := by
  have hl := g.len
  refine (Fine.list (fineAll_map tb (n := 2) (w := 15000) fun l hm => (fine_ints fun z hz => ⟨(g.hue l hm z hz).1, by have := (g.hue l hm z hz).2; omega⟩).mono (Nat.le_refl _) (by have := g.few l hm; omega))).mono (Nat.le_refl _) ?_
  have : tb.length ≤ 6 := by omega
  omega
/-! ### equality of data -/
theorem eqv_str (a b : Str) : PyData.eqv (.str a) (.str b) = (a == b) := by simp [PyData.eqv]
end Rd
namespace Gx
open PySem PySem.Spec PyProof.Rows L2 GenW
theorem tup_zipL {K : PySem.W.Frag} {a b : Addr} {xs ys : List V} {g : TG} {tt : TT} {te : TE} {vs : List Nat} {σ : L2.St} {Q : List V → Hp → Prop} {H2 : Hp} (hl : xs.length = ys.length) (hz : xs.length ≤ sizeLine) (Pv : Nat → List V → Hp → Prop) (h0 : Pv 0 [] H2) (hq : ∀ i zs H, Pv i zs H → SqL K H a xs ∧ SqL K H b ys) (hy : ∀ i zs H, Pv i zs H → zs.length ≤ i)
    (hs : ∀ i x y T zs H, xs[i]? = some x → ys[i]? = some y → Pv i zs H → H T = none → g (.ref T) (wipe σ vs) (upd H T (.tup [x, y])) fun σ2 H2 => wipe σ2 vs = wipe σ vs ∧ tt σ2 H2 fun b H3 => if b = true then te σ2 H3 fun y H4 => Pv (i + 1) (zs ++ [y]) H4 else Pv (i + 1) zs H3) (hd : ∀ zs H, Pv xs.length zs H → Q zs H) :
    ∃ W : Nat → Nat → List V → Hp → Prop, (∃ m, W 0 m [] H2) ∧ TurnsC (Itz K a b) g tt te vs σ Q W := by
  refine ⟨fun i m zs H => m = xs.length - i ∧ i ≤ xs.length ∧ Pv i zs H, ⟨xs.length, by simp, Nat.zero_le _, h0⟩, ?_⟩
  rintro i m zs H ⟨rfl, hi, p⟩
  obtain ⟨qx, qy⟩ := hq i zs H p
  by_cases hlt : i < xs.length
  · have hx : xs[i]? = some xs[i] := List.getElem?_eq_getElem hlt
    have hlt2 : i < ys.length := by omega
    have hy2 : ys[i]? = some ys[i] := List.getElem?_eq_getElem hlt2
    refine .inr ⟨⟨xs, ys, _, _, qx, qy, hx, hy2⟩, Nat.lt_of_le_of_lt (hy i zs H p) (Nat.lt_of_lt_of_le hlt hz), Pv (i + 1), fun zs' H' p' => ⟨xs.length - (i + 1), by omega, rfl, hlt, p'⟩, fun v H' y => ?_⟩
    obtain ⟨T, x', y', rfl, hT, rfl, f1, f2⟩ := y
    exact hs i x' y' T zs H (f1 xs qx) (f2 ys qy) p hT
  · have e : i = xs.length := by omega
    subst e
    exact .inl ⟨⟨xs, ys, qx, qy, Or.inl (Nat.le_refl _)⟩, hd zs H p⟩
end Gx
namespace Rd
open PySem PySem.Spec PyProof.Rows L2 Dt
def leftAt (tb : List (List Int)) (tk : List Int) (p : Int) : List Int := (leftOf tb tk).getD p.toNat []
theorem leftAt_get {tb : List (List Int)} {tk : List Int} {p : Int} (g : GoodK tb tk) (h0 : 0 ≤ p) (h1 : p < (tb.length : Int)) : (leftOf tb tk)[p.toNat]? = some (leftAt tb tk p) := by
  have h : p.toNat < (leftOf tb tk).length := by rw [left_len g]; omega
  rw [leftAt, getD_get h]
  exact List.getElem?_eq_getElem h
theorem leftAt_nil {tb : List (List Int)} {tk : List Int} {p : Int} (g : GoodK tb tk) (h0 : 0 ≤ p) (h1 : p < (tb.length : Int)) : (leftAt tb tk p = []) ↔ ¬ (atF tk p + 1 < lenAt tb p) := by
  have hp : p.toNat < tb.length := by omega
  have e := left_get g hp
  rw [leftAt_get g h0 h1] at e
  rw [Option.some.inj e, List.drop_eq_nil_iff]
  have a := g.at_ _ hp
  unfold atF lenAt
  omega
theorem eqv_ints_nil (l : List Int) : PyData.eqv (.list (l.map .int)) (.list []) = decide (l = []) := by
  cases l with
  | nil => simp [PyData.eqv, PyData.eqvAll]
  | cons a r => simp [PyData.eqv, PyData.eqvAll]
theorem any_left {tb : List (List Int)} {tk : List Int} (g : GoodK tb tk) : ∀ ps : List Int, (∀ p ∈ ps, 0 ≤ p ∧ p < (tb.length : Int)) → ((ps.map fun p => PyData.list ((leftAt tb tk p).map .int)).any fun z => PyData.eqv z (.list [])) = !canN tb tk ps
  | [], _ => rfl
  | p :: r, h => by
    have hp := h p List.mem_cons_self
    rw [List.map_cons, List.any_cons, any_left g r fun q hq => h q (List.mem_cons_of_mem _ hq), eqv_ints_nil]
    unfold canN
    rw [List.all_cons, Bool.not_and]
    congr 1
    by_cases e : leftAt tb tk p = []
    · rw [decide_eq_true e, decide_eq_false ((leftAt_nil g hp.1 hp.2).mp e)]
      rfl
    · rw [decide_eq_false e, decide_eq_true (Classical.not_not.mp fun z => e ((leftAt_nil g hp.1 hp.2).mpr z))]
      rfl
theorem stand0 {many hues : Int} {tb : List (List Int)} (g : GoodT many hues tb) {i : Nat} {ds : List Int} (h : tb[i]? = some ds) : (stand tb (zerosI tb.length))[i]? = some (atF ds 0) := by
  have hi : i < tb.length := (List.getElem?_eq_some_iff.mp h).1
  rw [stand_get (zeros_good g) hi, zeros_get, List.getD_eq_getElem?_getD, h]
  rfl
theorem left0 {many hues : Int} {tb : List (List Int)} (g : GoodT many hues tb) {i : Nat} {ds : List Int} (h : tb[i]? = some ds) : (leftOf tb (zerosI tb.length))[i]? = some (ds.drop 1) := by
  have hi : i < tb.length := (List.getElem?_eq_some_iff.mp h).1
  rw [left_get (zeros_good g) hi, zeros_get, List.getD_eq_getElem?_getD, h]
  rfl
theorem paired_upd {H : Hp} {D : Addr} {o : HO} : ∀ {l : List Addr} {m : List (List Int)}, Paired (IsInts H) l m → (∀ d ∈ l, d ≠ D) → Paired (IsInts (upd H D o)) l m
  | _, _, .nil, _ => .nil
  | a :: _, _, .cons h t, n => .cons (by show upd H D o a = _; rw [upd_ne (n a List.mem_cons_self)]; exact h) (paired_upd t fun d hd => n d (List.mem_cons_of_mem _ hd))
theorem paired_set {α β : Type} {F : α → β → Prop} : ∀ {l : List α} {m : List β} {i : Nat} {a : α} {b : β}, Paired F l m → F a b → Paired F (l.set i a) (m.set i b)
  | _, _, _, _, _, .nil, _ => .nil
  | _, _, 0, _, _, .cons _ t, h => .cons h t
  | _, _, i + 1, _, _, .cons e t, h => .cons e (paired_set (i := i) t h)
theorem paired_fresh {H : Hp} {D : Addr} {l : List Addr} {m : List (List Int)} (p : Paired (IsInts H) l m) (n : H D = none) : ∀ d ∈ l, d ≠ D := fun d hd z => by
  obtain ⟨j, hj⟩ := List.getElem?_of_mem hd
  obtain ⟨row, _, e⟩ := pairedGetL p hj
  have e2 : H d = some (.lst (row.map V.int)) := e
  rw [z, n] at e2
  cases e2
end Rd
namespace Rd
open PySem PySem.Spec PyProof.Rows L2 Dt
/-! ### the script's list, the tape and the tables, together -/
def rListO (K : PySem.W.Frag) : List V → Hp → VK → Prop := fun xs H Q => ∃ p ys, xs = [.ref p] ∧ (SqL K H p ys ∨ SqT K H p ys) ∧ ∀ l, H l = none → Q (.ref l) (upd H l (.lst ys))
theorem sq_keep {K : PySem.W.Frag} {H H' : Hp} {a : Addr} {xs : List V} (h : SqL K H a xs) (k : ∀ o, H a = some o → H' a = some o) : SqL K H' a xs := by
  rcases h with (h | ⟨o, h⟩) | h
  · exact .inl (.inl (k _ h))
  · exact .inl (.inr ⟨o, k _ h⟩)
  · exact .inr h
theorem sq_new {K : PySem.W.Frag} {H : Hp} {a tp : Addr} {xs : List V} (h : SqL K H a xs) (n : H tp = none) (e : a = tp) (H' : Hp) : SqL K H' a xs := by
  rcases h with (h | ⟨o, h⟩) | h
  · rw [e, n] at h; cases h
  · rw [e, n] at h; cases h
  · exact .inr h
theorem Tabs.sq {K : PySem.W.Frag} {Ps : List Addr} {H H' : Hp} {a : Addr} {xs : List V} (t : Tabs Ps H) (f : FrS Ps H H') (h : SqL K H a xs) : SqL K H' a xs := by
  rcases h with (h | ⟨o, h⟩) | h
  · exact .inl (.inl (f.1 _ _ (t.lst h) h))
  · exact .inl (.inr ⟨o, f.1 _ _ (fun z => by obtain ⟨ps, q, _⟩ := t a z; rw [h] at q; cases q) h⟩)
  · exact .inr h
structure LI (K : PySem.W.Frag) (a : Addr) (xs : List V) (Ps : List Addr) (tp : Addr) (H : Hp) : Prop where
  tape : Tape H tp
  tabs : Tabs Ps H
  scr : SqL K H a xs
  far : a = tp → ∀ H', SqL K H' a xs
theorem LI.frs {K : PySem.W.Frag} {a : Addr} {xs : List V} {Ps : List Addr} {tp : Addr} {H H' : Hp} (h : LI K a xs Ps tp H) (f : FrS Ps H H') : LI K a xs Ps tp H' := ⟨h.tape.seqs (f.seqs h.tabs), f.2, h.tabs.sq f h.scr, h.far⟩
theorem LI.same {K : PySem.W.Frag} {a : Addr} {xs : List V} {Ps : List Addr} {tp : Addr} {H H' : Hp} (h : LI K a xs Ps tp H) (s : Same H H') : LI K a xs Ps tp H' := h.frs (FrS.of h.tabs s)
theorem LI.taped {K : PySem.W.Frag} {a : Addr} {xs : List V} {Ps : List Addr} {tp : Addr} {H H' : Hp} (h : LI K a xs Ps tp H) (f : Taped tp H H') : LI K a xs Ps tp H' := by
  refine ⟨f.2, f.tabs h.tape h.tabs, ?_, h.far⟩
  by_cases e : a = tp
  · exact h.far e H'
  · exact sq_keep h.scr fun o => f.1 a o e
theorem fine_eqv {d : PyData} {n w : Nat} (h : Fine d n w) : PyData.eqv d d = true := PySem.SeqAt.eqv_refl d h.lay
theorem pairedRep {α β : Type} {F : α → β → Prop} {a : α} {b : β} (h : F a b) : ∀ n : Nat, Paired F (List.replicate n a) (List.replicate n b)
  | 0 => .nil
  | n + 1 => .cons h (pairedRep h n)
theorem rep_flat {α : Type} (f : α → V) (a : α) (n : Nat) : (List.replicate n [f a]).flatten = (List.replicate n a).map f := by
  rw [List.map_replicate]
  induction n with
  | zero => rfl
  | succ n ih => rw [List.replicate_succ, List.flatten_cons, ih, List.replicate_succ]; rfl
theorem goodT_rep {many hues : Int} {tb : List (List Int)} {ds : List Int} (g : GoodT many hues tb) (h : ds ∈ tb) (m0 : 0 ≤ many) : GoodT many hues (List.replicate many.toNat ds) := by
  refine ⟨by rw [List.length_replicate]; omega, fun x hx => ?_, fun x hx => ?_, fun x hx => ?_⟩
  · rw [(List.mem_replicate.mp hx).2]; exact g.one ds h
  · rw [(List.mem_replicate.mp hx).2]; exact g.few ds h
  · rw [(List.mem_replicate.mp hx).2]; exact g.hue ds h
end Rd

set_option Elab.async false
set_option linter.all false
set_option maxRecDepth 100000
set_option maxHeartbeats 4000000
/-! runs step by step, and the draws told back -/
namespace Dt
open PySem PySem.Spec PyProof.Rows L2
inductive Steps (wds : List WD) (tb : List (List Int)) (ord : List Int) : List Int → Log → List Int → Log → Prop
  | refl (tk : List Int) (log : Log) : Steps wds tb ord tk log tk log
  | step {tk tk' : List Int} {log log' : Log} {k : Int} : firstB (stand tb tk) wds ord = some k → canN tb tk (plc wds k) = true → Steps wds tb ord (bumpA tk (plc wds k)) (log ++ [(k, huesA (stand tb tk) (plc wds k))]) tk' log' → Steps wds tb ord tk log tk' log'
/-- how a run ends -/
structure EndsAt (wds : List WD) (tb : List (List Int)) (ord : List Int) (tk : List Int) (b : Bool) : Prop where
  kept : b = true → firstB (stand tb tk) wds ord = none
  spent : b = false → ∃ k, firstB (stand tb tk) wds ord = some k ∧ canN tb tk (plc wds k) = false
theorem goR_steps {wds : List WD} {tb : List (List Int)} {ord : List Int} {R : Res} : ∀ (n : Nat) (tk : List Int) (log : Log), goR wds tb ord n tk log = some R → ∃ tkE, Steps wds tb ord tk log tkE R.2.2 ∧ R.2.1 = stand tb tkE ∧ EndsAt wds tb ord tkE R.1
  | 0, _, _, h => nomatch h
  | n + 1, tk, log, h => by
    rw [goR] at h
    cases e : firstB (stand tb tk) wds ord with
    | none =>
      rw [e] at h
      have z := Option.some.inj h
      rw [← z]
      exact ⟨tk, .refl _ _, rfl, fun _ => e, fun z => nomatch z⟩
    | some k =>
      rw [e] at h
      dsimp only at h
      cases c : canN tb tk (plc wds k) with
      | false =>
        rw [c, if_neg (by decide)] at h
        have z := Option.some.inj h
        rw [← z]
        exact ⟨tk, .refl _ _, rfl, (fun z => nomatch z), fun _ => ⟨k, e, c⟩⟩
      | true =>
        rw [c, if_pos rfl] at h
        obtain ⟨tkE, h1, h2, h3⟩ := goR_steps n _ _ h
        exact ⟨tkE, .step e c h1, h2, h3⟩
theorem steps_goR {wds : List WD} {tb : List (List Int)} {ord : List Int} {tk tk' : List Int} {log log' : Log} (s : Steps wds tb ord tk log tk' log') : ∃ c : Nat, ∀ m, goR wds tb ord (m + c) tk log = goR wds tb ord m tk' log' := by
  induction s with
  | refl tk log => exact ⟨0, fun m => rfl⟩
  | @step tk tk' log log' k e c s ih =>
    obtain ⟨n, hn⟩ := ih
    refine ⟨n + 1, fun m => ?_⟩
    show goR wds tb ord (m + n + 1) tk log = _
    rw [goR, e]
    dsimp only
    rw [c, if_pos rfl]
    exact hn m
theorem ends_goR {wds : List WD} {tb : List (List Int)} {ord : List Int} {tk : List Int} {b : Bool} (h : EndsAt wds tb ord tk b) (m : Nat) (log : Log) : goR wds tb ord (m + 1) tk log = some (b, stand tb tk, log) := by
  rw [goR]
  cases b with
  | true => rw [h.kept rfl]
  | false =>
    obtain ⟨k, h1, h2⟩ := h.spent rfl
    rw [h1]
    dsimp only
    rw [h2, if_neg (by decide)]
theorem goR_more {wds : List WD} {tb : List (List Int)} {ord : List Int} {R : Res} : ∀ (n : Nat) (tk : List Int) (log : Log) (m : Nat), goR wds tb ord n tk log = some R → goR wds tb ord (n + m) tk log = some R
  | 0, _, _, _, h => nomatch h
  | n + 1, tk, log, m, h => by
    rw [show n + 1 + m = (n + m) + 1 by omega]
    rw [goR] at h ⊢
    cases e : firstB (stand tb tk) wds ord with
    | none => rw [e] at h; exact h
    | some k =>
      rw [e] at h
      dsimp only at h ⊢
      cases c : canN tb tk (plc wds k) with
      | false => rw [c, if_neg (by decide)] at h; rw [if_neg (by decide)]; exact h
      | true =>
        rw [c, if_pos rfl] at h
        rw [if_pos rfl]
        exact goR_more n _ _ m h
theorem goR_one {wds : List WD} {tb : List (List Int)} {ord : List Int} {R R' : Res} {n n' : Nat} {tk : List Int} {log : Log} (h : goR wds tb ord n tk log = some R) (h' : goR wds tb ord n' tk log = some R') : R = R' := by
  have a := goR_more n tk log n' h
  have b := goR_more n' tk log n h'
  rw [Nat.add_comm] at b
  exact Option.some.inj (a.symm.trans b)
/-- a run by its steps -/
theorem runOf_of {many hues : Int} {wds : List WD} {tb : List (List Int)} {ord : List Int} (gr : GoodR many hues wds) (nd : ∀ wd ∈ wds, wd.1.Nodup) (gt : GoodT many hues tb) (go : GoodO wds.length ord) {tk : List Int} {log : Log} {b : Bool} (s : Steps wds tb ord (zerosI tb.length) [] tk log) (e : EndsAt wds tb ord tk b) : runOf wds tb ord = some (b, stand tb tk, log) := by
  obtain ⟨R, hR, _⟩ := runOf_some gr nd gt go
  obtain ⟨c, hc⟩ := steps_goR s
  have z := ends_goR e 0 log
  rw [← hc (0 + 1)] at z
  rw [hR]
  exact congrArg some (goR_one hR z)
theorem runOf_steps {wds : List WD} {tb : List (List Int)} {ord : List Int} {R : Res} (h : runOf wds tb ord = some R) : ∃ tkE, Steps wds tb ord (zerosI tb.length) [] tkE R.2.2 ∧ R.2.1 = stand tb tkE ∧ EndsAt wds tb ord tkE R.1 := goR_steps _ _ _ h
/-! ### what stays along steps -/
structure Fit (many hues : Int) (wds : List WD) (tb : List (List Int)) (ord : List Int) : Prop where
  gr : GoodR many hues wds
  nd : ∀ wd ∈ wds, wd.1.Nodup
  len : (tb.length : Int) = many
  go : GoodO wds.length ord
theorem can_fit {many hues : Int} {wds : List WD} {tb : List (List Int)} {tk : List Int} {ord : List Int} {k : Int} (f : Fit many hues wds tb ord) (e : firstB (stand tb tk) wds ord = some k) (h : canN tb tk (plc wds k) = true) : Can tb tk (plc wds k) ∧ ∃ wd, wds[k.toNat]? = some wd ∧ plc wds k = wd.1 ∧ brkAt (stand tb tk) wds k.toNat = true ∧ 0 ≤ k ∧ k < (wds.length : Int) := by
  obtain ⟨hk, hb⟩ := first_some e
  obtain ⟨k0, k1⟩ := f.go.mem k hk
  obtain ⟨wd, hw, he⟩ := wd_of k0 k1
  refine ⟨⟨?_, fun p hp => ?_, fun p hp => of_decide_eq_true (List.all_eq_true.mp h p hp)⟩, wd, hw, he, hb, k0, k1⟩
  · rw [he]; exact f.nd wd (List.mem_of_getElem? hw)
  · rw [he] at hp
    have := (f.gr.each wd (List.mem_of_getElem? hw)).pl p hp
    have := f.len
    omega
theorem steps_good {many hues : Int} {wds : List WD} {tb : List (List Int)} {ord : List Int} (f : Fit many hues wds tb ord) {tk tk' : List Int} {log log' : Log} (s : Steps wds tb ord tk log tk' log') (g : GoodK tb tk) : GoodK tb tk' := by
  induction s with
  | refl => exact g
  | step e c s ih => exact ih (bumpA_good g (can_fit f e c).1).1
theorem atF_bump (tk : List Int) (p q : Int) (h0 : 0 ≤ p) (h1 : p < (tk.length : Int)) (hq : 0 ≤ q) : atF (bump tk p.toNat) q = atF tk q + (if q = p then 1 else 0) := by
  unfold atF
  rw [bump_get]
  by_cases e : q = p
  · subst e
    rw [if_pos ⟨rfl, by omega⟩, if_pos rfl]
  · rw [if_neg (fun z => e (by omega)), if_neg e, Int.add_zero]
theorem atF_bumpA : ∀ (ps : List Int) (tk : List Int) (q : Int), ps.Nodup → (∀ p ∈ ps, 0 ≤ p ∧ p < (tk.length : Int)) → 0 ≤ q → atF (bumpA tk ps) q = atF tk q + (if q ∈ ps then 1 else 0)
  | [], tk, q, _, _, _ => by simp [bumpA]
  | p :: r, tk, q, nd, h, hq => by
    have hp := h p List.mem_cons_self
    have nd2 := List.nodup_cons.mp nd
    show atF (bumpA (bump tk p.toNat) r) q = _
    rw [atF_bumpA r (bump tk p.toNat) q nd2.2 (fun x hx => by rw [bump_len]; exact h x (List.mem_cons_of_mem _ hx)) hq, atF_bump tk p q hp.1 hp.2 hq]
    by_cases e : q = p
    · subst e
      rw [if_pos rfl, if_neg nd2.1, if_pos List.mem_cons_self]
      omega
    · rw [if_neg e, Int.add_zero]
      by_cases e2 : q ∈ r
      · rw [if_pos e2, if_pos (List.mem_cons_of_mem _ e2)]
      · rw [if_neg e2, if_neg (fun z => (List.mem_cons.mp z).elim e e2)]
def cntP (wds : List WD) (log : Log) (p : Int) : Nat := (log.filter fun e => decide (p ∈ plc wds e.1)).length
theorem cntP_snoc (wds : List WD) (log : Log) (e : Int × List Int) (p : Int) : cntP wds (log ++ [e]) p = cntP wds log p + (if p ∈ plc wds e.1 then 1 else 0) := by
  unfold cntP
  rw [List.filter_append, List.length_append]
  by_cases h : p ∈ plc wds e.1
  · simp [h]
  · simp [h]
theorem steps_cnt {many hues : Int} {wds : List WD} {tb : List (List Int)} {ord : List Int} (f : Fit many hues wds tb ord) {tk tk' : List Int} {log log' : Log} (s : Steps wds tb ord tk log tk' log') (g : GoodK tb tk) (h : ∀ p, 0 ≤ p → p < (tb.length : Int) → atF tk p = cntP wds log p) : ∀ p, 0 ≤ p → p < (tb.length : Int) → atF tk' p = cntP wds log' p := by
  induction s with
  | refl => exact h
  | @step tk tk' log log' k e c s ih =>
    have cf := (can_fit f e c).1
    refine ih (bumpA_good g cf).1 fun p p0 p1 => ?_
    rw [atF_bumpA _ _ _ cf.nd (fun x hx => by rw [g.len]; exact cf.pl x hx) p0, cntP_snoc, h p p0 p1]
    by_cases e2 : p ∈ plc wds k
    · rw [if_pos e2, if_pos e2]; rfl
    · rw [if_neg e2, if_neg e2]; rfl
theorem steps_le {many hues : Int} {wds : List WD} {tb : List (List Int)} {ord : List Int} (f : Fit many hues wds tb ord) {tk tk' : List Int} {log log' : Log} (s : Steps wds tb ord tk log tk' log') (g : GoodK tb tk) : ∀ p, 0 ≤ p → atF tk p ≤ atF tk' p := by
  induction s with
  | refl => exact fun _ _ => Int.le_refl _
  | @step tk tk' log log' k e c s ih =>
    intro p p0
    have cf := (can_fit f e c).1
    have a := ih (bumpA_good g cf).1 p p0
    rw [atF_bumpA _ _ _ cf.nd (fun x hx => by rw [g.len]; exact cf.pl x hx) p0] at a
    split at a <;> omega
theorem steps_pre {wds : List WD} {tb : List (List Int)} {ord : List Int} {tk tk' : List Int} {log log' : Log} (s : Steps wds tb ord tk log tk' log') : ∃ more, log' = log ++ more := by
  induction s with
  | refl => exact ⟨[], by rw [List.append_nil]⟩
  | step e c s ih =>
    obtain ⟨more, h⟩ := ih
    exact ⟨_, by rw [h, List.append_assoc]⟩
/-! ### tables that agree so far -/
structure Agree (tb tb' : List (List Int)) (tk : List Int) : Prop where
  len : tb'.length = tb.length
  long : ∀ p : Nat, p < tb.length → tk.getD p 0 < ((tb'.getD p []).length : Int)
  eq : ∀ p : Nat, p < tb.length → (tb'.getD p []).take ((tk.getD p 0).toNat + 1) = (tb.getD p []).take ((tk.getD p 0).toNat + 1)
theorem take_at {a b : List Int} {n j : Nat} (h : a.take (n + 1) = b.take (n + 1)) (hj : j ≤ n) : a.getD j 0 = b.getD j 0 := by
  have z := congrArg (fun l : List Int => l[j]?) h
  simp only [List.getElem?_take] at z
  rw [if_pos (by omega), if_pos (by omega)] at z
  rw [List.getD_eq_getElem?_getD, List.getD_eq_getElem?_getD, z]
theorem Agree.stand {tb tb' : List (List Int)} {tk tkE : List Int} (a : Agree tb tb' tkE) (g : GoodK tb tk) (h : ∀ p, 0 ≤ p → atF tk p ≤ atF tkE p) : stand tb' tk = stand tb tk := by
  have g' : GoodK tb' tk := by
    refine ⟨by rw [a.len]; exact g.len, fun p hp => ?_⟩
    rw [a.len] at hp
    have b := g.at_ p hp
    have c := a.long p hp
    have d := h p (by omega)
    unfold atF at d
    rw [Int.toNat_natCast] at d
    omega
  refine List.ext_getElem? fun i => ?_
  by_cases hi : i < tb.length
  · rw [stand_get g' (by rw [a.len]; exact hi), stand_get g hi]
    have b := g.at_ i hi
    have d := h i (by omega)
    unfold atF at d ⊢
    rw [Int.toNat_natCast] at d
    rw [take_at (a.eq i hi) (by omega)]
  · rw [List.getElem?_eq_none (by rw [stand_len g', a.len]; omega), List.getElem?_eq_none (by rw [stand_len g]; omega)]
theorem agree_good {tb tb' : List (List Int)} {tk tkE : List Int} (a : Agree tb tb' tkE) (g : GoodK tb tk) (h : ∀ p, 0 ≤ p → atF tk p ≤ atF tkE p) : GoodK tb' tk := by
  refine ⟨by rw [a.len]; exact g.len, fun p hp => ?_⟩
  rw [a.len] at hp
  have b := g.at_ p hp
  have c := a.long p hp
  have d := h p (by omega)
  unfold atF at d
  rw [Int.toNat_natCast] at d
  omega
theorem steps_agree {many hues : Int} {wds : List WD} {tb tb' : List (List Int)} {ord : List Int} (f : Fit many hues wds tb ord) {tk tkE : List Int} {log log' : Log} (s : Steps wds tb ord tk log tkE log') (g : GoodK tb tk) (a : Agree tb tb' tkE) : Steps wds tb' ord tk log tkE log' := by
  induction s with
  | refl => exact .refl _ _
  | @step tk tkE log log' k e c s ih =>
    have cf := (can_fit f e c).1
    have g2 := (bumpA_good g cf).1
    have le2 := steps_le f s g2
    have le1 := steps_le f (.step e c s) g
    have es := a.stand g le1
    have ih2 := ih g2 a
    refine .step (k := k) (by rw [es]; exact e) ?_ (by rw [es]; exact ih2)
    refine List.all_eq_true.mpr fun p hp => decide_eq_true ?_
    have pp := cf.pl p hp
    have b := le2 p pp.1
    rw [atF_bumpA _ _ _ cf.nd (fun x hx => by rw [g.len]; exact cf.pl x hx) pp.1, if_pos hp] at b
    have d := a.long p.toNat (by omega)
    unfold atF lenAt at *
    omega
/-! ### the draws told back -/
def app1 (tb : List (List Int)) (p : Nat) (h : Int) : List (List Int) := tb.set p (tb.getD p [] ++ [h])
def appA (tb : List (List Int)) (ps row : List Int) : List (List Int) := (ps.zip row).foldl (fun t x => app1 t x.1.toNat x.2) tb
def toldL (wds : List WD) (n : Nat) (log : Log) : List (List Int) := log.foldl (fun t e => appA t (plc wds e.1) e.2) (List.replicate n [])
def finA (tb : List (List Int)) (fs : List Int) (i : Nat) : List (List Int) := (List.range i).foldl (fun t j => app1 t j (fs.getD j 0)) tb
def toldT (wds : List WD) (fs : List Int) (log : Log) : List (List Int) := finA (toldL wds fs.length log) fs fs.length
def takes (tb : List (List Int)) (tk : List Int) : List (List Int) := List.zipWith (fun ds k => ds.take k.toNat) tb tk
def firsts (tb : List (List Int)) (tk : List Int) : List (List Int) := List.zipWith (fun ds k => ds.take (k.toNat + 1)) tb tk
theorem app1_len (tb : List (List Int)) (p : Nat) (h : Int) : (app1 tb p h).length = tb.length := by simp [app1]
theorem app1_get (tb : List (List Int)) (p i : Nat) (h : Int) : (app1 tb p h).getD i [] = if i = p ∧ p < tb.length then tb.getD p [] ++ [h] else tb.getD i [] := by
  unfold app1
  rw [List.getD_eq_getElem?_getD, List.getElem?_set]
  by_cases e : p = i
  · subst e
    by_cases h2 : p < tb.length
    · rw [if_pos rfl, if_pos h2, if_pos ⟨rfl, h2⟩]; rfl
    · rw [if_pos rfl, if_neg h2, if_neg (fun z => h2 z.2), List.getD_eq_getElem?_getD, List.getElem?_eq_none (by omega)]
  · rw [if_neg e, if_neg (fun z => e z.1.symm), List.getD_eq_getElem?_getD]
theorem appA_len : ∀ (ps row : List Int) (tb : List (List Int)), (appA tb ps row).length = tb.length
  | [], _, _ => rfl
  | _ :: _, [], _ => rfl
  | p :: r, h :: q, tb => by
    show (appA (app1 tb p.toNat h) r q).length = _
    rw [appA_len r q, app1_len]
theorem toldL_len (wds : List WD) (n : Nat) : ∀ log : Log, (toldL wds n log).length = n := fun log => by
  unfold toldL
  have : ∀ (log : Log) (tb : List (List Int)), (log.foldl (fun t e => appA t (plc wds e.1) e.2) tb).length = tb.length := by
    intro log
    induction log with
    | nil => intro _; rfl
    | cons e r ih => intro tb; rw [List.foldl_cons, ih, appA_len]
  rw [this, List.length_replicate]
theorem toldL_snoc (wds : List WD) (n : Nat) (log : Log) (e : Int × List Int) : toldL wds n (log ++ [e]) = appA (toldL wds n log) (plc wds e.1) e.2 := by
  unfold toldL
  rw [List.foldl_append]
  rfl
theorem finA_succ (tb : List (List Int)) (fs : List Int) (i : Nat) : finA tb fs (i + 1) = app1 (finA tb fs i) i (fs.getD i 0) := by
  unfold finA
  rw [List.range_succ, List.foldl_append]
  rfl
theorem finA_len (tb : List (List Int)) (fs : List Int) : ∀ i : Nat, (finA tb fs i).length = tb.length
  | 0 => rfl
  | i + 1 => by rw [finA_succ, app1_len, finA_len tb fs i]
theorem finA_get (tb : List (List Int)) (fs : List Int) : ∀ (i q : Nat), i ≤ tb.length → (finA tb fs i).getD q [] = if q < i then tb.getD q [] ++ [fs.getD q 0] else tb.getD q []
  | 0, q, _ => by rw [if_neg (Nat.not_lt_zero _)]; rfl
  | i + 1, q, h => by
    rw [finA_succ, app1_get, finA_len, finA_get tb fs i q (by omega), finA_get tb fs i i (by omega)]
    by_cases e : q = i
    · subst e
      rw [if_pos ⟨rfl, by omega⟩, if_neg (Nat.lt_irrefl _), if_pos (Nat.lt_succ_self _)]
    · rw [if_neg (fun z => e z.1)]
      by_cases e2 : q < i
      · rw [if_pos e2, if_pos (by omega)]
      · rw [if_neg e2, if_neg (by omega)]
theorem toldT_len (wds : List WD) (fs : List Int) (log : Log) : (toldT wds fs log).length = fs.length := by
  rw [toldT, finA_len, toldL_len]
theorem toldT_get (wds : List WD) (fs : List Int) (log : Log) {q : Nat} (h : q < fs.length) : (toldT wds fs log).getD q [] = (toldL wds fs.length log).getD q [] ++ [fs.getD q 0] := by
  rw [toldT, finA_get _ _ _ _ (by rw [toldL_len]; exact Nat.le_refl _), if_pos h]
theorem takes_len {tb : List (List Int)} {tk : List Int} (g : GoodK tb tk) : (takes tb tk).length = tb.length := by
  unfold takes
  rw [List.length_zipWith, g.len, Nat.min_self]
theorem takes_get {tb : List (List Int)} {tk : List Int} (g : GoodK tb tk) {p : Nat} (hp : p < tb.length) : (takes tb tk)[p]? = some ((tb.getD p []).take (tk.getD p 0).toNat) := by
  have h2 : p < tk.length := by rw [g.len]; exact hp
  unfold takes
  rw [List.getElem?_zipWith, List.getElem?_eq_getElem hp, List.getElem?_eq_getElem h2, getD_get hp, getD_get h2]
theorem firsts_len {tb : List (List Int)} {tk : List Int} (g : GoodK tb tk) : (firsts tb tk).length = tb.length := by
  unfold firsts
  rw [List.length_zipWith, g.len, Nat.min_self]
theorem firsts_get {tb : List (List Int)} {tk : List Int} (g : GoodK tb tk) {p : Nat} (hp : p < tb.length) : (firsts tb tk)[p]? = some ((tb.getD p []).take ((tk.getD p 0).toNat + 1)) := by
  have h2 : p < tk.length := by rw [g.len]; exact hp
  unfold firsts
  rw [List.getElem?_zipWith, List.getElem?_eq_getElem hp, List.getElem?_eq_getElem h2, getD_get hp, getD_get h2]
theorem getD_of {α : Type} {l : List α} {i : Nat} {a d : α} (h : l[i]? = some a) : l.getD i d = a := by
  rw [List.getD_eq_getElem?_getD, h]
  rfl
theorem take1 {tb : List (List Int)} {tk : List Int} {p : Nat} (g : GoodK tb tk) (hp : p < tb.length) (h : tk.getD p 0 + 1 < ((tb.getD p []).length : Int)) : app1 (takes tb tk) p (atF (tb.getD p []) (tk.getD p 0)) = takes tb (bump tk p) := by
  have g2 := good_bump g hp h
  have a := g.at_ p hp
  refine List.ext_getElem? fun i => ?_
  unfold app1
  rw [List.getElem?_set]
  by_cases hi : i < tb.length
  · rw [takes_get g2 hi, bump_get]
    by_cases e : p = i
    · subst e
      rw [if_pos rfl, if_pos (by rw [takes_len g]; exact hp), if_pos ⟨rfl, by rw [g.len]; exact hp⟩, getD_of (takes_get g hp)]
      have en : (tk.getD p 0 + 1).toNat = (tk.getD p 0).toNat + 1 := by omega
      have hl : (tk.getD p 0).toNat < (tb.getD p []).length := by omega
      rw [en, List.take_add_one, atF, getD_get hl, List.getElem?_eq_getElem hl]
      rfl
    · rw [if_neg e, if_neg (fun z => e z.1.symm), takes_get g hi]
  · rw [if_neg (by omega), List.getElem?_eq_none (by rw [takes_len g]; omega), List.getElem?_eq_none (by rw [takes_len g2]; omega)]
theorem takeA : ∀ (ps : List Int) {tb : List (List Int)} {tk : List Int} (w : Int → Int), GoodK tb tk → Can tb tk ps → (∀ p ∈ ps, w p = atF (tb.getD p.toNat []) (atF tk p)) → appA (takes tb tk) ps (ps.map w) = takes tb (bumpA tk ps)
  | [], _, _, _, _, _, _ => rfl
  | p :: r, tb, tk, w, g, c, h => by
    have hp := c.pl p List.mem_cons_self
    have hn := c.nx p List.mem_cons_self
    have hpn : p.toNat < tb.length := by omega
    show appA (app1 (takes tb tk) p.toNat (w p)) r (r.map w) = takes tb (bumpA (bump tk p.toNat) r)
    rw [h p List.mem_cons_self, show atF tk p = tk.getD p.toNat 0 from rfl, take1 g hpn hn]
    refine takeA r w (good_bump g hpn hn) c.tail fun q hq => ?_
    have hq2 := c.pl q (List.mem_cons_of_mem _ hq)
    have hne : q ≠ p := fun z => (List.nodup_cons.mp c.nd).1 (z ▸ hq)
    rw [h q (List.mem_cons_of_mem _ hq), atF_bump tk p q hp.1 (by rw [g.len]; exact hp.2) hq2.1, if_neg hne, Int.add_zero]
theorem steps_told {many hues : Int} {wds : List WD} {tb : List (List Int)} {ord : List Int} (f : Fit many hues wds tb ord) {tk tk' : List Int} {log log' : Log} (s : Steps wds tb ord tk log tk' log') (g : GoodK tb tk) (h : toldL wds tb.length log = takes tb tk) : toldL wds tb.length log' = takes tb tk' := by
  induction s with
  | refl => exact h
  | @step tk tk' log log' k e c s ih =>
    have cf := (can_fit f e c).1
    refine ih (bumpA_good g cf).1 ?_
    rw [toldL_snoc, h]
    refine takeA _ _ g cf fun p hp => ?_
    have pp := cf.pl p hp
    have hpn : p.toNat < tb.length := by omega
    show atF (stand tb tk) p = _
    rw [atF, getD_of (stand_get g hpn)]
    rfl
theorem told_end {wds : List WD} {tb : List (List Int)} {tk : List Int} {log : Log} (g : GoodK tb tk) (h : toldL wds tb.length log = takes tb tk) : toldT wds (stand tb tk) log = firsts tb tk := by
  refine List.ext_getElem? fun i => ?_
  by_cases hi : i < tb.length
  · have hs : i < (stand tb tk).length := by rw [stand_len g]; exact hi
    have e := toldT_get wds (stand tb tk) log hs
    rw [stand_len g, h, getD_of (takes_get g hi), getD_of (stand_get g hi)] at e
    have hl : i < (toldT wds (stand tb tk) log).length := by rw [toldT_len]; exact hs
    rw [getD_get hl] at e
    rw [List.getElem?_eq_getElem hl, e, firsts_get g hi]
    have a := g.at_ i hi
    have hl2 : (tk.getD i 0).toNat < (tb.getD i []).length := by omega
    rw [List.take_add_one, atF, getD_get hl2, List.getElem?_eq_getElem hl2]
    rfl
  · rw [List.getElem?_eq_none (by rw [toldT_len, stand_len g]; omega), List.getElem?_eq_none (by rw [firsts_len g]; omega)]
theorem takes_zero {tb : List (List Int)} : toldL wds tb.length [] = takes tb (zerosI tb.length) := by
  show List.replicate tb.length [] = _
  unfold takes zerosI
  refine List.ext_getElem? fun i => ?_
  rw [List.getElem?_zipWith, List.getElem?_replicate, List.getElem?_replicate]
  by_cases hi : i < tb.length
  · rw [if_pos hi, if_pos hi, List.getElem?_eq_getElem hi]
    rfl
  · rw [if_neg hi, if_neg hi, List.getElem?_eq_none (by omega)]
/-- all of a run -/
structure RunEnd (many hues : Int) (wds : List WD) (tb : List (List Int)) (ord : List Int) (R : Res) (tk : List Int) : Prop where
  gk : GoodK tb tk
  st : Steps wds tb ord (zerosI tb.length) [] tk R.2.2
  fs : R.2.1 = stand tb tk
  en : EndsAt wds tb ord tk R.1
  told : toldT wds R.2.1 R.2.2 = firsts tb tk
  cnt : ∀ p, 0 ≤ p → p < (tb.length : Int) → atF tk p = cntP wds R.2.2 p
theorem runEnd_of {many hues : Int} {wds : List WD} {tb : List (List Int)} {ord : List Int} {R : Res} (gr : GoodR many hues wds) (nd : ∀ wd ∈ wds, wd.1.Nodup) (gt : GoodT many hues tb) (go : GoodO wds.length ord) (h : runOf wds tb ord = some R) : ∃ tk, RunEnd many hues wds tb ord R tk := by
  obtain ⟨tk, s, e, en⟩ := runOf_steps h
  have f : Fit many hues wds tb ord := ⟨gr, nd, gt.len, go⟩
  have g0 := zeros_good gt
  have gk := steps_good f s g0
  refine ⟨tk, gk, s, e, en, ?_, steps_cnt f s g0 fun p p0 _ => ?_⟩
  · rw [e]
    exact told_end gk (steps_told f s g0 takes_zero)
  · unfold atF
    rw [zeros_get]
    rfl
theorem firsts_good {many hues : Int} {tb : List (List Int)} {tk : List Int} (gt : GoodT many hues tb) (g : GoodK tb tk) : GoodT many hues (firsts tb tk) := by
  have key : ∀ ds ∈ firsts tb tk, ∃ d ∈ tb, ∃ n, ds = d.take (n + 1) := fun ds h => by
    obtain ⟨i, hi, e⟩ := List.getElem_of_mem h
    rw [firsts_len g] at hi
    have z := firsts_get g hi
    rw [List.getElem?_eq_getElem (by rw [firsts_len g]; exact hi), e] at z
    exact ⟨_, getD_mem hi, _, Option.some.inj z⟩
  refine ⟨by rw [firsts_len g]; exact gt.len, fun ds h => ?_, fun ds h => ?_, fun ds h z hz => ?_⟩
  · obtain ⟨d, hd, n, rfl⟩ := key ds h
    have := gt.one d hd
    rw [List.length_take]
    omega
  · obtain ⟨d, hd, n, rfl⟩ := key ds h
    have := gt.few d hd
    rw [List.length_take]
    omega
  · obtain ⟨d, hd, n, rfl⟩ := key ds h
    exact gt.hue d hd z (List.mem_of_mem_take hz)
theorem firsts_agree {tb : List (List Int)} {tk : List Int} (g : GoodK tb tk) : Agree tb (firsts tb tk) tk := by
  refine ⟨firsts_len g, fun p hp => ?_, fun p hp => ?_⟩
  · rw [getD_of (firsts_get g hp), List.length_take]
    have := g.at_ p hp
    omega
  · rw [getD_of (firsts_get g hp), List.take_take, Nat.min_self]
/-- the run of the draws taken alone -/
theorem run_firsts {many hues : Int} {wds : List WD} {tb : List (List Int)} {ord : List Int} {R : Res} {tk : List Int} (gr : GoodR many hues wds) (nd : ∀ wd ∈ wds, wd.1.Nodup) (gt : GoodT many hues tb) (go : GoodO wds.length ord) (e : RunEnd many hues wds tb ord R tk) : runOf wds (firsts tb tk) ord = some R := by
  have f : Fit many hues wds tb ord := ⟨gr, nd, gt.len, go⟩
  have ag := firsts_agree e.gk
  have s' := steps_agree f e.st (zeros_good gt) ag
  have es : stand (firsts tb tk) tk = stand tb tk := ag.stand e.gk fun _ _ => Int.le_refl _
  have s2 : Steps wds (firsts tb tk) ord (zerosI (firsts tb tk).length) [] tk R.2.2 := by rw [firsts_len e.gk]; exact s'
  have z := runOf_of gr nd (firsts_good gt e.gk) go (b := R.1) s2 ⟨fun b => by rw [es]; exact e.en.kept b, fun b => by
    obtain ⟨k, h1, h2⟩ := e.en.spent b
    refine ⟨k, by rw [es]; exact h1, ?_⟩
    obtain ⟨hk, hb⟩ := first_some h1
    obtain ⟨k0, k1⟩ := go.mem k hk
    obtain ⟨wd, hw, he⟩ := wd_of k0 k1
    have gw := gr.each wd (List.mem_of_getElem? hw)
    obtain ⟨p, hp⟩ := List.exists_mem_of_length_pos (show 0 < wd.1.length from gw.one)
    rw [canN, List.all_eq_false]
    refine ⟨p, by rw [he]; exact hp, ?_⟩
    have pp := gw.pl p hp
    have hl := gt.len
    have hpn : p.toNat < tb.length := by omega
    have a := e.gk.at_ _ hpn
    rw [decide_eq_true_eq, lenAt, getD_of (firsts_get e.gk hpn), List.length_take]
    unfold atF
    omega⟩
  rw [z, es, ← e.fs]
/-- the run of a table that goes on -/
theorem run_longer {many hues : Int} {wds : List WD} {tb tb' : List (List Int)} {ord : List Int} {R R' : Res} {tk : List Int} (gr : GoodR many hues wds) (nd : ∀ wd ∈ wds, wd.1.Nodup) (gt : GoodT many hues tb) (gt' : GoodT many hues tb') (go : GoodO wds.length ord) (e : RunEnd many hues wds tb ord R tk) (hR' : runOf wds tb' ord = some R')
    (pre : ∀ p : Nat, p < tb.length → ∃ more, tb'.getD p [] = tb.getD p [] ++ more) : (R.1 = true → R' = R) ∧ ∃ more, R'.2.2 = R.2.2 ++ more := by
  have f : Fit many hues wds tb ord := ⟨gr, nd, gt.len, go⟩
  have hl := gt.len
  have hl' := gt'.len
  have ag : Agree tb tb' tk := by
    refine ⟨by omega, fun p hp => ?_, fun p hp => ?_⟩
    · obtain ⟨more, hm⟩ := pre p hp
      have a := e.gk.at_ p hp
      rw [hm, List.length_append]
      omega
    · obtain ⟨more, hm⟩ := pre p hp
      have a := e.gk.at_ p hp
      rw [hm, List.take_append_of_le_length (by omega)]
  have s' := steps_agree f e.st (zeros_good gt) ag
  have es : stand tb' tk = stand tb tk := ag.stand e.gk fun _ _ => Int.le_refl _
  rw [← ag.len] at s'
  refine ⟨fun b => ?_, ?_⟩
  · have z := runOf_of gr nd gt' go (b := R.1) s' ⟨fun b => by rw [es]; exact e.en.kept b, fun z => by rw [b] at z; cases z⟩
    rw [hR', es, ← e.fs] at z
    exact Option.some.inj z
  · obtain ⟨c, hc⟩ := steps_goR s'
    have a := goR_more _ _ _ c hR'
    rw [hc] at a
    obtain ⟨tkE, s2, _⟩ := goR_steps _ _ _ a
    exact steps_pre s2
end Dt

set_option Elab.async false
set_option linter.all false
set_option maxRecDepth 100000
set_option maxHeartbeats 4000000
namespace Rd
open PySem PySem.Spec PyProof.Rows L2 Dt
/-- a statement that is never come to -/
theorem ps_never {X : Cx} {st : Stmt} : PS X st (fun _ _ _ => False) := ⟨fun _ _ _ _ _ _ h => h.elim⟩
/-! ### lists within one that are changed -/
theorem paired_mod {H : Hp} {d : Addr} {l' : List Int} : ∀ {das : List Addr} {T : List (List Int)} {p : Nat}, Paired (IsInts H) das T → das.Nodup → das[p]? = some d → Paired (IsInts (upd H d (.lst (l'.map V.int)))) das (T.set p l')
  | _, _, p, .nil, _, h => by simp at h
  | a :: r, l :: q, 0, .cons h t, nd, e => by
    have ea : a = d := Option.some.inj e
    subst ea
    have nd2 := List.nodup_cons.mp nd
    exact .cons (by show upd H a _ a = _; exact upd_same) (paired_upd t fun x hx (z : x = a) => nd2.1 (by rw [← z]; exact hx))
  | a :: r, l :: q, p + 1, .cons h t, nd, e => by
    have nd2 := List.nodup_cons.mp nd
    have hm : d ∈ r := List.mem_of_getElem? (show r[p]? = some d from e)
    exact .cons (by show upd H d _ a = _; rw [upd_ne (fun z : a = d => nd2.1 (by rw [z]; exact hm))]; exact h) (paired_mod t nd2.2 e)
theorem paired_len_upd {H : Hp} {D : Addr} {o : HO} {das : List Addr} {T : List (List Int)} (p : Paired (IsInts H) das T) (n : D ∉ das) : Paired (IsInts (upd H D o)) das T := paired_upd p fun d hd (z : d = D) => n (by rw [← z]; exact hd)
/-- a new list of new lists, no two one -/
structure NewTab (H H' : Hp) (ta : Addr) (das : List Addr) (T : List (List Int)) : Prop where
  ht : H' ta = some (.lst (das.map V.ref))
  nt : H ta = none
  nd : das.Nodup
  new : ∀ d ∈ das, H d = none ∧ d ≠ ta
  pr : Paired (IsInts H') das T
theorem NewTab.tab {H H' : Hp} {ta : Addr} {das : List Addr} {T : List (List Int)} (h : NewTab H H' ta das T) : IsTab (Old H) H' ta T := ⟨das, h.ht, fun z => z h.nt, fun d hd z => z (h.new d hd).1, h.pr⟩
theorem NewTab.app {H H' : Hp} {ta : Addr} {das : List Addr} {T : List (List Int)} {p : Nat} {d : Addr} {l : List Int} {x : Int} (h : NewTab H H' ta das T) (hd : das[p]? = some d) (hl : T[p]? = some l) : NewTab H (upd H' d (.lst ((l ++ [x]).map V.int))) ta das (app1 T p x) := by
  have hm := List.mem_of_getElem? hd
  refine ⟨by rw [upd_ne (h.new d hm).2.symm]; exact h.ht, h.nt, h.nd, h.new, ?_⟩
  unfold app1
  rw [getD_of hl]
  exact paired_mod h.pr h.nd hd
theorem NewTab.mono {H H' H2 : Hp} {ta : Addr} {das : List Addr} {T : List (List Int)} (h : NewTab H H' ta das T) (s : Seqs H' H2) : NewTab H H2 ta das T := ⟨s.2 _ _ h.ht, h.nt, h.nd, h.new, pairedMap (fun _ _ e => s.2 _ _ e) h.pr⟩
/-! ### how long told draws are -/
theorem app1_le (T : List (List Int)) (p q : Nat) (h : Int) : ((app1 T p h).getD q []).length ≤ (T.getD q []).length + 1 := by
  rw [app1_get]
  split
  · rename_i e
    rw [e.1, List.length_append]
    exact Nat.le_refl _
  · omega
theorem appA_le : ∀ (ps row : List Int) (T : List (List Int)) (q : Nat), ((appA T ps row).getD q []).length ≤ (T.getD q []).length + ps.length
  | [], _, _, _ => Nat.le_refl _
  | _ :: _, [], _, _ => Nat.le_add_right _ _
  | p :: r, h :: s, T, q => by
    have a := appA_le r s (app1 T p.toNat h) q
    have b := app1_le T p.toNat q h
    show ((appA (app1 T p.toNat h) r s).getD q []).length ≤ _
    rw [List.length_cons]
    omega
theorem appA_snoc (T : List (List Int)) : ∀ {ps row : List Int} {j : Nat} {p h : Int}, ps[j]? = some p → row[j]? = some h → appA T (ps.take (j + 1)) (row.take (j + 1)) = app1 (appA T (ps.take j) (row.take j)) p.toNat h := by
  intro ps row j p h hp hh
  unfold appA
  have e : (ps.take (j + 1)).zip (row.take (j + 1)) = (ps.take j).zip (row.take j) ++ [(p, h)] := by
    rw [take_snoc hp, take_snoc hh]
    rw [List.zip_append]
    · rfl
    · rw [List.length_take, List.length_take]
      have a := (List.getElem?_eq_some_iff.mp hp).1
      have b := (List.getElem?_eq_some_iff.mp hh).1
      omega
  rw [e, List.foldl_append]
  rfl
theorem toldL_le {wds : List WD} (h3 : ∀ wd ∈ wds, wd.1.length ≤ 3) (n q : Nat) : ∀ log : Log, ((toldL wds n log).getD q []).length ≤ 3 * log.length := by
  have pl3 : ∀ k : Int, (plc wds k).length ≤ 3 := fun k => by
    unfold plc
    rw [List.getD_eq_getElem?_getD]
    cases e : wds[k.toNat]? with
    | none => simp
    | some wd => exact h3 wd (List.mem_of_getElem? e)
  have key : ∀ (log : Log) (T : List (List Int)), ((log.foldl (fun t e => appA t (plc wds e.1) e.2) T).getD q []).length ≤ (T.getD q []).length + 3 * log.length := by
    intro log
    induction log with
    | nil => intro T; exact Nat.le_refl _
    | cons e r ih =>
      intro T
      rw [List.foldl_cons, List.length_cons]
      have a := ih (appA T (plc wds e.1) e.2)
      have b := appA_le (plc wds e.1) e.2 T q
      have c := pl3 e.1
      omega
  intro log
  have a := key log (List.replicate n [])
  have b : ((List.replicate n ([] : List Int)).getD q []).length = 0 := by
    rw [List.getD_eq_getElem?_getD, List.getElem?_replicate]
    split <;> rfl
  unfold toldL
  omega
/-! ### logs looked at -/
def entB (wds : List WD) (x : Int × List Int) : Bool := decide (0 ≤ x.1 ∧ x.1 < (wds.length : Int) ∧ x.2 ∈ (wds.getD x.1.toNat ([], [])).2)
def logB (wds : List WD) (log : Log) : Bool := log.all (entB wds)
theorem logB_ok {wds : List WD} {log : Log} (h : logB wds log = true) : LogOk wds log := fun e he => by
  obtain ⟨h0, h1, h2⟩ := of_decide_eq_true (List.all_eq_true.mp h e he)
  have hk : e.1.toNat < wds.length := by omega
  rw [getD_get hk] at h2
  exact ⟨h0, h1, _, List.getElem?_eq_getElem hk, h2⟩
theorem logB_of {wds : List WD} {log : Log} (h : LogOk wds log) : logB wds log = true := List.all_eq_true.mpr fun e he => by
  obtain ⟨h0, h1, wd, hw, hr⟩ := h e he
  exact decide_eq_true ⟨h0, h1, by rw [getD_of hw]; exact hr⟩
theorem shaped_row (r : Dt.Row) : SeqAt.shaped (rowD r) = true := by
  have a : ∀ l : List Int, PyData.canLayAll0 (l.map .int) = true := Gv.canAll_ints
  have b : ∀ l : List Int, PyData.depthAll (l.map .int) ≤ 1 := fun l => by
    induction l with
    | nil => simp [PyData.depthAll]
    | cons x q ih => simp only [List.map_cons, PyData.depthAll, PyData.depth]; omega
  show ((rowD r).canLay0 && decide ((rowD r).depth ≤ 64)) = true
  have d : (rowD r).depth ≤ 64 := by
    unfold rowD
    simp only [PyData.depth]
    have := b r
    omega
  have c : (rowD r).canLay0 = true := by
    unfold rowD
    simp only [PyData.canLay0]
    exact a r
  rw [c, decide_eq_true d]
  rfl
theorem row_hue {many hues : Int} {wds : List WD} (gr : GoodR many hues wds) {log : Log} (h : LogOk wds log) : ∀ e ∈ log, ∀ z ∈ e.2, 0 ≤ z ∧ z < hues := fun e he z hz => by
  obtain ⟨_, _, wd, hw, hr⟩ := h e he
  exact ((gr.each wd (List.mem_of_getElem? hw)).row _ hr).2 z hz
theorem app1_all {Pz : Int → Prop} {T : List (List Int)} {p : Nat} {x : Int} (h : ∀ l ∈ T, ∀ z ∈ l, Pz z) (hx : Pz x) : ∀ l ∈ app1 T p x, ∀ z ∈ l, Pz z := fun l hl z hz => by
  rcases List.mem_or_eq_of_mem_set hl with e | e
  · exact h l e z hz
  · rw [e] at hz
    rcases List.mem_append.mp hz with q | q
    · by_cases hp : p < T.length
      · exact h _ (getD_mem (d := []) hp) z q
      · rw [List.getD_eq_getElem?_getD, List.getElem?_eq_none (by omega)] at q
        cases q
    · rw [List.mem_singleton.mp q]; exact hx
theorem appA_all {Pz : Int → Prop} : ∀ (ps row : List Int) (T : List (List Int)), (∀ l ∈ T, ∀ z ∈ l, Pz z) → (∀ z ∈ row, Pz z) → ∀ l ∈ appA T ps row, ∀ z ∈ l, Pz z
  | [], _, _, h, _ => h
  | _ :: _, [], _, h, _ => h
  | p :: r, x :: s, T, h, hr => appA_all r s (app1 T p.toNat x) (app1_all h (hr x List.mem_cons_self)) fun z hz => hr z (List.mem_cons_of_mem _ hz)
theorem toldL_all {Pz : Int → Prop} (wds : List WD) (n : Nat) : ∀ log : Log, (∀ e ∈ log, ∀ z ∈ e.2, Pz z) → ∀ l ∈ toldL wds n log, ∀ z ∈ l, Pz z := by
  have key : ∀ (log : Log) (T : List (List Int)), (∀ l ∈ T, ∀ z ∈ l, Pz z) → (∀ e ∈ log, ∀ z ∈ e.2, Pz z) → ∀ l ∈ log.foldl (fun t e => appA t (plc wds e.1) e.2) T, ∀ z ∈ l, Pz z := by
    intro log
    induction log with
    | nil => intro T h _; exact h
    | cons e r ih =>
      intro T h hl
      rw [List.foldl_cons]
      exact ih _ (appA_all _ _ _ h (hl e List.mem_cons_self)) fun x hx => hl x (List.mem_cons_of_mem _ hx)
  intro log h
  refine key log _ (fun l hl z hz => ?_) h
  rw [(List.mem_replicate.mp hl).2] at hz
  cases hz
theorem told_good {many hues : Int} {wds : List WD} (gr : GoodR many hues wds) {fs : List Int} {log : Log} (gf : GoodF many hues fs) (h : LogOk wds log) (few : ∀ ds ∈ toldT wds fs log, ds.length ≤ 1000) : GoodT many hues (toldT wds fs log) := by
  have each : ∀ ds ∈ toldT wds fs log, ∃ q, q < fs.length ∧ ds = (toldL wds fs.length log).getD q [] ++ [fs.getD q 0] := fun ds hd => by
    obtain ⟨i, hi, e⟩ := List.getElem_of_mem hd
    rw [toldT_len] at hi
    refine ⟨i, hi, ?_⟩
    rw [← toldT_get wds fs log hi, getD_get (by rw [toldT_len]; exact hi), e]
  refine ⟨by rw [toldT_len]; exact gf.len, fun ds hd => ?_, few, fun ds hd z hz => ?_⟩
  · obtain ⟨q, _, e⟩ := each ds hd
    rw [e, List.length_append]
    exact Nat.le_add_left _ _
  · obtain ⟨q, hq, e⟩ := each ds hd
    rw [e] at hz
    rcases List.mem_append.mp hz with y | y
    · have hq2 : q < (toldL wds fs.length log).length := by rw [toldL_len]; exact hq
      exact toldL_all (Pz := fun z => 0 ≤ z ∧ z < hues) wds _ log (row_hue gr h) _ (getD_mem hq2) z y
    · rw [List.mem_singleton.mp y]
      exact gf.hue _ (Dt.getD_mem hq)
/-! ### equality of what is told -/
theorem eqv_ent (x y : Int × List Int) : PyData.eqv (entD x) (entD y) = decide (x = y) := by
  obtain ⟨a, r⟩ := x
  obtain ⟨b, s⟩ := y
  unfold entD
  have e := eqv_row r s
  simp only [PyData.eqv, PyData.eqvAll, e, Bool.and_true]
  by_cases h : a = b
  · subst h
    by_cases h2 : r = s
    · subst h2; simp
    · simp [h2]
  · simp [h]
theorem eqvAll_ents : ∀ a b : Log, PyData.eqvAll (a.map entD) (b.map entD) = decide (a = b)
  | [], [] => by simp [PyData.eqvAll]
  | [], _ :: _ => by simp [PyData.eqvAll]
  | _ :: _, [] => by simp [PyData.eqvAll]
  | x :: r, y :: q => by
    simp only [List.map_cons, PyData.eqvAll, eqv_ent, eqvAll_ents r q]
    by_cases h : x = y
    · subst h; simp
    · simp [h]
theorem eqv_log (a b : Log) : PyData.eqv (logD a) (logD b) = decide (a = b) := by
  unfold logD
  rw [PyData.eqv]
  exact eqvAll_ents a b
theorem eqv_endS (a b : Bool) : PyData.eqv (.str (endS a)) (.str (endS b)) = decide (a = b) := by
  cases a <;> cases b <;> decide +kernel
theorem eqv_res (R S : Res) : PyData.eqv (resD R) (resD S) = decide (R = S) := by
  obtain ⟨a, f, l⟩ := R
  obtain ⟨b, g, m⟩ := S
  unfold resD
  have e1 := eqv_endS a b
  have e2 := eqv_row f g
  have e3 := eqv_log l m
  rw [PyData.eqv]
  simp only [PyData.eqvAll, e1, e2, e3, Bool.and_true]
  by_cases h1 : a = b
  · by_cases h2 : f = g
    · by_cases h3 : l = m
      · subst h1; subst h2; subst h3; simp
      · simp [h3]
    · simp [h2]
  · simp [h1]
def isRunB (wds : List WD) (ord : List Int) (b : Bool) (fs : List Int) (log : Log) : Bool := logB wds log && decide (runOf wds (toldT wds fs log) ord = some (b, fs, log))
/-! ### frames but for the tape and some tables -/
structure FrT (tp : Addr) (Ps : List Addr) (H H' : Hp) : Prop where
  keep : ∀ b o, b ≠ tp → b ∉ Ps → H b = some o → H' b = some o
  tape : Tape H' tp
  tabs : Tabs Ps H'
theorem FrT.frs {tp : Addr} {Ps : List Addr} {H H' : Hp} (t : Tape H tp) (tt : Tabs Ps H) (f : FrS Ps H H') : FrT tp Ps H H' := ⟨fun b o _ n e => f.1 b o n e, t.seqs (f.seqs tt), f.2⟩
theorem FrT.taped {tp : Addr} {Ps : List Addr} {H H' : Hp} (t : Tape H tp) (tt : Tabs Ps H) (f : Taped tp H H') : FrT tp Ps H H' := ⟨fun b o n _ e => f.1 b o n e, f.2, f.tabs t tt⟩
theorem FrT.trans {tp : Addr} {Ps : List Addr} {H H1 H2 : Hp} (a : FrT tp Ps H H1) (b : FrT tp Ps H1 H2) : FrT tp Ps H H2 := ⟨fun x o n m e => b.keep x o n m (a.keep x o n m e), b.tape, b.tabs⟩
theorem FrT.refl {tp : Addr} {Ps : List Addr} {H : Hp} (t : Tape H tp) (tt : Tabs Ps H) : FrT tp Ps H H := ⟨fun _ _ _ _ e => e, t, tt⟩
theorem FrT.same {tp : Addr} {Ps : List Addr} {H H1 H2 : Hp} (a : FrT tp Ps H H1) (s : Same H1 H2) : FrT tp Ps H H2 := ⟨fun x o n m e => s _ _ (a.keep x o n m e), a.tape.same s, a.tabs.same s⟩
theorem FrT.put {tp : Addr} {Ps : List Addr} {H H1 : Hp} {b : Addr} {o : HO} (a : FrT tp Ps H H1) (n : H b = none) (nt : b ≠ tp) (np : b ∉ Ps) : FrT tp Ps H (upd H1 b o) := ⟨fun x u m k e => by rw [upd_ne (ne_of_none e n)]; exact a.keep x u m k e, a.tape.put nt, a.tabs.put np⟩
theorem FrT.tups {tp : Addr} {Ps : List Addr} {H H' : Hp} (t : Tape H tp) (tt : Tabs Ps H) (f : FrT tp Ps H H') : Tups H H' := fun b xs e => f.keep b _ (fun z => by
  obtain ⟨_, _, h1, _⟩ := t
  rw [z, h1] at e
  cases e) (tt.tup e) e
theorem FrT.lst {tp : Addr} {Ps : List Addr} {H H' : Hp} (tt : Tabs Ps H) (f : FrT tp Ps H H') {b : Addr} {xs : List V} (n : b ≠ tp) (e : H b = some (.lst xs)) : H' b = some (.lst xs) := f.keep b _ n (tt.lst e) e
theorem FrT.free {tp : Addr} {Ps : List Addr} {H H' : Hp} {b : Addr} (f : FrT tp Ps H H') (h : H' b = none) : H b = none := by
  cases e : H b with
  | none => rfl
  | some o =>
    have h1 := f.tape.new h
    have h2 := f.tabs.new h
    rw [f.keep b o h1 h2 e] at h
    cases h
theorem LI.frt {K : PySem.W.Frag} {a : Addr} {xs : List V} {Ps : List Addr} {tp : Addr} {H H' : Hp} (h : LI K a xs Ps tp H) (f : FrT tp Ps H H') : LI K a xs Ps tp H' := by
  refine ⟨f.tape, f.tabs, ?_, h.far⟩
  by_cases e : a = tp
  · exact h.far e H'
  · rcases h.scr with (z | ⟨o, z⟩) | z
    · exact .inl (.inl (f.lst h.tabs e z))
    · exact .inl (.inr ⟨o, f.keep a _ e (fun y => by obtain ⟨ps, q, _⟩ := h.tabs a y; rw [z] at q; cases q) z⟩)
    · exact .inr z
theorem IsTab.frt {tp : Addr} {Ps : List Addr} {H H' : Hp} {ta : Addr} {tb : List (List Int)} (h : IsTab (· = tp) H ta tb) (tt : Tabs Ps H) (f : FrT tp Ps H H') : IsTab (· = tp) H' ta tb := h.mono fun b xs n e => f.lst tt n e
/-- a list of the items of two lists -/
theorem lc_zipL {K : PySem.W.Frag} {a b : Addr} {xs ys : List V} {g : TG} {tt : TT} {te : TE} {vs : List Nat} {σ : L2.St} {H1 : Hp} {D : Addr} {Qd : Hp → Prop} (hl : xs.length = ys.length) (Pv : Nat → Hp → Prop) (h0 : Pv 0 (upd H1 D (.lst []))) (hq : ∀ i H, Pv i H → SqL K H a xs ∧ SqL K H b ys)
    (hs : ∀ i x y T H, xs[i]? = some x → ys[i]? = some y → Pv i H → H T = none → g (.ref T) (wipe σ vs) (upd H T (.tup [x, y])) fun σ2 H2 => wipe σ2 vs = wipe σ vs ∧ tt σ2 H2 fun b H3 =>
      if b = true then te σ2 H3 fun y H4 => ∃ acc, H4 D = some (.lst acc) ∧ acc.length < sizeLine ∧ Pv (i + 1) (upd H4 D (.lst (acc ++ [y]))) else Pv (i + 1) H3) (hd : ∀ H, Pv xs.length H → Qd H) :
    ∃ W : Nat → Nat → Hp → Prop, (∃ m, W 0 m (upd H1 D (.lst []))) ∧ ∀ i m H, W i m H →
      ((Itz K a b).stop i H ∧ Qd H) ∨ ((Itz K a b).go i H ∧ ∃ Nx : Hp → Prop, (∀ H', Nx H' → ∃ m', m' < m ∧ W (i + 1) m' H') ∧ ∀ x H', (Itz K a b).yld i H x H' → g x (wipe σ vs) H' fun σ2 H2 => wipe σ2 vs = wipe σ vs ∧ tt σ2 H2 fun b H3 =>
        if b = true then te σ2 H3 fun y H4 => ∃ acc, H4 D = some (.lst acc) ∧ acc.length < sizeLine ∧ Nx (upd H4 D (.lst (acc ++ [y]))) else Nx H3) := by
  refine ⟨fun i m H => m = xs.length - i ∧ i ≤ xs.length ∧ Pv i H, ⟨xs.length, by simp, Nat.zero_le _, h0⟩, ?_⟩
  rintro i m H ⟨rfl, hi, p⟩
  obtain ⟨qx, qy⟩ := hq i H p
  by_cases hlt : i < xs.length
  · have hx : xs[i]? = some xs[i] := List.getElem?_eq_getElem hlt
    have hlt2 : i < ys.length := by omega
    have hy : ys[i]? = some ys[i] := List.getElem?_eq_getElem hlt2
    refine .inr ⟨⟨xs, ys, _, _, qx, qy, hx, hy⟩, Pv (i + 1), fun H' p' => ⟨xs.length - (i + 1), by omega, rfl, hlt, p'⟩, fun v H' y => ?_⟩
    obtain ⟨T, x', y', rfl, hT, rfl, f1, f2⟩ := y
    exact hs i x' y' T H (f1 xs qx) (f2 ys qy) p hT
  · have e : i = xs.length := by omega
    subst e
    exact .inl ⟨⟨xs, ys, qx, qy, Or.inl (Nat.le_refl _)⟩, hd H p⟩
theorem pairedTake {α β : Type} {F : α → β → Prop} : ∀ {l : List α} {m : List β} (n : Nat), Paired F l m → Paired F (l.take n) (m.take n)
  | _, _, 0, _ => by rw [List.take_zero, List.take_zero]; exact .nil
  | _, _, _ + 1, .nil => .nil
  | _, _, n + 1, .cons h t => .cons h (pairedTake n t)
theorem pairedDrop {α β : Type} {F : α → β → Prop} : ∀ {l : List α} {m : List β} (n : Nat), Paired F l m → Paired F (l.drop n) (m.drop n)
  | _, _, 0, h => h
  | _, _, _ + 1, .nil => .nil
  | _, _, n + 1, .cons _ t => pairedDrop n t
end Rd

set_option Elab.async false
set_option linter.all false
set_option maxRecDepth 100000
set_option maxHeartbeats 4000000
namespace Rd
open PySem PySem.Spec PyProof.Rows L2 Dt
/-! ### numbers -/
def CPowW (i j : Int) : Prop := 0 ≤ j ∧ (Builtin.Int.intBits i : Int) * j ≤ 2 ^ 27
theorem op_powW {X : Cx} : OpR X (binaryOp .Pow) (rI CPowW fun i j => .int (i ^ j.toNat)) := opI fun _ _ _ _ _ _ _ hc q => pow_int hc.1 hc.2 q
theorem abs_of_bits {a : Int} {n : Nat} (h : Builtin.Int.intBits a ≤ n) : a.natAbs < 2 ^ n := by
  unfold Builtin.Int.intBits at h
  by_cases e : a = 0
  · subst e
    exact Nat.two_pow_pos n
  · have e2 : a.natAbs ≠ 0 := by omega
    have h2 : a.natAbs.log2 + 1 ≤ n := by
      split at h
      · rename_i q
        simp at q
        exact absurd q e
      · exact h
    exact Nat.lt_of_lt_of_le Nat.lt_log2_self (Nat.pow_le_pow_right (by decide) h2)
theorem mix_bits {sd c : Int} {n : Nat} (h0 : 0 ≤ sd) (h1 : sd ≤ 2147483629) (hc : Builtin.Int.intBits c ≤ n) (hn : 47 ≤ n) : Builtin.Int.intBits (sd * 50021 + c) ≤ n + 1 := by
  refine intBits_le ?_
  have a := abs_of_bits hc
  have b : (140737488355328 : Nat) ≤ 2 ^ n := Nat.le_trans (by decide : (140737488355328 : Nat) ≤ 2 ^ 47) (Nat.pow_le_pow_right (by decide) hn)
  rw [Nat.pow_succ]
  generalize (2 : Nat) ^ n = m at a b
  omega

/-! ### the well -/
structure WellC (cs : List Int) (b c : Int) : Prop where
  b0 : 0 ≤ b
  c0 : 0 ≤ c
  c1 : c ≤ 2147483647
  nn : ∀ x ∈ cs, 0 ≤ x
def Well (H : Hp) (wl cl : Addr) : Prop := ∃ (cs : List Int) (b c : Int), H wl = some (.lst [.ref cl, .int b, .int c]) ∧ H cl = some (.lst (cs.map V.int)) ∧ WellC cs b c
theorem Well.ne {H : Hp} {wl cl : Addr} (h : Well H wl cl) : wl ≠ cl := by
  obtain ⟨cs, b, c, h1, h2, _⟩ := h
  refine ne_of h1 h2 fun e => ?_
  cases cs with
  | nil => cases e
  | cons x r => cases e
/-- H' is H but for the well -/
def Drawn (wl cl : Addr) (H H' : Hp) : Prop := (∀ b o, b ≠ wl → b ≠ cl → H b = some o → H' b = some o) ∧ Well H' wl cl
theorem Well.same {H H' : Hp} {wl cl : Addr} (h : Well H wl cl) (s : Same H H') : Well H' wl cl := by
  obtain ⟨cs, b, c, h1, h2, hc⟩ := h
  exact ⟨cs, b, c, s _ _ h1, s _ _ h2, hc⟩
theorem Well.new {H : Hp} {wl cl b : Addr} (h : Well H wl cl) (n : H b = none) : b ≠ wl ∧ b ≠ cl := by
  obtain ⟨cs, x, c, h1, h2, hc⟩ := h
  exact ⟨(ne_of_none h1 n).symm, (ne_of_none h2 n).symm⟩
theorem Well.put {H : Hp} {wl cl b : Addr} {o : HO} (h : Well H wl cl) (n : b ≠ wl ∧ b ≠ cl) : Well (upd H b o) wl cl := by
  obtain ⟨cs, x, c, h1, h2, hc⟩ := h
  exact ⟨cs, x, c, by rw [upd_ne n.1.symm]; exact h1, by rw [upd_ne n.2.symm]; exact h2, hc⟩
theorem Drawn.refl {H : Hp} {wl cl : Addr} (h : Well H wl cl) : Drawn wl cl H H := ⟨fun _ _ _ _ e => e, h⟩
theorem Drawn.trans {H H1 H2 : Hp} {wl cl : Addr} (a : Drawn wl cl H H1) (b : Drawn wl cl H1 H2) : Drawn wl cl H H2 := ⟨fun x o n1 n2 e => b.1 x o n1 n2 (a.1 x o n1 n2 e), b.2⟩
theorem Drawn.same {H H1 H2 : Hp} {wl cl : Addr} (a : Drawn wl cl H H1) (s : Same H1 H2) : Drawn wl cl H H2 := ⟨fun x o n1 n2 e => s _ _ (a.1 x o n1 n2 e), a.2.same s⟩
/-- a store at a place that wasn't there at first -/
theorem Drawn.put {H H1 : Hp} {wl cl b : Addr} {o : HO} (a : Drawn wl cl H H1) (n : H b = none) (nb : b ≠ wl ∧ b ≠ cl) : Drawn wl cl H (upd H1 b o) :=
  ⟨fun x u n1 n2 e => by rw [upd_ne (ne_of_none e n)]; exact a.1 x u n1 n2 e, a.2.put nb⟩
theorem Drawn.tups {H H' : Hp} {wl cl : Addr} (w : Well H wl cl) (a : Drawn wl cl H H') : Tups H H' := fun b xs e => by
  obtain ⟨cs, x, c, h1, h2, hc⟩ := w
  exact a.1 b _ (fun z => by rw [z, h1] at e; cases e) (fun z => by rw [z, h2] at e; cases e) e
theorem Drawn.free {H H' : Hp} {wl cl b : Addr} (w : Well H wl cl) (a : Drawn wl cl H H') (n : H' b = none) : H b = none := by
  cases e : H b with
  | none => rfl
  | some o =>
    obtain ⟨m1, m2⟩ := a.2.new n
    rw [a.1 b o m1 m2 e] at n
    cases n

/-! ### things popped at drawn places -/
structure PopsD {α : Type} (f : α → V) (wl cl : Addr) (H : Hp) (l D : Addr) (zs0 : List α) (i : Nat) (H5 : Hp) (acc ls : List α) : Prop where
  fr : Drawn wl cl H H5
  hL : H5 l = some (.lst (ls.map f))
  hD : H5 D = some (.lst (acc.map f))
  la : acc.length = i
  ll : ls.length + i = zs0.length
  pm : (acc ++ ls).Perm zs0
theorem popD_step {α : Type} {f : α → V} {wl cl : Addr} {H : Hp} {l D : Addr} {zs0 : List α} {i : Nat} {H5 H6 : Hp} {acc ls : List α} {d : Int} (nl : H l = none) (nlt : l ≠ wl ∧ l ≠ cl) (nD : H D = none) (nDt : D ≠ wl ∧ D ≠ cl) (nlD : l ≠ D) (hz : zs0.length ≤ 999) (p : PopsD f wl cl H l D zs0 i H5 acc ls) (D6 : Drawn wl cl H5 H6) (d0 : 0 ≤ d) (d1 : d < (ls.length : Int)) :
    ∃ y, (ls.map f)[d.toNat]? = some y ∧ H6 l = some (.lst (ls.map f)) ∧ seqIndex? d (ls.map f).length = some d.toNat ∧ ∃ acc', upd H6 l (.lst ((ls.map f).eraseIdx d.toNat)) D = some (.lst acc') ∧ acc'.length < sizeLine ∧ ∃ acc2 ls2, PopsD f wl cl H l D zs0 (i + 1) (upd (upd H6 l (.lst ((ls.map f).eraseIdx d.toNat))) D (.lst (acc' ++ [y]))) acc2 ls2 := by
  have hd : d.toNat < ls.length := by omega
  have hL6 := D6.1 l _ nlt.1 nlt.2 p.hL
  have hD6 := D6.1 D _ nDt.1 nDt.2 p.hD
  have la := p.la
  have ll := p.ll
  refine ⟨f ls[d.toNat], map_at (List.getElem?_eq_getElem hd), hL6, seqIndex_of d0 (by rw [List.length_map]; exact d1), acc.map f, ?_, ?_, acc ++ [ls[d.toNat]], ls.eraseIdx d.toNat, ?_, ?_, ?_, ?_, ?_, ?_⟩
  · rw [upd_ne (Ne.symm nlD)]
    exact hD6
  · rw [List.length_map]
    exact small1000 (by omega)
  · exact ((p.fr.trans D6).put nl nlt).put nD nDt
  · rw [upd_ne nlD, upd_same, map_erase]
  · rw [upd_same, List.map_append]
    rfl
  · rw [List.length_append, la]
    rfl
  · rw [List.length_eraseIdx_of_lt hd]
    omega
  · refine List.Perm.trans ?_ p.pm
    rw [List.append_assoc]
    exact List.Perm.append_left acc (erase_perm ls _ hd)
theorem Drawn.tabs {Ps : List Addr} {H H' : Hp} {wl cl : Addr} (w : Well H wl cl) (a : Drawn wl cl H H') (t : Tabs Ps H) : Tabs Ps H' := fun P hP => by
  obtain ⟨ps, hp, ht⟩ := t P hP
  obtain ⟨cs, x, c, h1, h2, hc⟩ := w
  exact ⟨ps, a.1 P _ (fun z => by rw [z, h1] at hp; cases hp) (fun z => by rw [z, h2] at hp; cases hp) hp, ht⟩
theorem FrS.well {Ps : List Addr} {H H' : Hp} {wl cl : Addr} (t : Tabs Ps H) (f : FrS Ps H H') (w : Well H wl cl) : Well H' wl cl := by
  obtain ⟨cs, x, c, h1, h2, hc⟩ := w
  exact ⟨cs, x, c, f.1 _ _ (t.lst h1) h1, f.1 _ _ (t.lst h2) h2, hc⟩
theorem Drawn.lst {H H' : Hp} {wl cl : Addr} (a : Drawn wl cl H H') {b : Addr} {xs : List V} (n : b ≠ wl ∧ b ≠ cl) (e : H b = some (.lst xs)) : H' b = some (.lst xs) := a.1 b _ n.1 n.2 e
theorem eqv_nil_cons (z : Int) (r : List Int) : PyData.eqv (.list ((z :: r).map PyData.int)) (.list []) = false := by
  simp [PyData.eqv, PyData.eqvAll]
theorem eqv_nil_nil : PyData.eqv (.list (([] : List Int).map PyData.int)) (.list []) = true := by
  simp [PyData.eqv, PyData.eqvAll]
def rInt1 : List V → Hp → VK → Prop := fun xs H Q => (∃ i, xs = [.int i] ∧ Q (.int i) H) ∨ ∃ k, xs = [.bl k] ∧ Q (.int (if k then 1 else 0)) H
theorem lc_enumL {K : PySem.W.Frag} {a : Addr} {xs : List V} {g : TG} {tt : TT} {te : TE} {vs : List Nat} {σ : L2.St} {H1 : Hp} {D : Addr} {Qd : Hp → Prop} (Pv : Nat → Hp → Prop) (h0 : Pv 0 (upd H1 D (.lst []))) (hl : ∀ i H, i ≤ xs.length → Pv i H → SqL K H a xs)
    (hs : ∀ i x H T, xs[i]? = some x → Pv i H → H T = none → g (.ref T) (wipe σ vs) (upd H T (.tup [.int (i : Nat), x])) fun σ2 H2 => wipe σ2 vs = wipe σ vs ∧ tt σ2 H2 fun b H3 =>
      if b = true then te σ2 H3 fun y H4 => ∃ acc, H4 D = some (.lst acc) ∧ acc.length < sizeLine ∧ Pv (i + 1) (upd H4 D (.lst (acc ++ [y]))) else Pv (i + 1) H3) (hd : ∀ H, Pv xs.length H → Qd H) :
    ∃ W : Nat → Nat → Hp → Prop, (∃ m, W 0 m (upd H1 D (.lst []))) ∧ ∀ i m H, W i m H →
      ((Ite K a).stop i H ∧ Qd H) ∨ ((Ite K a).go i H ∧ ∃ Nx : Hp → Prop, (∀ H', Nx H' → ∃ m', m' < m ∧ W (i + 1) m' H') ∧ ∀ x H', (Ite K a).yld i H x H' → g x (wipe σ vs) H' fun σ2 H2 => wipe σ2 vs = wipe σ vs ∧ tt σ2 H2 fun b H3 =>
        if b = true then te σ2 H3 fun y H4 => ∃ acc, H4 D = some (.lst acc) ∧ acc.length < sizeLine ∧ Nx (upd H4 D (.lst (acc ++ [y]))) else Nx H3) := by
  refine ⟨fun i m H => i + m = xs.length ∧ Pv i H, ⟨xs.length, by omega, h0⟩, ?_⟩
  rintro i m H ⟨e, p⟩
  have q := hl i H (by omega) p
  by_cases c : i < xs.length
  · refine .inr ⟨⟨xs, xs[i], q, List.getElem?_eq_getElem c⟩, Pv (i + 1), fun H' p' => ⟨m - 1, by omega, by omega, p'⟩, fun v H' hy => ?_⟩
    obtain ⟨T, x, rfl, nT, rfl, fx⟩ := hy
    exact hs i x H T (fx xs q) p nT
  · have e2 : i = xs.length := by omega
    subst e2
    exact .inl ⟨⟨xs, q, Nat.le_refl _⟩, hd H p⟩
theorem bumpA_get {tk ps : List Int} {i : Nat} {x : Int} (nd : ps.Nodup) (pl : ∀ p ∈ ps, 0 ≤ p ∧ p < (tk.length : Int)) (h : tk[i]? = some x) : ∃ y, (bumpA tk ps)[i]? = some y ∧ y = x + (if (i : Int) ∈ ps then 1 else 0) := by
  have hi : i < tk.length := (List.getElem?_eq_some_iff.mp h).1
  have bl : ∀ (ps tk : List Int), (bumpA tk ps).length = tk.length := fun ps => by
    unfold bumpA
    induction ps with
    | nil => intro tk; rfl
    | cons p r ih => intro tk; rw [List.foldl_cons, ih, bump_len]
  have hi2 : i < (bumpA tk ps).length := by rw [bl]; exact hi
  refine ⟨(bumpA tk ps)[i], List.getElem?_eq_getElem hi2, ?_⟩
  have z := atF_bumpA ps tk (i : Int) nd pl (by omega)
  unfold atF at z
  rw [Int.toNat_natCast, getD_get hi2, getD_of h] at z
  exact z
end Rd

set_option Elab.async false
set_option linter.all false
set_option maxRecDepth 100000
set_option maxHeartbeats 4000000
/-! an exception that is caught and kept: try / except x as n, the exception's object tracked from then on -/
namespace Rd
open PySem PySem.Spec PyProof.Rows L2 Dt
/-- the object of an exception, of which the class and the dict are known -/
def ExD (cls : Value) (d : Option Addr) (a : Addr) : HO := .ext fun h => ∃ (oe : Obj) (vs : Array Value), h.get? a = some oe ∧ Zc cls d oe ∧ oe.data = .fields vs
theorem exD_ok {P : Program} {w : World} {H : Hp} {h : Heap} {a : Addr} {cls : Value} {d : Option Addr} {oe : Obj} {vs : Array Value} (e : h.get? a = some oe) (z : Zc cls d oe) (y : oe.data = .fields vs) : ObjOk P w H h a (ExD cls d a) :=
  ⟨⟨oe, vs, e, z, y⟩, ⟨oe, e⟩, fun h1 h2 ⟨o', vs', e', z', y'⟩ k => ⟨o', vs', k _ e', z', y'⟩⟩
section
variable {X : Cx} {pins : List (Addr × Obj)} {σ : L2.St} {H : Hp} {s : Shared}
theorem track_ok (I : Inv X pins σ H s) {a : Addr} {o : HO} (na : H a = none) (n0 : X.s_0.heap.get? a = none) (nL : a ≠ X.env.locals) (nC : ∀ x c, X.env.cells.lookup x = some c → c ≠ a) (nP : ∀ p ∈ X.pn ++ pins, p.1 ≠ a) (new : ObjOk X.prog X.w (upd H a o) s.heap a o) : Inv X pins σ (upd H a o) s :=
  ⟨I.ok, I.os, I.bare, ⟨I.base.keep, I.base.slot, fun b u e n hx => by
      rw [upd_ne (fun z => by rw [z, n0] at e; cases e)]
      exact I.base.free b u e n hx, I.base.there, fun b xs e => by
      have q := I.base.tups b xs e
      rw [upd_ne (ne_of_none q na)]
      exact q, fun b u xs e => by
      have q := I.base.frzs b u xs e
      rw [upd_ne (ne_of_none q na)]
      exact q, fun b ps e => by
      obtain ⟨more, q⟩ := I.base.tbls b ps e
      exact ⟨more, by rw [upd_ne (ne_of_none q na)]; exact q⟩⟩, I.loc, I.cell, by
    rw [upd_ne (Ne.symm nL)]
    exact I.free, fun x c e => by
    rw [upd_ne (nC x c e)]
    exact I.freeC x c e, fun p hp => by
    obtain ⟨p1, p2, p3⟩ := I.pin p hp
    exact ⟨p1, by rw [upd_ne (nP p hp)]; exact p2, p3⟩, I.hok.laidN (fun _ _ e => e) na new, I.len⟩
end
/-- the clause 'except x as n', the exception tracked in its suite and behind it -/
def wKeep (K : PySem.W.Frag) (c : Value) (i : Nat) (ts : Addr → TS) (Wout : WX) (D : Ends) : WX := fun cls d σ H =>
  ∃ b, PySem.W.exmOne K cls c = some b ∧ (b = true → ∀ a, H a = none → ts a { nx := fun σ' H' => D.nx (σ'.set i none) H', rt := D.rt, bk := fun σ' H' => D.bk (σ'.set i none) H', ct := fun σ' H' => D.ct (σ'.set i none) H' } (σ.set i (some (.ref a))) (upd H a (ExD cls d a))) ∧ (b = false → Wout cls d σ H)
section
variable {X : Cx} {x n : Str} {c : Value} {i : Nat} {body suite : List Stmt} {b₀ : Stmt} {np pos pos' : Pos} {tb : WX → TS} {ts : Addr → TS} {Wout : WX}
theorem ps_try_keep (hex : X.ex = []) (hs : X.stack = X.env :: X.outer) (hf : X.env.frame = some X.env.locals) (hN : X.N.Nodup) (hi : X.N[i]? = some n) (hln : X.env.kindOf n = some .local) (hc : Names X x c) (tk : Takes X Wout)
    (hb : ∀ (W : WX) (pn : List (Addr × Obj)) (xe : Value → Shared → Prop), Takes (X.tr pn xe) W → PassesOwn (model X.prog X.w) X.A X.env xe → PSs (X.tr pn xe) body (tb W)) (hsu : ∀ (a : Addr) (pn : List (Addr × Obj)), PSs (X.suite a pn) (b₀ :: suite) (ts a)) :
    PS X (.Try body [.ExceptHandler (some (.Name x np)) (some n) (b₀ :: suite) pos'] [] [] pos) (fun D σ H => tb (wKeep X.K c i ts Wout D) D σ H) := ⟨fun pins s σ H D I h => by
  have ok := I.ok; have hfr : X.A.frames = some (X.env :: X.outer) := (by rw [ok.frames, hs])
  have hloc : Loc X.env.scope n := .inl hln; refine wpAny_Try_except ?_
  refine wpAny_mono ((hb (wKeep X.K c i ts Wout D) (X.pn ++ pins) (fun e s₁ => wpAny (model X.prog X.w) X.A (noteFrame e X.env) (fun _ s₂ => wpAny (model X.prog X.w) X.A (setFlight e none) (fun _ s₃ => wpAny (model X.prog X.w) X.A (handleBy e X.env [.ExceptHandler (some (.Name x np)) (some n) (b₀ :: suite) pos']) (SP X pins D) X.xe s₃) X.xe s₂) X.xe s₁) (fun u s' xx => ?_) PassesOwn.looking).run [] s σ H D (I.toTry _) h) (fun f s1 hsp => ?_) (fun e s1 he => he)
  · obtain ⟨a, B, sI, pins', σ', H', cls, d, rfl, J', nb, up, sky, na, os, ag, b, hb1, hyes, hno⟩ := xx; have J : Inv X pins σ' H' sI := J'.ofTry ok
    have sky' : Sky B (X.env :: X.outer) a (Zc cls d) X.env.locals s'.heap := (by rw [← hs]; exact sky)
    show wpAny (model X.prog X.w) X.A (noteFrame (.ref a) X.env) _ _ _; refine Sky.land Zc.steady hfr hf sky' fun h3 fl3 up3 => ?_
    have J3 : Inv X pins σ' H' { s' with heap := h3 } := J.landed nb fl3.1 (up.trans up3) os ag; obtain ⟨oe3, vs3, he3, hz3, hd3⟩ := fl3.there
    have nfr : a ∉ frs (X.env :: X.outer) := fun hm => by
      obtain ⟨_, o', e', hnf⟩ := fl3.2.2.1.mem hm; rw [he3] at e'; cases e'; exact hnf _ hd3
    have nL : a ≠ X.env.locals := fun z => nfr (List.mem_filterMap.mpr ⟨X.env, List.mem_cons_self, by rw [hf, z]⟩); have nF : a ∉ X.fs := fun hm => (by
      obtain ⟨e, he, q⟩ := List.mem_filterMap.mp hm
      exact nfr (List.mem_filterMap.mpr ⟨e, List.mem_cons_of_mem _ he, q⟩))
    have nI : sI.heap.get? a = none := by
      cases q : sI.heap.get? a with
      | none => rfl
      | some o =>
        have z := nb a o q (by rw [hs]; exact nfr)
        rw [fl3.2.1] at z
        cases z
    have n0 : X.s_0.heap.get? a = none := by
      cases q : X.s_0.heap.get? a with
      | none => rfl
      | some o =>
        obtain ⟨o', z⟩ := J.base.there a o q (by rw [hex]; exact List.not_mem_nil)
        rw [nI] at z
        cases z
    have nC : ∀ y z, X.env.cells.lookup y = some z → z ≠ a := fun y z e q => by
      obtain ⟨v, o, eo, _⟩ := J.cell y z e
      rw [q, nI] at eo
      cases eo
    have nP : ∀ p ∈ X.pn ++ pins, p.1 ≠ a := fun p hp q => by
      have e := (J.pin p hp).1
      rw [q, nI] at e
      cases e
    have S3 := J3.suite he3 hd3 na nL nF; refine wpAny_handleBy_cons (codeAny_handlers_test ?_) (by intro q; cases q)
    have LT : PySem.W.Looks (model X.prog X.w) h3 (typeOf (.ref a)) cls := fun A Q E s k q => wpAny_typeOf_ref (k _ _ he3) (by rw [hz3.1]; exact q); have LM := PySem.W.exm_one (M := model X.prog X.w) (J3.kIn) LT hb1
    have test : ∀ {Q : Value → Shared → Prop} {E : Value → Shared → Prop}, Q c { s' with heap := h3 } → wpAny (model X.prog X.w) (X.A.mark (some (.ref a))) (eval (.Name x np) X.env) Q E { s' with heap := h3 } := fun {Q E} q => (by
      obtain ⟨hg, hdbg, hm | ⟨hm, hv, hnn⟩⟩ := hc
      · exact ld_glob (X := X.suite a ((a, oe3) :: (X.pn ++ pins))) S3 hg hm q hdbg
      · exact ld_blt (X := X.suite a ((a, oe3) :: (X.pn ++ pins))) S3 hg hm hv q hnn hdbg)
    refine test (LM.here ?_); cases b with
    | true =>
      refine codeAny_handlers_suite_as (HandSPX.lands_againZ fl3 fun h4 fl4 up4 => ?_)
      have J4 : Inv X pins σ' H' { s' with heap := h4 } := J.landed nb fl4.1 ((up.trans up3).trans up4) os ag; obtain ⟨oe4, vs4, he4, hz4, hd4⟩ := fl4.there
      have T4 : Inv X pins σ' (upd H' a (ExD cls d a)) { s' with heap := h4 } := track_ok J4 na n0 nL nC nP (exD_ok he4 hz4 hd4)
      have S4 : Inv (X.suite a (X.pn ++ pins)) [] σ' (upd H' a (ExD cls d a)) { s' with heap := h4 } := ⟨ok.suite _ _, T4.os, T4.bare, T4.base, T4.loc, T4.cell, T4.free, T4.freeC, fun p hp => T4.pin p (by rw [List.append_nil] at hp; exact hp), T4.hok, T4.len⟩
      refine store_ok (X := X.suite a (X.pn ++ pins)) (v := .ref a) S4 hN hi hloc rfl (fun s5 S5 => ?_) (.inr hln)
      refine wpAny_mono ((hsu a (X.pn ++ pins)).run [] s5 _ _ _ S5 (hyes rfl a na)) (fun f s6 hsp => ?_) (fun _ _ z => False.elim z)
      have back : ∀ {σ6 : L2.St} {H6 : Hp} {Q : Shared → Prop}, Inv (X.suite a (X.pn ++ pins)) [] σ6 H6 s6 → (∀ s7, Inv X pins (σ6.set i none) H6 s7 → Q s7) → wpAny (model X.prog X.w) X.A (do bindName X.env n .none; unbindBehindTheSuite X.env n pos') (fun _ s7 => Q s7) X.xe s6 := fun {σ6 H6 Q} S6 hq =>
        gone_ok (X := X) (pins := pins) ⟨ok, S6.os, S6.bare, S6.base, S6.loc, S6.cell, S6.free, S6.freeC, fun p hp => S6.pin p (List.mem_append_left _ hp), S6.hok, S6.len⟩ hN hi hln hq
      cases f with
      | ret u => obtain ⟨v6, σ6, H6, S6, r6, q6⟩ := hsp; exact back S6 fun s7 J7 => ⟨_, _, _, J7, r6, q6⟩
      | next => obtain ⟨σ6, H6, S6, q6⟩ := hsp; exact back S6 fun s7 J7 => ⟨_, _, J7, q6⟩
      | brk => obtain ⟨σ6, H6, S6, q6⟩ := hsp; exact back S6 fun s7 J7 => ⟨_, _, J7, q6⟩
      | cont => obtain ⟨σ6, H6, S6, q6⟩ := hsp; exact back S6 fun s7 J7 => ⟨_, _, J7, q6⟩
    | false =>
      show wpAny _ X.A (handleBy (.ref a) X.env []) _ _ _; refine wpAny_handleBy_nil ?_; obtain ⟨k1, k2, k3, oe, vs, T, oT, ts', he, hz, hd, h1, hr⟩ := id fl3
      unfold PySem.passOn; refine wpAny_bind (wpAny_field he hd h1 ?_); rw [if_neg (show ¬ ((Value.ref T == Value.none) = true) from by simp)]
      have fin : wpAny (model X.prog X.w) X.A (setFlight (.ref a) X.env.frame) (fun _ s4 => wpAny (model X.prog X.w) X.A (throw (.ref a) : Sem Flow) (SP X pins D) X.xe s4) X.xe { s' with heap := h3 } := (by
        rw [hf]; refine HandSPX.setFlight_upZ fl3 fun h4 hh4 up4 => wpAny_throw (tk _ _ ?_)
        exact ⟨a, B, sI, pins, σ', H', cls, d, rfl, J, nb, (up.trans up3).trans up4, .inr (.inr (by rw [hs]; exact hh4)), na, os, ag, hno rfl⟩)
      first | exact wpAny_bind (wpAny_pure (wpAny_bind fin)) | exact wpAny_bind fin
  · cases f with
    | ret u => obtain ⟨v, σ', H', J', r, q⟩ := hsp; exact ⟨v, σ', H', J'.ofTry ok, r, q⟩
    | next => obtain ⟨σ', H', J', q⟩ := hsp; exact wpAny_execs_nil ⟨σ', H', J'.ofTry ok, q⟩
    | brk => obtain ⟨σ', H', J', q⟩ := hsp; exact ⟨σ', H', J'.ofTry ok, q⟩
    | cont => obtain ⟨σ', H', J', q⟩ := hsp; exact ⟨σ', H', J'.ofTry ok, q⟩⟩
end
end Rd

set_option Elab.async false
set_option linter.all false
set_option maxRecDepth 100000
set_option maxHeartbeats 4000000
/-! the refusals' classes; isinstance of one that was caught; calls that may let one out -/
namespace Rd
open PySem PySem.Spec PyProof.Rows L2 Dt
theorem pe_gref {X : Cx} {x : Str} {a : Addr} {pos : Pos} (hg : Gl X x) (hm : X.mg x = some (.ref a)) (hd : (x == ("__debug__" : Str)) = false := by decide) : PE X (.Name x pos) (tC (.ref a)) := pe_glob hg hm rfl hd
def rIsD (K : PySem.W.Frag) : List V → Hp → VK → Prop := fun xs H Q => ∃ (a D : Addr) (c : V) (cv : Value) (b : Bool), xs = [.ref a, c] ∧ H a = some (ExD (.ref D) none a) ∧ ExcC K D ∧ ClsV c cv ∧ PySem.W.kitOne K (.ref D) cv = some b ∧ Q (.bl b) H
theorem call_isD {X : Cx} : CallR X (.builtin "isinstance") (rIsD X.K) := by
  intro pins s σ H xs us Q I r h
  obtain ⟨a, D, c, cv, b, rfl, ha, C, k, e, q⟩ := h
  obtain ⟨u1, u2, rfl, r1, r2⟩ := vals2 r
  have e2 := k.eq r2
  subst e2
  cases (show u1 = Value.ref a from r1)
  obtain ⟨⟨oe, vs, hget, hz, hd⟩, _, _⟩ := I.hok a _ ha
  have J : PySem.W.InstAt s.heap a oe D none := by
    obtain ⟨oc, od, oda, osl⟩ := oe
    obtain ⟨h1, h2⟩ := hz
    dsimp only at h1 h2 hd
    subst h1 h2 hd
    exact ⟨hget, rfl, rfl, trivial⟩
  exact PySem.W.kia_one (PySem.W.handS_kitx_exc C.hg C.hk C.hs C.hd C.ha C.hn C.ht C.hm) I.kIn J e (fun z => nomatch z) fun tk => ⟨.bl b, H, I.tok tk, rfl, q⟩
/-- the classes: the eleven refusals as _law_kinds names them, then the one above -/
structure ClsX (K : PySem.W.Frag) (mg : Str → Option Value) (C : Nat → Addr) : Prop where
  g_NoEnd : mg "NoEnd" = some (.ref (C 0))
  g_NoLog : mg "NoLog" = some (.ref (C 1))
  g_NoName : mg "NoName" = some (.ref (C 2))
  g_NoRow : mg "NoRow" = some (.ref (C 3))
  g_NoStep : mg "NoStep" = some (.ref (C 4))
  g_NoTable : mg "NoTable" = some (.ref (C 5))
  g_NoText : mg "NoText" = some (.ref (C 6))
  g_NoWish : mg "NoWish" = some (.ref (C 7))
  g_Spent : mg "Spent" = some (.ref (C 8))
  g_Told : mg "Told" = some (.ref (C 9))
  g_TooMany : mg "TooMany" = some (.ref (C 10))
  g_DrawError : mg "DrawError" = some (.ref (C 11))
  m_isinstance : mg "isinstance" = none
  m_ValueError : mg "ValueError" = none
  x : ∀ i, i < 12 → PySem.W.excIn K (C i) [.type "ValueError", .type "Exception", .type "BaseException", .type "object"] "ValueError.__new__" = true
  k : ∀ i, i < 12 → PySem.W.keepIn K (.ref (C i)) = true
  e : ∀ i, i < 12 → ExcC K (C i)
  kit : ∀ i, i < 12 → ∀ j, j < 11 → PySem.W.kitOne K (.ref (C i)) (.ref (C j)) = some (decide (i = j))
  kitV : ∀ i, i < 12 → PySem.W.kitOne K (.ref (C i)) (.type "ValueError") = some true
  ty : ∀ i, i < 12 → PySem.W.typeIn K (.ref (C i)) = some (.type "type")
  exm : ∀ i, i < 12 → PySem.W.exmOne K (.ref (C i)) (.ref (C 11)) = some true
theorem ClsX.raises {K : PySem.W.Frag} {mg : Str → Option Value} {C : Nat → Addr} (T : ClsX K mg C) {X : Cx} (hK : X.K = K) {i : Nat} (hi : i < 12) : Raises X (.ref (C i)) := raises_own (by rw [hK]; exact (T.e i hi).hs) (by rw [hK]; exact T.ty i hi)
/-- a def that may raise -/
def CalX (P : Program) (w : World) (K : PySem.W.Frag) (mg : Str → Option Value) (base : Heap) (k : Nat) (x : Str) (ps : List Str) (sp : Sp) : Prop :=
  ∃ (f : Addr) (fd : FuncData), FnOk P w K mg base (L2.CX P w) k f fd ps sp ∧ mg x = some (.ref f) ∧ PySem.W.keepIn K (.ref f) = true ∧ Binds K fd ps []
theorem pe_calX {X : Cx} {W : WX} {k : Nat} {x : Str} {ps : List Str} {sp : Sp} {p pos : Pos} {e : Expr} {es : List Expr} {t : TA} (C : CalX X.prog X.w X.K X.mg X.base k x ps sp) (hr : Room k X.A) (tk : Takes X W) (hg : Gl X x)
    (ha : PA X (e :: es) t) (hdb : (x == ("__debug__" : Str)) = false := by decide) (he : starEach (e :: es) X.env = (false, eval e X.env) :: starEach es X.env := by rfl) (hpl : (backTo pos (starEach es X.env)).any (·.1) = false := by rfl) : PE X (.Call (.Name x p) (e :: es) [] pos) (tCallS sp (WE W) t) := by
  obtain ⟨f, fd, F, hm, hk, hb⟩ := C
  exact pe_callS F hr hg hm hk hb (passAt tk) ha hdb he hpl
/-- of what _law_kinds tells -/
def kindsB (i : Nat) : List Bool := ((List.range 11).map fun j => decide (i = j)) ++ [true]
def spKnd (C : Nat → Addr) : Sp := fun vs H Q _ => ∃ (a : Addr) (i : Nat), vs = [.ref a] ∧ i < 12 ∧ H a = some (ExD (.ref (C i)) none a) ∧
  ∀ H' p, Same H H' → H p = none → H' p = some (.lst ((kindsB i).map V.bl)) → Q (.ref p) H'
end Rd

set_option Elab.async false
set_option linter.all false
set_option maxRecDepth 100000
set_option maxHeartbeats 4000000
/-! defs that repr is called in: run where no repr is under way; isinstance of one that was caught, with a tuple of classes -/
namespace Rd
open PySem PySem.Spec PyProof.Rows L2 Dt
structure FnG (P : Program) (w : World) (K : PySem.W.Frag) (mg : Str → Option Value) (base : Heap) (k : Nat) (f : Addr) (fd : FuncData) (ps : List Str) (sp : Sp) : Prop where
  len : ∀ vs H Q E, sp vs H Q E → vs.length = ps.length
  run : ∀ (A : Around) (outer : List Env) (s : Shared) (H : Hp) (args : Args) (us : List Value) (vs : List V) (Q : VK), A.guards = some [] → Room k A → Env0 P w K mg base A outer s H → BindsTo s fd args (ps.zip us) → Vals vs us → sp vs H Q E0 →
    codeAny (model P w) A (.call (.ref f) args) (CR CX0 outer P w H s Q E0) s
theorem Fun.okG {P : Program} {w : World} {K : PySem.W.Frag} {mg : Str → Option Value} {base : Heap} {x qual : Str} {st : Stmt} {f : Addr} {fd : FuncData} {N ps : List Str} {k : Nat} {sp : Sp} (F : Fun K x qual st f fd) (S : FnScope N ps (defScope st)) (len : ∀ vs H Q E, sp vs H Q E → vs.length = ps.length)
    (body : ∀ (cdv : Value) (A : Around) (outer : List Env) (s : Shared) (H : Hp) (vs : List V) (Q : VK), A.guards = some [] → Room k (A.deeper (envOfC qual (defScope st) s.heap.objs.size f cdv)) → sp vs H Q E0 →
      ∃ t, PSs (cxOf CX0 P w K mg base N qual (defScope st) f cdv A outer s H E0).nox (defBody st) t ∧ t { nx := fun _ H' => Q .non H', rt := Q } (start N vs) H) : FnG P w K mg base (k + 1) f fd ps sp :=
  ⟨len, fun A outer s H args us vs Q hg hr e0 hb r hsp => Lg.run_at F S hr e0 hb r (len _ _ _ _ hsp) fun cdv hr' => body cdv A outer s H vs Q hg hr' hsp⟩
def CalG (P : Program) (w : World) (K : PySem.W.Frag) (mg : Str → Option Value) (base : Heap) (k : Nat) (x : Str) (ps : List Str) (sp : Sp) : Prop :=
  ∃ (f : Addr) (fd : FuncData), FnG P w K mg base k f fd ps sp ∧ mg x = some (.ref f) ∧ PySem.W.keepIn K (.ref f) = true ∧ Binds K fd ps []
theorem pe_calG {X : Cx} {k : Nat} {x : Str} {ps : List Str} {sp : Sp} {p pos : Pos} {e : Expr} {es : List Expr} {t : TA} (C : CalG X.prog X.w X.K X.mg X.base k x ps sp) (gd : X.A.guards = some []) (hr : Room k X.A) (hg : Gl X x)
    (ha : PA X (e :: es) t) (hdb : (x == ("__debug__" : Str)) = false := by decide) (he : starEach (e :: es) X.env = (false, eval e X.env) :: starEach es X.env := by rfl) (hpl : (backTo pos (starEach es X.env)).any (·.1) = false := by rfl) :
    PE X (.Call (.Name x p) (e :: es) [] pos) (tCallS sp (fun _ => E0) t) := by
  obtain ⟨f, fd, F, hm, hk, hb⟩ := C
  constructor
  intro pins s σ H Q I h
  apply wpAny_Call_Name_kw
  apply ld_glob I hg hm _ hdb
  apply PySem.W.callWith_K (h₀ := X.base) I.ok.mod.kin hk _ he hpl
  refine thn (ha.run pos pins s σ H _ I h) ?_
  rintro us s1 ⟨vs, H1, I1, rv, qv⟩
  have lv := F.len _ _ _ _ qv
  have bd := hb s1 us I1.kIn (by rw [List.append_nil, ← rv.length]; exact lv)
  rw [List.append_nil] at bd
  have run := F.run X.A X.stack s1 H1 ⟨us, []⟩ us vs Q gd hr I1.env0 bd rv qv
  exact ⟨I1.kIn, wpAny_call (codeAny_mono run fun res s2 out => match res, out with
    | .ok (.ret u), out => I1.after out
    | .ok .next, out => out.elim
    | .ok .brk, out => out.elim
    | .ok .cont, out => out.elim
    | .error _, out => False.elim out)⟩
/-- isinstance of one that was caught, with a tuple of classes -/
def rIsDT (K : PySem.W.Frag) : List V → Hp → VK → Prop := fun xs H Q => ∃ (a D tp : Addr) (cs : List Addr) (b : Bool), xs = [.ref a, .ref tp] ∧ H a = some (ExD (.ref D) none a) ∧ ExcC K D ∧ SqT K H tp (cs.map V.ref) ∧ PySem.W.kitAny K (.ref D) (cs.map Value.ref) = some b ∧ Q (.bl b) H
theorem vals_refs : ∀ {cs : List Addr} {us : List Value}, Vals (cs.map V.ref) us → us = cs.map Value.ref
  | [], _, h => by cases h; rfl
  | c :: q, _, h => by
    cases h with
    | cons h1 h2 =>
      rw [vals_refs h2]
      cases (show _ = Value.ref c from h1)
      rfl
theorem call_isDT {X : Cx} : CallR X (.builtin "isinstance") (rIsDT X.K) := by
  intro pins s σ H xs us Q I r h
  obtain ⟨a, D, tp, cs, b, rfl, ha, C, ht, e, q⟩ := h
  obtain ⟨u1, u2, rfl, r1, r2⟩ := vals2 r
  cases (show u1 = Value.ref a from r1)
  cases (show u2 = Value.ref tp from r2)
  obtain ⟨its, o, n, vi, ho, hc, hd⟩ := sqT_at I.hok I.kIn ht
  obtain ⟨tc, td, tda, tsl⟩ := o
  dsimp only at hc hd
  subst hc hd
  rw [← vals_refs vi] at e
  obtain ⟨⟨oe, vs, hget, hz, hx⟩, _, _⟩ := I.hok a _ ha
  have J : PySem.W.InstAt s.heap a oe D none := by
    obtain ⟨oc, od, oda, osl⟩ := oe
    obtain ⟨h1, h2⟩ := hz
    dsimp only at h1 h2 hx
    subst h1 h2 hx
    exact ⟨hget, rfl, rfl, trivial⟩
  exact PySem.W.kia_tup (PySem.W.handS_kitx_exc C.hg C.hk C.hs C.hd C.ha C.hn C.ht C.hm) I.kIn J ho e (fun z => nomatch z) fun tk => ⟨.bl b, H, I.tok tk, rfl, q⟩
/-- none of them -/
theorem kit_none {K : PySem.W.Frag} {t : Value} : ∀ {cs : List Value}, (∀ c ∈ cs, PySem.W.kitOne K t c = some false) → PySem.W.kitAny K t cs = some false
  | [], _ => rfl
  | c :: q, h => by
    rw [PySem.W.kitAny.eq_2, h c List.mem_cons_self]
    exact kit_none fun d hd => h d (List.mem_cons_of_mem _ hd)
/-! repr of what is no container -/
def rRepS : List V → Hp → VK → Prop := fun xs H Q => (xs = [.non] ∧ Q (.str "None") H) ∨ (∃ i, xs = [.int i] ∧ i.natAbs.log2 < 1920 ∧ Q (.str (Str.ofString (toString i))) H) ∨ (∃ b, xs = [.bl b] ∧ Q (.str (if b = true then "True" else "False")) H) ∨
  ∃ z : Str, xs = [.str z] ∧ (reprText z).length ≤ sizeLine ∧ Q (.str (reprText z)) H
theorem call_reprS {X : Cx} : CallR X (.builtin "repr") rRepS := by
  intro pins s σ H xs us Q I r h
  rcases h with ⟨rfl, q⟩ | ⟨i, rfl, hi, q⟩ | ⟨b, rfl, q⟩ | ⟨z, rfl, hz, q⟩
  · obtain ⟨u, rfl, ru⟩ := vals1 r
    cases (show u = Value.none from ru)
    exact PySem.P.repr_of_none ⟨.str "None", H, I.tok _, ⟨_, rfl⟩, q⟩
  · obtain ⟨u, rfl, ru⟩ := vals1 r
    obtain ⟨tk, rfl⟩ := (show ∃ tk, u = Value.int i tk from ru)
    exact PySem.P.repr_of_int hi ⟨.str (Str.ofString (toString i)), H, I.tok _, ⟨_, rfl⟩, q⟩
  · obtain ⟨u, rfl, ru⟩ := vals1 r
    cases (show u = Value.bool b from ru)
    refine PySem.P.repr_of_bool ⟨.str (if b = true then "True" else "False"), H, I.tok _, ⟨_, rfl⟩, ?_⟩
    exact q
  · obtain ⟨u, rfl, ru⟩ := vals1 r
    obtain ⟨tk, rfl⟩ := (show ∃ tk, u = Value.str z tk from ru)
    exact PySem.P.repr_of_str ⟨.str (reprText z), H, I.tok _, ⟨_, rfl⟩, q⟩ hz
/-! repr of {text: number} -/
def rRepD (K : PySem.W.Frag) : List V → Hp → VK → Prop := fun xs H Q => ∃ (a : Addr) (z : Str) (i : Int), xs = [.ref a] ∧ H a = some (.dK [(.inr z, .int i)]) ∧ (PyData.dict [(.str z, .int i)]).showable = true ∧ (PyData.dict [(.str z, .int i)]).shown.length ≤ sizeLine ∧ Q (.str (PyData.dict [(.str z, .int i)]).shown) H
theorem call_reprD {X : Cx} (hg : X.A.guards = some []) (hu : X.A.units + 64 < cLine) : CallR X (.builtin "repr") (rRepD X.K) := by
  intro pins s σ H xs us Q I r h
  obtain ⟨a, z, i, rfl, ha, h1, h4, q⟩ := h
  obtain ⟨u, rfl, ru⟩ := vals1 r
  cases (show u = Value.ref a from ru)
  obtain ⟨_, nm, vs, kv, o, es, ep, ho, hx, hd, hk, hp, _⟩ := I.hok a _ ha
  have rd : Reads s.heap (.ref a) (.dict [(.str z, .int i)]) (a :: [] ++ []) := by
    cases kv with
    | cons k1 k2 =>
      cases k2
      obtain ⟨e1, e2⟩ := k1
      obtain ⟨tk, e2⟩ := (show ∃ tk, _ = Value.int i tk from e2)
      generalize hel : es.toList = el at hp
      cases hp with
      | cons p1 p2 p3 =>
        rename_i de es'
        cases p3
        rw [← e1] at p1
        rw [e2] at p2
        obtain ⟨tk2, ek⟩ : ∃ tk2, de.key = Value.str z tk2 := by
          have p1 : Value.isStrOf z de.key = true := p1
          cases hk0 : de.key with
          | str y t2 =>
            rw [hk0] at p1
            refine ⟨t2, ?_⟩
            have : y = z := by simpa [Value.isStrOf] using p1
            rw [this]
          | _ => rw [hk0] at p1; simp [Value.isStrOf] at p1
        refine .dict ho hx.1 hd ?_ ?_
        · rw [hel]
          show ReadsAll _ [de.key] [PyData.str z] []
          rw [ek]
          exact .cons (.str z tk2) .nil
        · rw [hel]
          show ReadsAll _ [de.val] [PyData.int i] []
          rw [p2]
          exact .cons (.int i tk) .nil
  refine repr_of_reads' rd h1 (fun _ m => ?_) hg (by simp [PyData.depth, PyData.depthKv]; omega) (fun _ _ e => e) (fun h' u tk hk => ?_) h4
  · have : sysModules = a := by simpa using m
    rw [this] at nm
    simp at nm
  · exact ⟨.str _, H, I.kept (t' := _) hk, ⟨_, rfl⟩, q⟩
/-! repr of any of these -/
def RepV (K : PySem.W.Frag) (H : Hp) (v : V) (r : Str) : Prop := (∀ (X : List V → Hp → VK → Prop), X = rRepS → ∀ Q : VK, Q (.str r) H → X [v] H Q) ∨
  (∃ (a : Addr) (d : PyData), v = .ref a ∧ Dp K H (.ref a) d ∧ d.showable = true ∧ d.hasDict = false ∧ d.depth < 63 ∧ d.shown.length ≤ sizeLine ∧ r = d.shown) ∨
  ∃ (a : Addr) (z : Str) (i : Int), v = .ref a ∧ H a = some (.dK [(.inr z, .int i)]) ∧ (PyData.dict [(.str z, .int i)]).showable = true ∧ (PyData.dict [(.str z, .int i)]).shown.length ≤ sizeLine ∧ r = (PyData.dict [(.str z, .int i)]).shown
def rRepV (K : PySem.W.Frag) : List V → Hp → VK → Prop := fun xs H Q => ∃ (v : V) (r : Str), xs = [v] ∧ RepV K H v r ∧ Q (.str r) H
theorem call_reprV {X : Cx} (hg : X.A.guards = some []) (hu : X.A.units + 64 < cLine) : CallR X (.builtin "repr") (rRepV X.K) := by
  intro pins s σ H xs us Q I r h
  obtain ⟨v, z, rfl, rv, q⟩ := h
  rcases rv with rv | ⟨a, d, rfl, h1, h2, h3, h4, h5, rfl⟩ | ⟨a, y, i, rfl, h1, h2, h3, rfl⟩
  · exact call_reprS pins s σ H _ us Q I r (rv _ rfl Q q)
  · exact Lg.call_repr hg hu pins s σ H _ us Q I r ⟨a, d, rfl, h1, h2, h3, h4, h5, q⟩
  · exact call_reprD hg hu pins s σ H _ us Q I r ⟨a, y, i, rfl, h1, h2, h3, q⟩
end Rd

set_option Elab.async false
set_option linter.all false
set_option maxRecDepth 100000
set_option maxHeartbeats 4000000
/-! things of any kind: data on the heap, small dicts within it; repr and isinstance of them -/
namespace Rd
open PySem PySem.Spec PyProof.Rows L2 Dt
/-- the dicts that occur -/
inductive Lf (H : Hp) (a : Addr) : PyData → Prop
  | e : H a = some (.dK []) → Lf H a (.dict [])
  | n : H a = some (.dK [(.inl 0, .int 0)]) → Lf H a (.dict [(.int 0, .int 0)])
  | t : H a = some (.dT [([.inl 0], .int 0)]) → Lf H a (.dict [(.tuple [.int 0], .int 0)])
mutual
inductive An (Av : Addr → Prop) (H : Hp) : V → PyData → Prop
  | non : An Av H .non .none
  | bl (b : Bool) : An Av H (.bl b) (.bool b)
  | int (i : Int) : An Av H (.int i) (.int i)
  | str (x : Str) : An Av H (.str x) (.str x)
  | lst {a : Addr} {xs : List V} {ds : List PyData} : H a = some (.lst xs) → ¬ Av a → AnAll Av H xs ds → An Av H (.ref a) (.list ds)
  | tup {a : Addr} {xs : List V} {ds : List PyData} : H a = some (.tup xs) → AnAll Av H xs ds → An Av H (.ref a) (.tuple ds)
  | dct {a : Addr} {d : PyData} : Lf H a d → An Av H (.ref a) d
inductive AnAll (Av : Addr → Prop) (H : Hp) : List V → List PyData → Prop
  | nil : AnAll Av H [] []
  | cons {v : V} {vs : List V} {d : PyData} {ds : List PyData} : An Av H v d → AnAll Av H vs ds → AnAll Av H (v :: vs) (d :: ds)
end
/-- all but tables of code objects and the lists that are to be avoided stay -/
def NoTb (Av : Addr → Prop) (H H' : Hp) : Prop := ∀ b o, (∀ ps, o ≠ .tbl ps) → (¬ ∃ xs, o = .lst xs ∧ Av b) → H b = some o → H' b = some o
theorem NoTb.trans {Av : Addr → Prop} {H H1 H2 : Hp} (a : NoTb Av H H1) (b : NoTb Av H1 H2) : NoTb Av H H2 := fun x o n m e => b x o n m (a x o n m e)
theorem NoTb.same {Av : Addr → Prop} {H H' : Hp} (s : Same H H') : NoTb Av H H' := fun b o _ _ e => s b o e
theorem NoTb.refl {Av : Addr → Prop} (H : Hp) : NoTb Av H H := fun _ _ _ _ e => e
theorem NoTb.tups {Av : Addr → Prop} {H H' : Hp} (k : NoTb Av H H') : Tups H H' := fun b xs e => k b _ (fun _ z => nomatch z) (fun ⟨_, z, _⟩ => nomatch z) e
theorem NoTb.weak {Av Bv : Addr → Prop} {H H' : Hp} (k : NoTb Av H H') (w : ∀ b, Av b → Bv b) : NoTb Bv H H' := fun b o n m e => k b o n (fun ⟨xs, z, y⟩ => m ⟨xs, z, w b y⟩) e
theorem FrS.noTb {Av : Addr → Prop} {Ps : List Addr} {H H' : Hp} (t : Tabs Ps H) (f : FrS Ps H H') : NoTb Av H H' := fun b o n _ e => f.1 b o (fun z => by
  obtain ⟨ps, q, _⟩ := t b z
  rw [e] at q
  exact n ps (Option.some.inj q)) e
theorem Lf.mono {Av : Addr → Prop} {H H' : Hp} {a : Addr} {d : PyData} (k : NoTb Av H H') (h : Lf H a d) : Lf H' a d := by
  cases h with
  | e h => exact .e (k _ _ (fun _ z => nomatch z) (fun ⟨_, z, _⟩ => nomatch z) h)
  | n h => exact .n (k _ _ (fun _ z => nomatch z) (fun ⟨_, z, _⟩ => nomatch z) h)
  | t h => exact .t (k _ _ (fun _ z => nomatch z) (fun ⟨_, z, _⟩ => nomatch z) h)
mutual
theorem An.mono {Av : Addr → Prop} {H H' : Hp} (k : NoTb Av H H') : ∀ (d : PyData) (v : V), An Av H v d → An Av H' v d
  | .none, _, h => by
    cases h with
    | non => exact .non
    | dct l => cases l
  | .bool b, _, h => by
    cases h with
    | bl => exact .bl b
    | dct l => cases l
  | .int i, _, h => by
    cases h with
    | int => exact .int i
    | dct l => cases l
  | .str x, _, h => by
    cases h with
    | str => exact .str x
    | dct l => cases l
  | .list ds, _, h => by
    cases h with
    | lst e n t => exact .lst (k _ _ (fun _ z => nomatch z) (fun ⟨_, _, z⟩ => n z) e) n (An.monoAll k ds _ t)
    | dct l => cases l
  | .tuple ds, _, h => by
    cases h with
    | tup e t => exact .tup (k _ _ (fun _ z => nomatch z) (fun ⟨_, z, _⟩ => nomatch z) e) (An.monoAll k ds _ t)
    | dct l => cases l
  | .dict _, _, h => by
    cases h with
    | dct l => exact .dct (l.mono k)
theorem An.monoAll {Av : Addr → Prop} {H H' : Hp} (k : NoTb Av H H') : ∀ (ds : List PyData) (vs : List V), AnAll Av H vs ds → AnAll Av H' vs ds
  | [], _, h => by
    cases h
    exact .nil
  | d :: ds, _, h => by
    cases h with
    | cons h t => exact .cons (An.mono k d _ h) (An.monoAll k ds _ t)
end
theorem An.up {Av : Addr → Prop} {H H' : Hp} {v : V} {d : PyData} (h : An Av H v d) (k : NoTb Av H H') : An Av H' v d := An.mono k d v h
theorem AnAll.up {Av : Addr → Prop} {H H' : Hp} {vs : List V} {ds : List PyData} (h : AnAll Av H vs ds) (k : NoTb Av H H') : AnAll Av H' vs ds := An.monoAll k ds vs h
theorem AnAll.len {Av : Addr → Prop} {H : Hp} : ∀ {vs : List V} {ds : List PyData}, AnAll Av H vs ds → vs.length = ds.length
  | _, _, .nil => rfl
  | _, _, .cons _ t => congrArg (· + 1) t.len
theorem AnAll.get {Av : Addr → Prop} {H : Hp} : ∀ {vs : List V} {ds : List PyData} {i : Nat} {v : V}, AnAll Av H vs ds → vs[i]? = some v → ∃ d, ds[i]? = some d ∧ An Av H v d
  | _, _, 0, _, .cons h _, e => by
    cases e
    exact ⟨_, rfl, h⟩
  | _, _, i + 1, v, .cons _ t, e => AnAll.get (i := i) t e
theorem AnAll.append {Av : Addr → Prop} {H : Hp} : ∀ {vs ws : List V} {ds es : List PyData}, AnAll Av H vs ds → AnAll Av H ws es → AnAll Av H (vs ++ ws) (ds ++ es)
  | _, _, _, _, .nil, h => h
  | _, _, _, _, .cons a t, h => .cons a (t.append h)
theorem AnAll.take {Av : Addr → Prop} {H : Hp} : ∀ {vs : List V} {ds : List PyData} (n : Nat), AnAll Av H vs ds → AnAll Av H (vs.take n) (ds.take n)
  | _, _, 0, _ => .nil
  | _, _, _ + 1, .nil => .nil
  | _, _, n + 1, .cons a t => .cons a (t.take n)
theorem AnAll.drop {Av : Addr → Prop} {H : Hp} : ∀ {vs : List V} {ds : List PyData} (n : Nat), AnAll Av H vs ds → AnAll Av H (vs.drop n) (ds.drop n)
  | _, _, 0, h => h
  | _, _, _ + 1, .nil => .nil
  | _, _, n + 1, .cons _ t => t.drop n
theorem AnAll.rev {Av : Addr → Prop} {H : Hp} : ∀ {vs : List V} {ds : List PyData}, AnAll Av H vs ds → AnAll Av H vs.reverse ds.reverse
  | _, _, .nil => .nil
  | _, _, .cons a t => by
    rw [List.reverse_cons, List.reverse_cons]
    exact t.rev.append (.cons a .nil)
theorem AnAll.ints {Av : Addr → Prop} {H : Hp} : ∀ ns : List Int, AnAll Av H (ns.map V.int) (ns.map PyData.int)
  | [] => .nil
  | n :: r => .cons (.int n) (AnAll.ints r)
mutual
theorem An.weak {Av Bv : Addr → Prop} {H : Hp} (w : ∀ b, Bv b → Av b) : ∀ (d : PyData) (v : V), An Av H v d → An Bv H v d
  | .none, _, h => by
    cases h with
    | non => exact .non
    | dct l => exact .dct l
  | .bool b, _, h => by
    cases h with
    | bl => exact .bl b
    | dct l => exact .dct l
  | .int i, _, h => by
    cases h with
    | int => exact .int i
    | dct l => exact .dct l
  | .str x, _, h => by
    cases h with
    | str => exact .str x
    | dct l => exact .dct l
  | .list ds, _, h => by
    cases h with
    | lst e n t => exact .lst e (fun z => n (w _ z)) (An.weakAll w ds _ t)
    | dct l => exact .dct l
  | .tuple ds, _, h => by
    cases h with
    | tup e t => exact .tup e (An.weakAll w ds _ t)
    | dct l => exact .dct l
  | .dict _, _, h => by
    cases h with
    | dct l => exact .dct l
theorem An.weakAll {Av Bv : Addr → Prop} {H : Hp} (w : ∀ b, Bv b → Av b) : ∀ (ds : List PyData) (vs : List V), AnAll Av H vs ds → AnAll Bv H vs ds
  | [], _, h => by
    cases h
    exact .nil
  | d :: ds, _, h => by
    cases h with
    | cons h t => exact .cons (An.weak w d _ h) (An.weakAll w ds _ t)
end
abbrev Any (H : Hp) : V → PyData → Prop := An (fun _ => False) H
abbrev AnyAll (H : Hp) : List V → List PyData → Prop := AnAll (fun _ => False) H
theorem An.any {Av : Addr → Prop} {H : Hp} {v : V} {d : PyData} (h : An Av H v d) : Any H v d := An.weak (fun _ z => z.elim) d v h
theorem AnAll.any {Av : Addr → Prop} {H : Hp} {vs : List V} {ds : List PyData} (h : AnAll Av H vs ds) : AnyAll H vs ds := An.weakAll (fun _ z => z.elim) ds vs h
/-- what is handed to isinstance -/
def tyD : PyData → String
  | .none => "NoneType"
  | .bool _ => "bool"
  | .int _ => "int"
  | .str _ => "str"
  | .list _ => "list"
  | .tuple _ => "tuple"
  | .dict _ => "dict"
theorem An.ty {Av : Addr → Prop} {K : PySem.W.Frag} {H : Hp} {v : V} {d : PyData} (h : An Av H v d) : TyX K H v (.type (tyD d)) := by
  cases h with
  | non => exact .base .non
  | bl b => exact .base (.bl b)
  | int i => exact .base (.int i)
  | str x => exact .base (.str x)
  | lst e _ _ => exact .base (.lst e)
  | tup e _ => exact .base (.tup e)
  | dct l =>
    cases l with
    | e h => exact .base (.dK h)
    | n h => exact .base (.dK h)
    | t h => exact .base (.dT h)
/-! ### read -/
section
variable {X : Cx} {pins : List (Addr × Obj)} {σ : L2.St} {H : Hp} {s : Shared}
theorem str_key {z : Str} {k : Value} (h : Value.isStrOf z k = true) : ∃ t, k = .str z t := by
  cases k with
  | str y t =>
    have : y = z := by simpa [Value.isStrOf] using h
    exact ⟨t, by rw [this]⟩
  | _ => simp [Value.isStrOf] at h
theorem lf_reads (I : Inv X pins σ H s) {a : Addr} {d : PyData} (h : Lf H a d) : ∃ as, Reads s.heap (.ref a) d as ∧ sysModules ∉ as := by
  cases h with
  | e ha =>
    obtain ⟨_, nm, vs, kv, o, es, ep, ho, hx, hd, hk, hp, _⟩ := I.hok a _ ha
    cases kv
    generalize hel : es.toList = el at hp
    cases hp
    refine ⟨a :: [] ++ [], .dict ho hx.1 hd ?_ ?_, fun m => ?_⟩
    · rw [hel]; exact .nil
    · rw [hel]; exact .nil
    · have : sysModules = a := by simpa using m
      rw [this] at nm
      simp at nm
  | n ha =>
    obtain ⟨_, nm, vs, kv, o, es, ep, ho, hx, hd, hk, hp, _⟩ := I.hok a _ ha
    cases kv with
    | cons k1 k2 =>
      cases k2
      obtain ⟨e1, e2⟩ := k1
      obtain ⟨tk, e2⟩ := (show ∃ tk, _ = Value.int 0 tk from e2)
      generalize hel : es.toList = el at hp
      cases hp with
      | cons p1 p2 p3 =>
        rename_i de es'
        cases p3
        rw [← e1] at p1
        rw [e2] at p2
        obtain ⟨tk2, ek⟩ : ∃ tk2, de.key = Value.int 0 tk2 := by
          rcases keyIs_shape (show keyIs (Sum.inl 0) de.key = true from p1) with ⟨i, t, q1, q2⟩ | ⟨y, t, q1, q2⟩
          · cases q1
            exact ⟨t, q2⟩
          · cases q1
        refine ⟨a :: [] ++ [], .dict ho hx.1 hd ?_ ?_, fun m => ?_⟩
        · rw [hel]
          show ReadsAll _ [de.key] [PyData.int 0] []
          rw [ek]
          exact .cons (.int 0 tk2) .nil
        · rw [hel]
          show ReadsAll _ [de.val] [PyData.int 0] []
          rw [p2]
          exact .cons (.int 0 tk) .nil
        · have : sysModules = a := by simpa using m
          rw [this] at nm
          simp at nm
  | t ha =>
    obtain ⟨_, nm, xs, pr, o, es, ep, ho, hx, hd, hk, _⟩ := I.hok a _ ha
    cases pr with
    | @cons _ q _ _ p1 p2 =>
      cases p2
      obtain ⟨e1, e2, e3⟩ := p1
      obtain ⟨tk, e3⟩ := (show ∃ tk, q.2.2 = Value.int 0 tk from e3)
      obtain ⟨_, its, rv, o2, ho2, hc2, n2, hd2⟩ := I.hok q.2.1 _ e2
      refine ⟨a :: [] ++ [], .dict ho hx.1 hd ?_ ?_, fun m => ?_⟩
      · rw [hk]
        show ReadsAll _ [Value.ref q.2.1] [PyData.tuple [.int 0]] []
        refine .cons (as := []) (.tuple ho2 hc2 hd2 ?_) .nil
        cases rv with
        | cons r1 r2 =>
          cases r2
          obtain ⟨t1, r1⟩ := (show ∃ t, _ = Value.int 0 t from r1)
          show ReadsAll _ [_] [PyData.int 0] []
          rw [r1]
          exact .cons (.int 0 t1) .nil
      · rw [hk]
        show ReadsAll _ [q.2.2] [PyData.int 0] []
        rw [e3]
        exact .cons (.int 0 tk) .nil
      · have : sysModules = a := by simpa using m
        rw [this] at nm
        simp at nm
mutual
theorem an_reads (I : Inv X pins σ H s) : ∀ (d : PyData) (v : V) (u : Value), An Av H v d → RelV v u → ∃ as, Reads s.heap u d as
  | .none, _, _, h, r => by
    cases h with
    | non => cases r; exact ⟨_, .none⟩
    | dct l => cases l
  | .bool b, _, _, h, r => by
    cases h with
    | bl => cases r; exact ⟨_, .bool b⟩
    | dct l => cases l
  | .int i, _, _, h, r => by
    cases h with
    | int => obtain ⟨t, rfl⟩ := r; exact ⟨_, .int i t⟩
    | dct l => cases l
  | .str x, _, _, h, r => by
    cases h with
    | str => obtain ⟨t, rfl⟩ := r; exact ⟨_, .str x t⟩
    | dct l => cases l
  | .list ds, _, _, h, r => by
    cases h with
    | lst e _ t =>
      cases r
      obtain ⟨_, its, n, rv, hg⟩ := I.hok _ _ e
      obtain ⟨as, q⟩ := an_readsAll I ds _ its t rv
      exact ⟨_, .list hg rfl rfl q⟩
    | dct l => cases l
  | .tuple ds, _, _, h, r => by
    cases h with
    | tup e t =>
      cases r
      obtain ⟨_, its, rv, o, hg, hc, n, hd⟩ := I.hok _ _ e
      obtain ⟨as, q⟩ := an_readsAll I ds _ its t rv
      exact ⟨_, .tuple hg hc hd q⟩
    | dct l => cases l
  | .dict _, _, _, h, r => by
    cases h with
    | dct l =>
      cases r
      obtain ⟨as, q, _⟩ := lf_reads I l
      exact ⟨as, q⟩
theorem an_readsAll (I : Inv X pins σ H s) : ∀ (ds : List PyData) (vs : List V) (us : List Value), AnAll Av H vs ds → Vals vs us → ∃ as, ReadsAll s.heap us ds as
  | [], _, _, h, r => by
    cases h
    cases r
    exact ⟨_, .nil⟩
  | d :: ds, _, _, h, r => by
    cases h with
    | cons a t =>
      cases r with
      | cons r1 r2 =>
        obtain ⟨as, q1⟩ := an_reads I d _ _ a r1
        obtain ⟨bs, q2⟩ := an_readsAll I ds _ _ t r2
        exact ⟨_, .cons q1 q2⟩
end
/-! ### shown -/
mutual
theorem an_repr (I : Inv X pins σ H s) : ∀ (d : PyData) (v : V) (u : Value), An Av H v d → RelV v u → d.showable = true → d.shown.length ≤ sizeLine → ∃ bs, ReadAtMost s.heap d.depth bs ∧ ReprK X.prog X.w bs s.heap d.depth u d.shown
  | .list ds, v, u, h, r, sh, sz => by
    obtain ⟨as, rd⟩ := an_reads I (.list ds) v u h r
    cases h with
    | dct l => cases l
    | lst e _ t =>
      cases r
      obtain ⟨_, its, n, rv, hg⟩ := I.hok _ _ e
      have sz2 : (listText (PyData.shownAll ds)).length ≤ sizeLine := by simpa only [PyData.shown] using sz
      obtain ⟨bs, b1, b2⟩ := an_reprAll I ds _ its t rv (by simpa [PyData.showable] using sh) fun x hx => Nat.le_trans (listText_mem_le hx) sz2
      have dp : PyData.depth (.list ds) = PyData.depthAll ds + 1 := by simp only [PyData.depth]
      have out := not_mem_of_deeper rd (by rw [dp]; exact Nat.lt_succ_self _) b1
      refine ⟨_ :: bs, ReadAtMost.cons rd (by rw [dp]; exact Nat.le_succ _) b1, ?_⟩
      rw [dp]
      simp only [PyData.shown]
      cases its with
      | nil =>
        cases rv
        cases t
        simp only [PyData.shownAll, listText_nil]
        exact ReprK.listEmpty hg rfl rfl
      | cons x l => exact ReprK.list hg rfl rfl out (by simpa using b2.length_eq) fun i y q => b2.item i y (by simpa using q)
  | .tuple ds, v, u, h, r, sh, sz => by
    obtain ⟨as, rd⟩ := an_reads I (.tuple ds) v u h r
    cases h with
    | dct l => cases l
    | tup e t =>
      cases r
      obtain ⟨_, its, rv, o, hg, hc, n, hd⟩ := I.hok _ _ e
      have sz2 : (tupleText (PyData.shownAll ds)).length ≤ sizeLine := by simpa only [PyData.shown] using sz
      obtain ⟨bs, b1, b2⟩ := an_reprAll I ds _ its t rv (by simpa [PyData.showable] using sh) fun x hx => Nat.le_trans (tupleText_mem_le hx) sz2
      have dp : PyData.depth (.tuple ds) = PyData.depthAll ds + 1 := by simp only [PyData.depth]
      have out := not_mem_of_deeper rd (by rw [dp]; exact Nat.lt_succ_self _) b1
      refine ⟨_ :: bs, ReadAtMost.cons rd (by rw [dp]; exact Nat.le_succ _) b1, ?_⟩
      rw [dp]
      simp only [PyData.shown]
      exact ReprK.tuple hg hc hd out b2
  | .dict kvs, v, u, h, r, sh, sz => by
    cases h with
    | dct l =>
      cases r
      obtain ⟨as, rd, no⟩ := lf_reads I l
      exact ReprK.of_reads rd sh (fun _ => no) sz
  | .none, v, u, h, r, sh, sz => by
    obtain ⟨as, rd⟩ := an_reads I .none v u h r
    exact ReprK.of_reads rd sh (fun z => nomatch z) sz
  | .bool b, v, u, h, r, sh, sz => by
    obtain ⟨as, rd⟩ := an_reads I (.bool b) v u h r
    exact ReprK.of_reads rd sh (fun z => nomatch z) sz
  | .int i, v, u, h, r, sh, sz => by
    obtain ⟨as, rd⟩ := an_reads I (.int i) v u h r
    exact ReprK.of_reads rd sh (fun z => nomatch z) sz
  | .str x, v, u, h, r, sh, sz => by
    obtain ⟨as, rd⟩ := an_reads I (.str x) v u h r
    exact ReprK.of_reads rd sh (fun z => nomatch z) sz
theorem an_reprAll (I : Inv X pins σ H s) : ∀ (ds : List PyData) (vs : List V) (us : List Value), AnAll Av H vs ds → Vals vs us → PyData.showableAll ds = true → (∀ t ∈ PyData.shownAll ds, t.length ≤ sizeLine) → ∃ bs, ReadAtMost s.heap (PyData.depthAll ds) bs ∧ ReprAllK X.prog X.w bs s.heap (PyData.depthAll ds) us (PyData.shownAll ds)
  | [], _, _, h, r, _, _ => by
    cases h
    cases r
    refine ⟨[], (fun _ m => nomatch m), ?_⟩
    simp only [PyData.shownAll]
    exact .nil
  | d :: ds, _, _, h, r, sh, sz => by
    cases h with
    | cons a t =>
      cases r with
      | cons r1 r2 =>
        obtain ⟨s1, s2⟩ : d.showable = true ∧ PyData.showableAll ds = true := by simpa [PyData.showableAll] using sh
        simp only [PyData.shownAll] at sz
        obtain ⟨bs, b1, b2⟩ := an_repr I d _ _ a r1 s1 (sz _ List.mem_cons_self)
        obtain ⟨cs, c1, c2⟩ := an_reprAll I ds _ _ t r2 s2 fun x hx => sz x (List.mem_cons_of_mem _ hx)
        have m1 : d.depth ≤ PyData.depthAll (d :: ds) := by simp only [PyData.depthAll]; exact Nat.le_max_left _ _
        have m2 : PyData.depthAll ds ≤ PyData.depthAll (d :: ds) := by simp only [PyData.depthAll]; exact Nat.le_max_right _ _
        refine ⟨bs ++ cs, (b1.mono m1).append (c1.mono m2), ?_⟩
        simp only [PyData.shownAll]
        exact .cons ((b2.more fun b hb => List.mem_append_left _ hb).level_le m1) (c2.more_le (fun b hb => List.mem_append_right _ hb) m2)
end
end
/-- repr(x), x anything -/
def rRepA : List V → Hp → VK → Prop := fun xs H Q => ∃ (Av : Addr → Prop) (v : V) (d : PyData), xs = [v] ∧ An Av H v d ∧ d.showable = true ∧ d.depth < 60 ∧ d.shown.length ≤ sizeLine ∧ Q (.str d.shown) H
theorem call_reprA {X : Cx} (hg : X.A.guards = some []) (hu : X.A.units + 64 < cLine) : CallR X (.builtin "repr") rRepA := by
  intro pins s σ H xs us Q I r h
  obtain ⟨Av, v, d, rfl, an, sh, dp, sz, q⟩ := h
  obtain ⟨u, rfl, ru⟩ := vals1 r
  have kept : ∀ {h' : Heap} {u tk}, (∀ b o, s.heap.get? b = some o → h'.get? b = some o) → EP X pins σ Q (.str d.shown u) { s with heap := h', toks := tk } := fun {h' u tk} hk => ⟨.str d.shown, H, I.kept (t' := tk) hk, ⟨_, rfl⟩, q⟩
  cases d with
  | none =>
    cases an with
    | non => cases (show u = Value.none from ru); exact PySem.P.repr_of_none ⟨.str "None", H, I.tok _, ⟨_, rfl⟩, q⟩
    | dct l => cases l
  | bool b =>
    cases an with
    | bl => cases (show u = Value.bool b from ru); exact PySem.P.repr_of_bool ⟨.str _, H, I.tok _, ⟨_, rfl⟩, q⟩
    | dct l => cases l
  | int i =>
    cases an with
    | int =>
      obtain ⟨tk, rfl⟩ := (show ∃ tk, u = Value.int i tk from ru)
      have hi : i.natAbs.log2 < 1920 := by simpa [PyData.showable] using sh
      exact PySem.P.repr_of_int hi ⟨.str _, H, I.tok _, ⟨_, rfl⟩, q⟩
    | dct l => cases l
  | str x =>
    cases an with
    | str =>
      obtain ⟨tk, rfl⟩ := (show ∃ tk, u = Value.str x tk from ru)
      exact PySem.P.repr_of_str ⟨.str _, H, I.tok _, ⟨_, rfl⟩, q⟩ sz
    | dct l => cases l
  | list ds =>
    obtain ⟨as, rd⟩ := an_reads I (.list ds) v u an ru
    cases an with
    | dct l => cases l
    | @lst a xs0 _ e _ t =>
      cases (show u = Value.ref a from ru)
      obtain ⟨_, its, n, rv, hg1⟩ := I.hok _ _ e
      have sz2 : (listText (PyData.shownAll ds)).length ≤ sizeLine := by simpa only [PyData.shown] using sz
      obtain ⟨bs, b1, b2⟩ := an_reprAll I ds _ its t rv (by simpa [PyData.showable] using sh) fun x hx => Nat.le_trans (listText_mem_le hx) sz2
      have dpe : PyData.depth (.list ds) = PyData.depthAll ds + 1 := by simp only [PyData.depth]
      have out := not_mem_of_deeper rd (by rw [dpe]; exact Nat.lt_succ_self _) b1
      refine call_repr_slot (T := "list") (idr := "list.__repr__") (by omega) ⟨_, hg1, rfl⟩ F.slot_list_repr.toG ?_
      have e1 : PyData.shown (.list ds) = listText (PyData.shownAll ds) := by simp only [PyData.shown]
      cases its with
      | nil =>
        cases rv
        cases t
        exact call_list_repr_empty ⟨_, hg1, rfl⟩ hg1 rfl ⟨_, _, rfl, kept (fun _ _ e => e)⟩
      | cons x l =>
        refine call_list_reprK hg1 rfl rfl out (by simpa using b2.length_eq) (fun i y q => b2.item i y (by simpa using q)) hg (fun b _ => Clear.nil b) (by rw [dpe] at dp; show X.A.units + 1 + _ < _; omega) (fun _ _ e => e) (fun h' w tk hk => ⟨_, _, rfl, ?_⟩) sz2
        have z := kept (u := w) (tk := tk) hk
        rw [e1] at z
        exact z
  | tuple ds =>
    obtain ⟨as, rd⟩ := an_reads I (.tuple ds) v u an ru
    cases an with
    | dct l => cases l
    | @tup a xs0 _ e t =>
      cases (show u = Value.ref a from ru)
      obtain ⟨_, its, rv, o, hg1, hc, n, hd⟩ := I.hok _ _ e
      have sz2 : (tupleText (PyData.shownAll ds)).length ≤ sizeLine := by simpa only [PyData.shown] using sz
      obtain ⟨bs, b1, b2⟩ := an_reprAll I ds _ its t rv (by simpa [PyData.showable] using sh) fun x hx => Nat.le_trans (tupleText_mem_le hx) sz2
      have dpe : PyData.depth (.tuple ds) = PyData.depthAll ds + 1 := by simp only [PyData.depth]
      have out := not_mem_of_deeper rd (by rw [dpe]; exact Nat.lt_succ_self _) b1
      refine call_repr_slot (T := "tuple") (idr := "tuple.__repr__") (by omega) ⟨_, hg1, hc⟩ F.slot_tuple_repr ?_
      have e1 : PyData.shown (.tuple ds) = tupleText (PyData.shownAll ds) := by simp only [PyData.shown]
      refine call_tuple_reprK hg1 hc hd out b2 hg (fun b _ => Clear.nil b) (by rw [dpe] at dp; show X.A.units + 1 + _ < _; omega) (fun _ _ e => e) (fun h' w tk hk => ⟨_, _, rfl, ?_⟩) sz2
      have z := kept (u := w) (tk := tk) hk
      rw [e1] at z
      exact z
  | dict kvs =>
    cases an with
    | @dct a _ l =>
      cases (show u = Value.ref a from ru)
      obtain ⟨as, rd, no⟩ := lf_reads I l
      exact repr_of_reads' rd sh (fun _ => no) hg (by omega) (fun _ _ e => e) (fun h' w tk hk => kept hk) sz
end Rd

set_option Elab.async false
set_option linter.all false
set_option maxRecDepth 100000
set_option maxHeartbeats 4000000
/-! a tuple times an int from 1 on -/
namespace L2
open PySem PySem.Spec PyProof.Rows
theorem tuple_mul1 (l : Addr) (items : Array Value) (n : Nat) (sl : Array (Option Value)) (dd : Option Addr) (u : Tok) :
    Meets (Builtin.«tuple.__mul__» ⟨[.ref l, .int 1 u], []⟩) (fun _ R s => s.heap.get? l = some { cls := .type "tuple", dict := dd, data := .seq items n, slots := sl } ∧ R (.ok (.ret (Value.ref l))) s) :=
  .of_wp fun prog w A R s h => by
    obtain ⟨hp, g, d, tk, os⟩ := s
    obtain ⟨hl, h⟩ := h
    have f1 := AutoSeq1.idx_int
    have c1 : (items.isEmpty || (1 : Int) == 1) = true := by simp
    wp_walk using wpAny_loadPart' hl
    repeat (first
      | (refine wpAny_ite_false (decide_eq_false (by decide)) ?_; wp_walk using wpAny_loadPart' hl)
      | (refine wpAny_ite_true (decide_eq_true (by rw [c1])) ?_; wp_walk using wpAny_loadPart' hl))
    exact ⟨_, rfl, h⟩
def rRep1 (K : PySem.W.Frag) : R2 := fun x y H Q => ∃ l xs, x = .ref l ∧ y = .int 1 ∧ SqT K H l xs ∧ Q (.ref l) H
theorem op_rep1 {X : Cx} : OpR X (binaryOp .Mult) (rRep1 X.K) := by
  intro pins s σ H x y v u Q I rx ry h
  obtain ⟨l, xs, rfl, rfl, hT, q⟩ := h
  cases rx
  obtain ⟨t, rfl⟩ := ry
  obtain ⟨its, r, ⟨⟨cls, dd, data, sl⟩, ho, hc, n, hd⟩, hs⟩ := I.tuple hT
  simp only at hc hd
  subst hc hd
  refine wpAny_binaryOp_repeat_ref (T := "tuple") (U := "int") (by decide) ⟨_, ho, rfl⟩ (fun s' => typeIs_int s' 1 t) noFill_tuple_mul F.fills_int_mul F.slot_int_rmul repeat_tuple F.slot_int_index.lookup
    (call_meets F.slot_int_rmul (typeIs_int s 1 t) F.entry_int_rmul (F.args_int_rmul_2 _ _) (int_rmul_tuple 1 t l its.toArray n dd sl)
      ⟨ho, rfl, ⟨_, ho, rfl⟩, call_meets F.slot_tuple_mul ⟨_, ho, rfl⟩ F.entry_tuple_mul (F.args_tuple_mul_2 _ _) (tuple_mul1 l its.toArray n sl dd t) ⟨ho, ?_⟩⟩)
  exact ⟨.ref l, H, I, rfl, q⟩
def rRepU (K : PySem.W.Frag) : R2 := fun x y H Q => rRepT K x y H Q ∨ rRep1 K x y H Q
theorem op_repU {X : Cx} : OpR X (binaryOp .Mult) (rRepU X.K) := OpR.or op_repT op_rep1
end L2

set_option Elab.async false
set_option linter.all false
set_option maxRecDepth 100000
set_option maxHeartbeats 4000000
/-! what an expression comes to, while the tape is drawn from -/
namespace Rd
open PySem PySem.Spec PyProof.Rows L2 Dt
def Tr (tp : Addr) (te : TE) (σ : L2.St) (H : Hp) (Φ : V → Hp → Prop) : Prop := ∀ Q : VK, (∀ v H', Taped tp H H' → Φ v H' → Q v H') → te σ H Q
def TrO (tp : Addr) (t : TO) (σ : L2.St) (H : Hp) : Prop := ∀ Q : Option Int → Hp → Prop, (∀ o H', Taped tp H H' → Q o H') → t σ H Q
/-- what stays while the tape is drawn from -/
def Stays (tp : Addr) (Φ : V → Hp → Prop) : Prop := ∀ v H H', Tape H tp → Taped tp H H' → Φ v H → Φ v H'
theorem tr_var {tp : Addr} {i : Nat} {σ : L2.St} {H : Hp} {Φ : V → Hp → Prop} {v : V} (t : Tape H tp) (h : σ[i]? = some (some v)) (p : Φ v H) : Tr tp (tVar i) σ H Φ := fun Q k => ⟨v, h, k v H (Taped.refl t) p⟩
theorem tr_c {tp : Addr} {v : V} {σ : L2.St} {H : Hp} {Φ : V → Hp → Prop} (t : Tape H tp) (p : Φ v H) : Tr tp (tC v) σ H Φ := fun Q k => k v H (Taped.refl t) p
theorem tr_mono {tp : Addr} {te : TE} {σ : L2.St} {H : Hp} {Φ Ψ : V → Hp → Prop} (h : Tr tp te σ H Φ) (k : ∀ v H', Taped tp H H' → Φ v H' → Ψ v H') : Tr tp te σ H Ψ := fun Q q => h Q fun v H' d p => q v H' d (k v H' d p)
theorem seq_tr {tp : Addr} {te : TE} {i : Nat} {u : TS} {D : Ends} {σ : L2.St} {H : Hp} {Φ : V → Hp → Prop} (h : Tr tp te σ H Φ) (k : ∀ v H', Taped tp H H' → Φ v H' → u D (σ.set i (some v)) H') : tSeq (tAsg te (gName i)) u D σ H := h _ k
theorem seq_trg {tp : Addr} {te : TE} {g : TG} {u : TS} {D : Ends} {σ : L2.St} {H : Hp} {Φ : V → Hp → Prop} (h : Tr tp te σ H Φ) (k : ∀ v H', Taped tp H H' → Φ v H' → g v σ H' (u D)) : tSeq (tAsg te g) u D σ H := h _ k
theorem ret_tr {tp : Addr} {te : TE} {D : Ends} {σ : L2.St} {H : Hp} {Φ : V → Hp → Prop} (h : Tr tp te σ H Φ) (k : ∀ v H', Taped tp H H' → Φ v H' → D.rt v H') : tRet te D σ H := h _ k
/-! ### ints -/
def isI : V → Hp → Prop := fun v _ => ∃ i, v = .int i
theorem tr_add {tp : Addr} {ta tb : TE} {σ : L2.St} {H : Hp} (a : Tr tp ta σ H isI) (b : ∀ H1, Taped tp H H1 → Tr tp tb σ H1 isI) : Tr tp (tOp (rI0 fun i j => .int (i + j)) ta tb) σ H isI := fun Q k => a _ fun x H1 d1 ⟨i, e1⟩ => b H1 d1 _ fun y H2 d2 ⟨j, e2⟩ => ⟨i, j, e1, e2, k _ _ (d1.trans d2) ⟨_, rfl⟩⟩
theorem tro_none {tp : Addr} {σ : L2.St} {H : Hp} (t : Tape H tp) : TrO tp tNoPart σ H := fun Q k => k none H (Taped.refl t)
theorem tro_some {tp : Addr} {te : TE} {σ : L2.St} {H : Hp} (a : Tr tp te σ H isI) : TrO tp (tPart te) σ H := fun Q k => a _ fun x H1 d ⟨i, e⟩ => ⟨i, e, k _ _ d⟩
theorem tr_dig {tp : Addr} {ta tb : TE} {sp : Sp} {σ : L2.St} {H : Hp} {lo hi : Int} (hsp : ∀ (Hx : Hp) (Q : VK) (E : XK) (m : Int), Tape Hx tp → lo ≤ m → m ≤ hi → (∀ H' d, Taped tp Hx H' → 0 ≤ d → d < m → Q (.int d) H') → sp [.ref tp, .int m] Hx Q E)
    (a : Tr tp ta σ H fun v _ => v = .ref tp) (b : ∀ H1, Taped tp H H1 → Tr tp tb σ H1 fun v _ => ∃ m, v = .int m ∧ lo ≤ m ∧ m ≤ hi) : Tr tp (tCall sp [] E0 (tCons ta (tCons tb tNil))) σ H fun v _ => ∃ d, v = .int d ∧ 0 ≤ d ∧ d < hi := fun Q k => a _ fun x H1 d1 e1 => b H1 d1 _ fun y H2 d2 ⟨m, e2, l1, l2⟩ => by
  subst e1
  subst e2
  exact hsp H2 _ _ m d2.2 l1 l2 fun H' d d3 d0 dm => k _ _ ((d1.trans d2).trans d3) ⟨d, rfl, d0, by omega⟩
/-! ### lists of pairs -/
structure EntW (x : Int × List Int) : Prop where
  num : x.1.natAbs < 10 ^ 31
  few : x.2.length ≤ 10
  hue : ∀ z ∈ x.2, -10 < z ∧ z < 10
def WEnt (H : Hp) (e : Addr) : Prop := ∃ x, IsEnt H e x ∧ EntW x
theorem WEnt.mono {H H' : Hp} {e : Addr} (h : WEnt H e) (t : Tups H H') : WEnt H' e := let ⟨x, a, b⟩ := h; ⟨x, a.mono t, b⟩
/-- a list of pairs, not the tape -/
def EntL (tp : Addr) (n : Nat) : V → Hp → Prop := fun v H => ∃ (l : Addr) (es : List Addr), v = .ref l ∧ l ≠ tp ∧ H l = some (.lst (es.map V.ref)) ∧ es.length ≤ n ∧ ∀ e ∈ es, WEnt H e
theorem entL_stays (tp : Addr) (n : Nat) : Stays tp (EntL tp n) := fun v H H' t f ⟨l, es, h1, h2, h3, h4, h5⟩ => ⟨l, es, h1, h2, f.1 _ _ h2 h3, h4, fun e he => (h5 e he).mono (f.tups t)⟩
theorem EntL.up {tp : Addr} {n m : Nat} {v : V} {H : Hp} (h : EntL tp n v H) (k : n ≤ m) : EntL tp m v H := let ⟨l, es, h1, h2, h3, h4, h5⟩ := h; ⟨l, es, h1, h2, h3, Nat.le_trans h4 k, h5⟩
theorem cut_mem {α : Type} {f : α → V} {l : List α} {lo hi : Option Int} : ∃ l' : List α, cutV (l.map f) lo hi = l'.map f ∧ l'.length ≤ l.length ∧ ∀ x ∈ l', x ∈ l := by
  unfold cutV
  refine ⟨(l.drop (HT.sIx (l.map f).length 0 lo)).take (HT.sIx (l.map f).length (l.map f).length hi - HT.sIx (l.map f).length 0 lo), by rw [List.map_take, List.map_drop], ?_, fun x hx => List.mem_of_mem_drop (List.mem_of_mem_take hx)⟩
  rw [List.length_take, List.length_drop]
  omega
theorem tr_sl {K : PySem.W.Frag} {tp : Addr} {ta : TE} {tl th : TO} {σ : L2.St} {H : Hp} {n : Nat} (t : Tape H tp) (a : Tr tp ta σ H (EntL tp n)) (b : ∀ H1, Taped tp H H1 → TrO tp tl σ H1) (c : ∀ H1, Taped tp H H1 → TrO tp th σ H1) : Tr tp (tSl (rSlL K) ta tl th) σ H (EntL tp n) := fun Q k => a _ fun x H1 d1 p1 => b H1 d1 _ fun lo H2 d2 => c H2 (d1.trans d2) _ fun hi H3 d3 => by
  obtain ⟨l, es, rfl, h2, h3, h4, h5⟩ := entL_stays tp n x H1 H3 d1.2 (d2.trans d3) p1
  obtain ⟨es', e1, e2, e3⟩ := cut_mem (f := V.ref) (l := es) (lo := lo) (hi := hi)
  refine ⟨l, _, rfl, .inl (.inl h3), fun p np => ?_⟩
  rw [e1]
  have sp := same_upd (o := .lst (es'.map V.ref)) np
  exact k _ _ ((d1.trans (d2.trans d3)).same sp) ⟨p, es', rfl, d3.2.new np, upd_same, by omega, fun e he => (h5 e (e3 e he)).mono (tups_same sp)⟩
theorem tr_rev {K : PySem.W.Frag} {tp : Addr} {ta : TE} {σ : L2.St} {H : Hp} {n : Nat} (a : Tr tp ta σ H (EntL tp n)) : Tr tp (tRevL K ta) σ H (EntL tp n) := fun Q k => a _ fun x H1 d1 p1 => by
  obtain ⟨l, es, rfl, h2, h3, h4, h5⟩ := p1
  refine ⟨l, _, rfl, .inl (.inl h3), fun p np => ?_⟩
  rw [← List.map_reverse]
  have sp := same_upd (o := .lst (es.reverse.map V.ref)) np
  exact k _ _ (d1.same sp) ⟨p, es.reverse, rfl, d1.2.new np, upd_same, by rw [List.length_reverse]; exact h4, fun e he => (h5 e (List.mem_reverse.mp he)).mono (tups_same sp)⟩
theorem tr_cat {tp : Addr} {ta tb : TE} {σ : L2.St} {H : Hp} {n m : Nat} (hn : n + m ≤ 1000) (a : Tr tp ta σ H (EntL tp n)) (b : ∀ H1, Taped tp H H1 → Tr tp tb σ H1 (EntL tp m)) : Tr tp (tOp rCat ta tb) σ H (EntL tp (n + m)) := fun Q k => a _ fun x H1 d1 p1 => b H1 d1 _ fun y H2 d2 p2 => by
  obtain ⟨l, es, rfl, h2, h3, h4, h5⟩ := entL_stays tp n x H1 H2 d1.2 d2 p1
  obtain ⟨l', es', rfl, g2, g3, g4, g5⟩ := p2
  refine ⟨l, l', _, _, rfl, rfl, h3, g3, by rw [List.length_map, List.length_map]; exact Nat.le_of_lt (small1000 (by omega)), fun p np => ?_⟩
  rw [← List.map_append]
  have sp := same_upd (o := .lst ((es ++ es').map V.ref)) np
  refine k _ _ ((d1.trans d2).same sp) ⟨p, es ++ es', rfl, d2.2.new np, upd_same, by rw [List.length_append]; omega, fun e he => ?_⟩
  rcases List.mem_append.mp he with q | q
  · exact (h5 e q).mono (tups_same sp)
  · exact (g5 e q).mono (tups_same sp)
/-- a row that may stand in a pair -/
def RowW : V → Hp → Prop := fun v H => ∃ (r : Addr) (row : List Int), v = .ref r ∧ IsRow H r row ∧ row.length ≤ 10 ∧ ∀ z ∈ row, -10 < z ∧ z < 10
theorem rowW_stays (tp : Addr) : Stays tp RowW := fun v H H' t f ⟨r, row, h1, h2, h3⟩ => ⟨r, row, h1, f.tups t _ _ h2, h3⟩
def numW : V → Hp → Prop := fun v _ => ∃ i, v = .int i ∧ i.natAbs < 10 ^ 31
theorem tr_pair {tp : Addr} {ta tb : TE} {σ : L2.St} {H : Hp} (a : Tr tp ta σ H numW) (b : ∀ H1, Taped tp H H1 → Tr tp tb σ H1 RowW) : Tr tp (tTup (tCons ta (tCons tb tNil))) σ H fun v H' => ∃ e, v = .ref e ∧ WEnt H' e := fun Q k => a _ fun x H1 d1 ⟨i, e1, hi⟩ => b H1 d1 _ fun y H2 d2 ⟨r, row, e2, h2, h3, h4⟩ => by
  subst e1
  subst e2
  refine ⟨(by show 2 ≤ sizeLine; decide), fun t nt => ?_⟩
  have st := same_upd (o := .tup [.int i, .ref r]) nt
  exact k _ _ ((d1.trans d2).same st) ⟨t, rfl, (i, row), ⟨r, upd_same, st _ _ h2⟩, ⟨hi, h3, h4⟩⟩
theorem tr_one {tp : Addr} {ta : TE} {σ : L2.St} {H : Hp} (a : Tr tp ta σ H fun v H' => ∃ e, v = .ref e ∧ WEnt H' e) : Tr tp (tLst (tCons ta tNil)) σ H (EntL tp 1) := fun Q k => a _ fun x H1 d1 ⟨e, e1, w⟩ => by
  subst e1
  refine ⟨(by show 1 ≤ sizeLine; decide), fun l nl => ?_⟩
  have st := same_upd (o := .lst [.ref e]) nl
  refine k _ _ (d1.same st) ⟨l, [e], rfl, d1.2.new nl, upd_same, Nat.le_refl _, fun b hb => ?_⟩
  rw [List.mem_singleton.mp hb]
  exact w.mono (tups_same st)
/-! ### wide data -/
structure FineW (d : PyData) (n w : Nat) : Prop where
  lay : d.canLay0 = true
  dep : d.depth ≤ n
  wei : d.weight ≤ w
  sho : d.showable = true
  noD : d.hasDict = false
  sh : d.intsShort 40 = true
structure FineWA (ds : List PyData) (n w : Nat) : Prop where
  lay : PyData.canLayAll0 ds = true
  dep : PyData.depthAll ds ≤ n
  wei : PyData.weightAll ds ≤ w
  sho : PyData.showableAll ds = true
  noD : PyData.hasDictAll ds = false
  sh : PyData.intsShortAll 40 ds = true
theorem FineWA.nil (n : Nat) : FineWA [] n 0 := ⟨rfl, Nat.zero_le _, Nat.le_refl _, rfl, rfl, rfl⟩
theorem FineWA.cons {d : PyData} {ds : List PyData} {n w u : Nat} (h : FineW d n w) (t : FineWA ds n u) : FineWA (d :: ds) n (w + 1 + u) := by
  refine ⟨?_, ?_, ?_, ?_, ?_, ?_⟩
  · simp only [PyData.canLayAll0, h.lay, t.lay, Bool.and_self]
  · have a := h.dep
    have b := t.dep
    simp only [PyData.depthAll]
    omega
  · have a := h.wei
    have b := t.wei
    simp only [PyData.weightAll]
    omega
  · simp only [PyData.showableAll, h.sho, t.sho, Bool.and_self]
  · simp only [PyData.hasDictAll, h.noD, t.noD, Bool.or_self]
  · simp only [PyData.intsShortAll, h.sh, t.sh, Bool.and_self]
theorem FineW.tuple {ds : List PyData} {n w : Nat} (t : FineWA ds n w) : FineW (.tuple ds) (n + 1) w := by
  refine ⟨by simp only [PyData.canLay0]; exact t.lay, ?_, by simp only [PyData.weight]; exact t.wei, by simp only [PyData.showable]; exact t.sho, by simp only [PyData.hasDict]; exact t.noD, by simp only [PyData.intsShort]; exact t.sh⟩
  have a := t.dep
  simp only [PyData.depth]
  omega
theorem FineW.list {ds : List PyData} {n w : Nat} (t : FineWA ds n w) : FineW (.list ds) (n + 1) w := by
  refine ⟨by simp only [PyData.canLay0]; exact t.lay, ?_, by simp only [PyData.weight]; exact t.wei, by simp only [PyData.showable]; exact t.sho, by simp only [PyData.hasDict]; exact t.noD, by simp only [PyData.intsShort]; exact t.sh⟩
  have a := t.dep
  simp only [PyData.depth]
  omega
theorem FineW.mono {d : PyData} {n w n' w' : Nat} (h : FineW d n w) (a : n ≤ n') (b : w ≤ w') : FineW d n' w' := ⟨h.lay, Nat.le_trans h.dep a, Nat.le_trans h.wei b, h.sho, h.noD, h.sh⟩
theorem fineWA_map {α : Type} {f : α → PyData} {n w : Nat} : ∀ (l : List α), (∀ x ∈ l, FineW (f x) n w) → FineWA (l.map f) n (l.length * (w + 1))
  | [], _ => by
    have z := FineWA.nil n
    exact ⟨z.lay, z.dep, Nat.le_trans z.wei (Nat.zero_le _), z.sho, z.noD, z.sh⟩
  | x :: r, h => by
    have t := fineWA_map r fun y hy => h y (List.mem_cons_of_mem _ hy)
    have z := FineWA.cons (h x List.mem_cons_self) t
    refine ⟨z.lay, z.dep, ?_, z.sho, z.noD, z.sh⟩
    have := z.wei
    rw [List.length_cons, Nat.succ_mul]
    show PyData.weightAll (f x :: r.map f) ≤ _
    omega
theorem fineW_int {i : Int} (h : i.natAbs < 10 ^ 31) : FineW (.int i) 1 110 := by
  have hl : i.natAbs.log2 ≤ 102 := by
    by_cases e : i.natAbs = 0
    · rw [e]; decide
    · have := (Nat.log2_lt e).mpr (show i.natAbs < 2 ^ 103 from Nat.lt_trans h (by decide))
      omega
  refine ⟨rfl, by simp [PyData.depth], ?_, ?_, rfl, ?_⟩
  · simp only [PyData.weight]
    split <;> omega
  · simp only [PyData.showable]
    exact decide_eq_true (by omega)
  · have e := PySem.int_text_length_le10 (k := 31) (by decide) h
    show decide ((Str.ofString (toString i)).length ≤ 40) = true
    rw [PySem.ofString_length]
    exact decide_eq_true (by omega)
theorem fineW_small {i : Int} (h0 : -100 < i) (h1 : i < 100) : FineW (.int i) 1 110 := fineW_int (Nat.lt_trans (show i.natAbs < 100 by omega) (by decide))
theorem fineW_row {r : List Int} (h : ∀ z ∈ r, -100 < z ∧ z < 100) : FineW (rowD r) 2 (r.length * 111) := FineW.tuple (fineWA_map r fun z hz => fineW_small (h z hz).1 (h z hz).2)
theorem fineW_ent {x : Int × List Int} (h : EntW x) : FineW (entD x) 3 1400 := by
  have a := fineW_int h.num
  have b : FineW (rowD x.2) 2 1110 := (fineW_row fun z hz => by have := h.hue z hz; omega).mono (Nat.le_refl _) (by have := h.few; omega)
  exact (FineW.tuple (FineWA.cons (a.mono (by omega) (Nat.le_refl _)) (FineWA.cons b (FineWA.nil _)))).mono (Nat.le_refl _) (by omega)
theorem fineW_log {log : Log} (h : ∀ e ∈ log, EntW e) (hl : log.length ≤ 200) : FineW (logD log) 4 290000 :=
  (FineW.list (fineWA_map log fun x hx => fineW_ent (h x hx))).mono (Nat.le_refl _) (by omega)
theorem FineW.shows {d : PyData} {n w : Nat} (h : FineW d n w) (hw : w ≤ 380000) : d.shown.length ≤ sizeLine := by
  have a := PyData.shown_le 40 (by decide) d (PyData.leavesShort_of_canLay0 40 d h.lay h.sh)
  have b := h.wei
  have c : (40 + 2) * d.weight + 40 ≤ 16000000 := by omega
  exact Nat.le_trans a (Nat.le_trans c (by decide))
theorem FineW.shaped {d : PyData} {n w : Nat} (h : FineW d n w) (hn : n ≤ 64) : SeqAt.shaped d = true := by
  show (d.canLay0 && decide (d.depth ≤ 64)) = true
  rw [h.lay, decide_eq_true (Nat.le_trans h.dep hn)]
  rfl
/-- the log that a list of pairs is -/
theorem entL_log {H : Hp} : ∀ {es : List Addr}, (∀ e ∈ es, WEnt H e) → ∃ log : Log, Paired (IsEnt H) es log ∧ ∀ x ∈ log, EntW x
  | [], _ => ⟨[], .nil, fun _ h => nomatch h⟩
  | e :: r, h => by
    obtain ⟨x, a, b⟩ := h e List.mem_cons_self
    obtain ⟨log, c, d⟩ := entL_log (es := r) fun y hy => h y (List.mem_cons_of_mem _ hy)
    refine ⟨x :: log, .cons a c, fun y hy => ?_⟩
    rcases List.mem_cons.mp hy with z | z
    · rw [z]; exact b
    · exact d y z
end Rd
namespace Rd
open PySem PySem.Spec PyProof.Rows L2 Dt
def rNotInT (K : PySem.W.Frag) : R2 := fun x y H Q => ∃ d ds, Dp K H x d ∧ Dp K H y (.tuple ds) ∧ SeqAt.shaped d = true ∧ SeqAt.shaped (.tuple ds) = true ∧ Q (.bl (!ds.any fun z => PyData.eqv z d)) H
theorem op_notInT {X : Cx} (hu : X.A.units + 65 < cLine) : OpR X (compareOp .NotIn) (rNotInT X.K) := by
  intro pins s σ H x y v u Q I rx ry h
  obtain ⟨d, ds, hd, he, sd, se, q⟩ := h
  obtain ⟨as, r1⟩ := Dp.reads I d x v hd rx
  obtain ⟨bs, r2⟩ := Dp.reads I (.tuple ds) y u he ry
  exact SeqAt.notIn_tuple_reads r2 r1 (SeqAt.canLay_of_shaped se) (SeqAt.canLay_of_shaped sd) (room_in_shaped sd hu) ⟨.bl _, H, I, rfl, q⟩
end Rd
namespace Rd
open PySem PySem.Spec PyProof.Rows L2 Dt
theorem one_tr {tp : Addr} {te : TE} {σ : L2.St} {H : Hp} {Φ : V → Hp → Prop} {Q : List V → Hp → Prop} (h : Tr tp te σ H Φ) (k : ∀ v H', Taped tp H H' → Φ v H' → Q [v] H') : tCons te tNil σ H Q := h _ k
/-- a new list of pairs -/
def EntN (tp : Addr) (n : Nat) (H0 : Hp) : V → Hp → Prop := fun v H => EntL tp n v H ∧ ∃ l, v = .ref l ∧ H0 l = none
theorem tr_catN {tp : Addr} {ta tb : TE} {σ : L2.St} {H : Hp} {n m : Nat} (hn : n + m ≤ 1000) (a : Tr tp ta σ H (EntL tp n)) (b : ∀ H1, Taped tp H H1 → Tr tp tb σ H1 (EntL tp m)) : Tr tp (tOp rCat ta tb) σ H (EntN tp (n + m) H) := fun Q k => a _ fun x H1 d1 p1 => b H1 d1 _ fun y H2 d2 p2 => by
  obtain ⟨l, es, rfl, h2, h3, h4, h5⟩ := entL_stays tp n x H1 H2 d1.2 d2 p1
  obtain ⟨l', es', rfl, g2, g3, g4, g5⟩ := p2
  refine ⟨l, l', _, _, rfl, rfl, h3, g3, by rw [List.length_map, List.length_map]; exact Nat.le_of_lt (small1000 (by omega)), fun p np => ?_⟩
  rw [← List.map_append]
  have sp := same_upd (o := .lst ((es ++ es').map V.ref)) np
  refine k _ _ ((d1.trans d2).same sp) ⟨⟨p, es ++ es', rfl, d2.2.new np, upd_same, by rw [List.length_append]; omega, fun e he => ?_⟩, p, rfl, (d1.trans d2).free np⟩
  rcases List.mem_append.mp he with q | q
  · exact (h5 e q).mono (tups_same sp)
  · exact (g5 e q).mono (tups_same sp)
theorem EntN.l {tp : Addr} {n : Nat} {H0 H : Hp} {v : V} (h : EntN tp n H0 v H) : EntL tp n v H := h.1
/-- lists of pairs in a list that is no other one of them -/
structure EntLs (tp : Addr) (n : Nat) (H : Hp) (l : Addr) (vs : List V) : Prop where
  nt : l ≠ tp
  hl : H l = some (.lst vs)
  each : ∀ x ∈ vs, EntL tp n x H ∧ x ≠ .ref l
theorem EntLs.stays {tp : Addr} {n : Nat} {H H' : Hp} {l : Addr} {vs : List V} (h : EntLs tp n H l vs) (t : Tape H tp) (f : Taped tp H H') : EntLs tp n H' l vs := ⟨h.nt, f.1 _ _ h.nt h.hl, fun x hx => ⟨entL_stays tp n x H H' t f (h.each x hx).1, (h.each x hx).2⟩⟩
theorem EntL.put {tp : Addr} {n : Nat} {H : Hp} {l : Addr} {vs : List V} {o : HO} {x : V} (h : EntL tp n x H) (hl : H l = some (.lst vs)) (ne : x ≠ .ref l) : EntL tp n x (upd H l o) := by
  obtain ⟨l', es, rfl, h2, h3, h4, h5⟩ := h
  have n' : l' ≠ l := fun z => ne (by rw [z])
  exact ⟨l', es, rfl, h2, by rw [upd_ne n']; exact h3, h4, fun e he => (h5 e he).mono (tups_upd fun xs z => by rw [hl] at z; cases z)⟩
theorem EntLs.snoc {tp : Addr} {n : Nat} {H : Hp} {l : Addr} {vs : List V} {v : V} (h : EntLs tp n H l vs) (hv : EntL tp n v H) (ne : v ≠ .ref l) : EntLs tp n (upd H l (.lst (vs ++ [v]))) l (vs ++ [v]) := by
  refine ⟨h.nt, upd_same, fun x hx => ?_⟩
  rcases List.mem_append.mp hx with z | z
  · exact ⟨(h.each x z).1.put h.hl (h.each x z).2, (h.each x z).2⟩
  · rw [List.mem_singleton.mp z]
    exact ⟨hv.put h.hl ne, ne⟩
theorem tr_rowcat {K : PySem.W.Frag} {tp : Addr} {ta tb : TE} {σ : L2.St} {H : Hp} {n m : Nat} (hn : n + m ≤ 10) (a : Tr tp ta σ H fun v H' => ∃ (r : Addr) (row : List Int), v = .ref r ∧ IsRow H' r row ∧ row.length ≤ n ∧ ∀ z ∈ row, -10 < z ∧ z < 10) (b : ∀ H1, Taped tp H H1 → Tr tp tb σ H1 fun v H' => ∃ (r : Addr) (row : List Int), v = .ref r ∧ IsRow H' r row ∧ row.length ≤ m ∧ ∀ z ∈ row, -10 < z ∧ z < 10) : Tr tp (tOp (rCatA K) ta tb) σ H RowW := fun Q k => a _ fun x H1 d1 ⟨r, row, e1, h1, h2, h3⟩ => b H1 d1 _ fun y H2 d2 ⟨r', row', e2, g1, g2, g3⟩ => by
  subst e1
  subst e2
  have h1' : IsRow H2 r row := d2.tups d1.2 _ _ h1
  have d12 := d1.trans d2
  have hb : ∀ z ∈ row ++ row', -10 < z ∧ z < 10 := fun z hz => by
    rcases List.mem_append.mp hz with q | q
    · exact h3 z q
    · exact g3 z q
  refine ⟨r, r', _, _, rfl, rfl, .inl (.inl h1'), .inl (.inl g1), by rw [List.length_map, List.length_map]; exact Nat.le_of_lt (small1000 (by omega)), fun z => ?_, fun _ z => ?_, fun _ _ p np => ?_⟩
  · exact k _ _ d12 ⟨r', row', rfl, g1, by omega, g3⟩
  · exact k _ _ d12 ⟨r, row, rfl, h1', by omega, h3⟩
  · have sp := same_upd (o := .tup (row.map V.int ++ row'.map V.int)) np
    exact k _ _ (d12.same sp) ⟨p, row ++ row', rfl, by show upd _ p _ p = _; rw [upd_same, List.map_append], by rw [List.length_append]; omega, hb⟩
end Rd
namespace Rd
open PySem PySem.Spec PyProof.Rows L2 Dt
/-- pairs, one after the other -/
def EntA (tp : Addr) (m : Nat) (ta : TA) (σ : L2.St) (H : Hp) : Prop := ∀ Q : List V → Hp → Prop, (∀ (es : List Addr) H', Taped tp H H' → es.length = m → (∀ e ∈ es, WEnt H' e) → Q (es.map V.ref) H') → ta σ H Q
theorem enta_nil {tp : Addr} {σ : L2.St} {H : Hp} (t : Tape H tp) : EntA tp 0 tNil σ H := fun Q k => k [] H (Taped.refl t) rfl fun _ h => nomatch h
theorem enta_cons {tp : Addr} {m : Nat} {te : TE} {ta : TA} {σ : L2.St} {H : Hp} (a : Tr tp te σ H fun v H' => ∃ e, v = .ref e ∧ WEnt H' e) (b : ∀ H1, Taped tp H H1 → EntA tp m ta σ H1) : EntA tp (m + 1) (tCons te ta) σ H := fun Q k => a _ fun v H1 d1 ⟨e, ev, w⟩ => b H1 d1 _ fun es H2 d2 hl hw => by
  subst ev
  refine k (e :: es) H2 (d1.trans d2) (by rw [List.length_cons, hl]) fun x hx => ?_
  rcases List.mem_cons.mp hx with z | z
  · rw [z]; exact w.mono (d2.tups d1.2)
  · exact hw x z
theorem tr_ents {tp : Addr} {m : Nat} {ta : TA} {σ : L2.St} {H : Hp} (hm : m ≤ 1000) (a : EntA tp m ta σ H) : Tr tp (tLst ta) σ H (EntN tp m H) := fun Q k => a _ fun es H1 d1 hl hw => by
  refine ⟨by rw [List.length_map, hl]; exact Nat.le_of_lt (small1000 hm), fun l nl => ?_⟩
  have sl := same_upd (o := .lst (es.map V.ref)) nl
  exact k _ _ (d1.same sl) ⟨⟨l, es, rfl, d1.2.new nl, upd_same, by omega, fun e he => (hw e he).mono (tups_same sl)⟩, l, rfl, d1.free nl⟩
/-- a row of at most so many -/
def RowN (n : Nat) : V → Hp → Prop := fun v H => ∃ (r : Addr) (row : List Int), v = .ref r ∧ IsRow H r row ∧ row.length ≤ n ∧ ∀ z ∈ row, -10 < z ∧ z < 10
theorem rowN_stays (tp : Addr) (n : Nat) : Stays tp (RowN n) := fun v H H' t f ⟨r, row, h1, h2, h3⟩ => ⟨r, row, h1, f.tups t _ _ h2, h3⟩
theorem RowN.w {n : Nat} {v : V} {H : Hp} (h : RowN n v H) (hn : n ≤ 10) : RowW v H := let ⟨r, row, h1, h2, h3, h4⟩ := h; ⟨r, row, h1, h2, by omega, h4⟩
theorem tr_slrow {K : PySem.W.Frag} {tp : Addr} {ta : TE} {tl th : TO} {σ : L2.St} {H : Hp} {n : Nat} (a : Tr tp ta σ H (RowN n)) (b : ∀ H1, Taped tp H H1 → TrO tp tl σ H1) (c : ∀ H1, Taped tp H H1 → TrO tp th σ H1) : Tr tp (tSl (rSlA K) ta tl th) σ H (RowN n) := fun Q k => a _ fun x H1 d1 p1 => b H1 d1 _ fun lo H2 d2 => c H2 (d1.trans d2) _ fun hi H3 d3 => by
  obtain ⟨r, row, rfl, h2, h3, h4⟩ := rowN_stays tp n x H1 H3 d1.2 (d2.trans d3) p1
  obtain ⟨row', e1, e2, e3⟩ := cut_mem (f := V.int) (l := row) (lo := lo) (hi := hi)
  have d := d1.trans (d2.trans d3)
  refine ⟨r, _, rfl, .inl (.inl h2), fun _ => k _ _ d ⟨r, row, rfl, h2, h3, h4⟩, fun _ p np => ?_⟩
  rw [e1]
  exact k _ _ (d.same (same_upd np)) ⟨p, row', rfl, upd_same, by omega, fun z hz => h4 z (e3 z hz)⟩
theorem tr_rowcatN {K : PySem.W.Frag} {tp : Addr} {ta tb : TE} {σ : L2.St} {H : Hp} {n m : Nat} (hn : n + m ≤ 10) (a : Tr tp ta σ H (RowN n)) (b : ∀ H1, Taped tp H H1 → Tr tp tb σ H1 (RowN m)) : Tr tp (tOp (rCatA K) ta tb) σ H RowW := tr_rowcat hn a b
theorem tr_tup1 {tp : Addr} {ta : TE} {σ : L2.St} {H : Hp} (a : Tr tp ta σ H fun v _ => ∃ i, v = .int i ∧ -10 < i ∧ i < 10) : Tr tp (tTup (tCons ta tNil)) σ H (RowN 1) := fun Q k => a _ fun v H1 d1 ⟨i, e, i0, i1⟩ => by
  subst e
  refine ⟨(by show 1 ≤ sizeLine; decide), fun t nt => ?_⟩
  exact k _ _ (d1.same (same_upd nt)) ⟨t, [i], rfl, upd_same, Nat.le_refl _, fun z hz => by rw [List.mem_singleton.mp hz]; exact ⟨i0, i1⟩⟩
theorem tr_tup0 {tp : Addr} {σ : L2.St} {H : Hp} (t : Tape H tp) : Tr tp (tTup tNil) σ H (RowN 0) := fun Q k => by
  refine ⟨(by show 0 ≤ sizeLine; decide), fun p np => ?_⟩
  exact k _ _ ((Taped.refl t).same (same_upd np)) ⟨p, [], rfl, upd_same, Nat.le_refl _, fun _ h => nomatch h⟩
theorem tr_neg {tp : Addr} {c : Int} {σ : L2.St} {H : Hp} {Φ : V → Hp → Prop} (t : Tape H tp) (p : Φ (.int (-c)) H) : Tr tp (tUn (rU fun i => .int (-i)) (tC (.int c))) σ H Φ := fun Q k => ⟨c, rfl, k _ _ (Taped.refl t) p⟩
end Rd
namespace Rd
open PySem PySem.Spec PyProof.Rows L2 Dt
/-- a list of pairs, one at least, new since H -/
def SomeAt (H : Hp) (c : Nat) : V → Hp → Prop := fun v Hc => ∃ (l : Addr) (es : List Addr), v = .ref l ∧ H l = none ∧ Hc l = some (.lst (es.map V.ref)) ∧ 1 ≤ es.length ∧ es.length ≤ c ∧ ∀ e ∈ es, WEnt Hc e
theorem some_stays {tp : Addr} {H Hc Hd : Hp} {c : Nat} {v : V} (t : Tape H tp) (tc : Tape Hc tp) (d : Taped tp Hc Hd) (h : SomeAt H c v Hc) : SomeAt H c v Hd := by
  obtain ⟨l, es, h1, h2, h3, h4, h5, h6⟩ := h
  exact ⟨l, es, h1, h2, d.1 _ _ (t.new h2) h3, h4, h5, fun e he => (h6 e he).mono (d.tups tc)⟩
theorem SomeAt.up {H Hc : Hp} {c c' : Nat} {v : V} (h : SomeAt H c v Hc) (k : c ≤ c') : SomeAt H c' v Hc := let ⟨l, es, h1, h2, h3, h4, h5, h6⟩ := h; ⟨l, es, h1, h2, h3, h4, Nat.le_trans h5 k, h6⟩
theorem tr_some {tp : Addr} {m : Nat} {ta : TA} {σ : L2.St} {H Hc : Hp} (hm : m + 1 ≤ 1000) (dc : Taped tp H Hc) (a : EntA tp (m + 1) ta σ Hc) : Tr tp (tLst ta) σ Hc (SomeAt H (m + 1)) := fun Q k => a _ fun es H1 d1 hl hw => by
  refine ⟨by rw [List.length_map, hl]; exact Nat.le_of_lt (small1000 hm), fun l nl => ?_⟩
  have sl := same_upd (o := .lst (es.map V.ref)) nl
  exact k _ _ (d1.same sl) ⟨l, es, rfl, dc.free (d1.free nl), upd_same, by omega, by omega, fun e he => (hw e he).mono (tups_same sl)⟩
theorem some_cat {tp : Addr} {tb : TE} {i : Nat} {σ : L2.St} {H Hc : Hp} {c m : Nat} {v : V} (t : Tape H tp) (dc : Taped tp H Hc) (hσ : σ[i]? = some (some v)) (hs : SomeAt H c v Hc) (hn : c + m ≤ 1000) (b : ∀ H1, Taped tp Hc H1 → Tr tp tb σ H1 (EntL tp m)) : Tr tp (tOp rCat (tVar i) tb) σ Hc (SomeAt H (c + m)) := fun Q k => ⟨v, hσ, b Hc (Taped.refl dc.2) _ fun y H2 d2 p2 => by
  obtain ⟨l, es, rfl, h2, h3, h4, h5, h6⟩ := some_stays t dc.2 d2 hs
  obtain ⟨l', es', rfl, g2, g3, g4, g5⟩ := p2
  refine ⟨l, l', _, _, rfl, rfl, h3, g3, by rw [List.length_map, List.length_map]; exact Nat.le_of_lt (small1000 (by omega)), fun p np => ?_⟩
  rw [← List.map_append]
  have sp := same_upd (o := .lst ((es ++ es').map V.ref)) np
  refine k _ _ (d2.same sp) ⟨p, es ++ es', rfl, dc.free (d2.free np), upd_same, by rw [List.length_append]; omega, by rw [List.length_append]; omega, fun e he => ?_⟩
  rcases List.mem_append.mp he with q | q
  · exact (h6 e q).mono (tups_same sp)
  · exact (g5 e q).mono (tups_same sp)⟩
end Rd

set_option Elab.async false
set_option linter.all false
set_option maxRecDepth 100000
set_option maxHeartbeats 4000000
/-! how large a thing's repr is; expressions that make things -/
namespace Rd
open PySem PySem.Spec PyProof.Rows L2 Dt
structure FX (d : PyData) (n w : Nat) : Prop where
  dep : d.depth ≤ n
  sho : d.showable = true
  sh : d.leavesShort 60 = true
  blk : d.bulk ≤ w
structure FXA (ds : List PyData) (n w : Nat) : Prop where
  dep : PyData.depthAll ds ≤ n
  sho : PyData.showableAll ds = true
  sh : PyData.leavesShortAll 60 ds = true
  blk : PyData.bulkAll ds ≤ w
theorem FX.mono {d : PyData} {n w n' w' : Nat} (h : FX d n w) (a : n ≤ n') (b : w ≤ w') : FX d n' w' := ⟨Nat.le_trans h.dep a, h.sho, h.sh, Nat.le_trans h.blk b⟩
theorem FXA.mono {ds : List PyData} {n w n' w' : Nat} (h : FXA ds n w) (a : n ≤ n') (b : w ≤ w') : FXA ds n' w' := ⟨Nat.le_trans h.dep a, h.sho, h.sh, Nat.le_trans h.blk b⟩
theorem FXA.nil (n : Nat) : FXA [] n 0 := ⟨Nat.zero_le _, rfl, rfl, Nat.le_refl _⟩
theorem FXA.cons {d : PyData} {ds : List PyData} {n w u : Nat} (h : FX d n w) (t : FXA ds n u) : FXA (d :: ds) n (w + 1 + u) := by
  refine ⟨?_, ?_, ?_, ?_⟩
  · have a := h.dep
    have b := t.dep
    simp only [PyData.depthAll]
    omega
  · simp only [PyData.showableAll, h.sho, t.sho, Bool.and_self]
  · simp only [PyData.leavesShortAll, h.sh, t.sh, Bool.and_self]
  · have a := h.blk
    have b := t.blk
    simp only [PyData.bulkAll]
    omega
theorem FX.list {ds : List PyData} {n w : Nat} (t : FXA ds n w) : FX (.list ds) (n + 1) w := by
  refine ⟨?_, by simp only [PyData.showable]; exact t.sho, by simp only [PyData.leavesShort]; exact t.sh, by simp only [PyData.bulk]; exact t.blk⟩
  have a := t.dep
  simp only [PyData.depth]
  omega
theorem FX.tuple {ds : List PyData} {n w : Nat} (t : FXA ds n w) : FX (.tuple ds) (n + 1) w := by
  refine ⟨?_, by simp only [PyData.showable]; exact t.sho, by simp only [PyData.leavesShort]; exact t.sh, by simp only [PyData.bulk]; exact t.blk⟩
  have a := t.dep
  simp only [PyData.depth]
  omega
theorem FX.list' {ds : List PyData} {n w : Nat} (t : FX (.list ds) n w) : FXA ds n w := by
  refine ⟨?_, by have := t.sho; simpa only [PyData.showable] using this, by have := t.sh; simpa only [PyData.leavesShort] using this, by have := t.blk; simpa only [PyData.bulk] using this⟩
  have a := t.dep
  simp only [PyData.depth] at a
  omega
theorem FX.tuple' {ds : List PyData} {n w : Nat} (t : FX (.tuple ds) n w) : FXA ds n w := by
  refine ⟨?_, by have := t.sho; simpa only [PyData.showable] using this, by have := t.sh; simpa only [PyData.leavesShort] using this, by have := t.blk; simpa only [PyData.bulk] using this⟩
  have a := t.dep
  simp only [PyData.depth] at a
  omega
theorem FX.tuple1 {ds : List PyData} {n w : Nat} (t : FX (.tuple ds) (n + 1) w) : FXA ds n w := by
  have z := t.tuple'
  have a := t.dep
  simp only [PyData.depth] at a
  exact ⟨by omega, z.sho, z.sh, z.blk⟩
theorem FX.list1 {ds : List PyData} {n w : Nat} (t : FX (.list ds) (n + 1) w) : FXA ds n w := by
  have z := t.list'
  have a := t.dep
  simp only [PyData.depth] at a
  exact ⟨by omega, z.sho, z.sh, z.blk⟩
theorem FXA.un {d : PyData} {ds : List PyData} {n w : Nat} (h : FXA (d :: ds) n w) : FX d n (d.bulk) ∧ FXA ds n (PyData.bulkAll ds) ∧ d.bulk + 1 + PyData.bulkAll ds ≤ w := by
  have a := h.dep
  have b := h.sho
  have c := h.sh
  have e := h.blk
  simp only [PyData.depthAll] at a
  simp only [PyData.showableAll, Bool.and_eq_true] at b
  simp only [PyData.leavesShortAll, Bool.and_eq_true] at c
  simp only [PyData.bulkAll] at e
  exact ⟨⟨by omega, b.1, c.1, Nat.le_refl _⟩, ⟨by omega, b.2, c.2, Nat.le_refl _⟩, e⟩
theorem FXA.get {n : Nat} : ∀ {ds : List PyData} {w : Nat} {i : Nat} {d : PyData}, FXA ds n w → ds[i]? = some d → FX d n w
  | d :: ds, w, 0, _, h, e => by
    cases e
    obtain ⟨a, b, c⟩ := h.un
    exact a.mono (Nat.le_refl _) (by omega)
  | d :: ds, w, i + 1, x, h, e => by
    obtain ⟨a, b, c⟩ := h.un
    exact (b.get (i := i) e).mono (Nat.le_refl _) (by omega)
theorem FXA.mem {n w : Nat} {ds : List PyData} {d : PyData} (h : FXA ds n w) (m : d ∈ ds) : FX d n w := by
  obtain ⟨i, hi⟩ := List.getElem?_of_mem m
  exact h.get hi
theorem FXA.append {n : Nat} : ∀ {ds es : List PyData} {w u : Nat}, FXA ds n w → FXA es n u → FXA (ds ++ es) n (w + u)
  | [], _, _, _, _, h => h.mono (Nat.le_refl _) (by omega)
  | d :: ds, es, w, u, h, t => by
    obtain ⟨a, b, c⟩ := h.un
    exact (FXA.cons a (b.append t)).mono (Nat.le_refl _) (by omega)
theorem FXA.take {n : Nat} : ∀ {ds : List PyData} {w : Nat} (k : Nat), FXA ds n w → FXA (ds.take k) n w
  | _, _, 0, _ => (FXA.nil n).mono (Nat.le_refl _) (Nat.zero_le _)
  | [], _, _ + 1, _ => (FXA.nil n).mono (Nat.le_refl _) (Nat.zero_le _)
  | d :: ds, w, k + 1, h => by
    obtain ⟨a, b, c⟩ := h.un
    exact (FXA.cons a (b.take k)).mono (Nat.le_refl _) (by omega)
theorem FXA.drop {n : Nat} : ∀ {ds : List PyData} {w : Nat} (k : Nat), FXA ds n w → FXA (ds.drop k) n w
  | _, _, 0, h => h
  | [], _, _ + 1, h => h
  | d :: ds, w, k + 1, h => by
    obtain ⟨a, b, c⟩ := h.un
    exact (b.drop k).mono (Nat.le_refl _) (by omega)
theorem FXA.map {α : Type} {f : α → PyData} {n w : Nat} : ∀ (l : List α), (∀ x ∈ l, FX (f x) n w) → FXA (l.map f) n (l.length * (w + 1))
  | [], _ => (FXA.nil n).mono (Nat.le_refl _) (Nat.zero_le _)
  | x :: r, h => by
    have z := FXA.cons (h x List.mem_cons_self) (FXA.map r fun y hy => h y (List.mem_cons_of_mem _ hy))
    refine z.mono (Nat.le_refl _) ?_
    rw [List.length_cons, Nat.succ_mul]
    omega
theorem FX.int {i : Int} (h : i.natAbs < 10 ^ 55) : FX (.int i) 0 0 := by
  have hl : i.natAbs.log2 ≤ 183 := by
    by_cases e : i.natAbs = 0
    · rw [e]; decide
    · have := (Nat.log2_lt e).mpr (show i.natAbs < 2 ^ 184 from Nat.lt_trans h (by decide))
      omega
  refine ⟨by simp [PyData.depth], ?_, ?_, by simp only [PyData.bulk]; exact Nat.le_refl _⟩
  · simp only [PyData.showable]
    exact decide_eq_true (by omega)
  · have e := PySem.int_text_length_le10 (k := 55) (by decide) h
    show decide ((Str.ofString (toString i)).length ≤ 60) = true
    rw [PySem.ofString_length]
    exact decide_eq_true (by omega)
theorem FX.non : FX .none 0 0 := ⟨by simp [PyData.depth], rfl, rfl, by simp [PyData.bulk]⟩
theorem FX.bl (b : Bool) : FX (.bool b) 0 0 := ⟨by simp [PyData.depth], rfl, rfl, by simp [PyData.bulk]⟩
theorem FX.str {z : Str} {w : Nat} (h : z.cps.size ≤ w) (c : ∀ x ∈ z.cps.toList, x < 1114112) : FX (.str z) 0 w :=
  ⟨by simp [PyData.depth], rfl, by
    show (z.cps.toList.all fun c => decide (c < 16 ^ 8)) = true
    rw [List.all_eq_true]
    exact fun x hx => decide_eq_true (Nat.lt_trans (c x hx) (by decide)), by simp only [PyData.bulk]; exact h⟩
theorem FX.d0 : FX (.dict []) 2 0 := ⟨by decide, by decide, by decide, by decide⟩
theorem FX.d1 : FX (.dict [(.int 0, .int 0)]) 3 2 := ⟨by decide +kernel, by decide +kernel, by decide +kernel, by decide +kernel⟩
theorem FX.d2 : FX (.dict [(.tuple [.int 0], .int 0)]) 4 3 := ⟨by decide +kernel, by decide +kernel, by decide +kernel, by decide +kernel⟩
theorem FX.shows {d : PyData} {n w : Nat} (h : FX d n w) (hw : w ≤ 200000) : d.shown.length ≤ sizeLine := by
  have a := PyData.shown_le_bulk 60 (by decide) d h.sh
  have b := h.blk
  have c : (60 + 2) * d.bulk + 60 ≤ 16000000 := by omega
  exact Nat.le_trans a (Nat.le_trans c (by decide))
theorem FX.ints {ns : List Int} (h : ∀ z ∈ ns, z.natAbs < 10 ^ 55) : FXA (ns.map .int) 0 ns.length := (FXA.map ns fun z hz => FX.int (h z hz)).mono (Nat.le_refl _) (by omega)
/-! ### expressions that make things -/
/-- te makes d, whatever stood where H0 stood -/
def TEn (Av : Addr → Prop) (te : TE) (σ : L2.St) (H0 : Hp) (d : PyData) : Prop := ∀ (H : Hp) (Q : VK), Same H0 H → (∀ H' v, Same H H' → An Av H' v d → Q v H') → te σ H Q
def TAn (Av : Addr → Prop) (t : TA) (σ : L2.St) (H0 : Hp) (ds : List PyData) : Prop := ∀ (H : Hp) (R : List V → Hp → Prop), Same H0 H → (∀ H' vs, Same H H' → AnAll Av H' vs ds → R vs H') → t σ H R
theorem Drawn.noTb {Av : Addr → Prop} {wl cl : Addr} {H H' : Hp} (D : Drawn wl cl H H') (w : Well H wl cl) (a : Av wl) (c : Av cl) : NoTb Av H H' := fun b o _ m e => by
  obtain ⟨_, _, _, h1, h2, _⟩ := w
  refine D.1 b o (fun z => m ?_) (fun z => m ?_) e
  · rw [z, h1] at e
    exact ⟨_, (Option.some.inj e).symm, by rw [z]; exact a⟩
  · rw [z, h2] at e
    exact ⟨_, (Option.some.inj e).symm, by rw [z]; exact c⟩
section
variable {Av : Addr → Prop} {σ : L2.St} {H0 : Hp} {te : TE} {t : TA} {d : PyData} {ds : List PyData}
theorem ten_int (i : Int) : TEn Av (tC (.int i)) σ H0 (.int i) := fun H Q _ q => q H _ (Same.refl H) (.int i)
theorem ten_str (z : Str) : TEn Av (tC (.str z)) σ H0 (.str z) := fun H Q _ q => q H _ (Same.refl H) (.str z)
theorem ten_bl (b : Bool) : TEn Av (tC (.bl b)) σ H0 (.bool b) := fun H Q _ q => q H _ (Same.refl H) (.bl b)
theorem ten_non : TEn Av (tC .non) σ H0 .none := fun H Q _ q => q H _ (Same.refl H) .non
theorem ten_var {i : Nat} {v : V} (e : σ[i]? = some (some v)) (a : An Av H0 v d) : TEn Av (tVar i) σ H0 d := fun H Q s q => ⟨v, e, q H v (Same.refl H) (a.up (NoTb.same s))⟩
theorem tan_nil : TAn Av tNil σ H0 [] := fun H R _ q => q H [] (Same.refl H) .nil
theorem tan_cons (a : TEn Av te σ H0 d) (b : TAn Av t σ H0 ds) : TAn Av (tCons te t) σ H0 (d :: ds) := fun H R s q => a H _ s fun H1 v s1 av => b H1 _ (s.trans s1) fun H2 vs s2 avs => q H2 (v :: vs) (s1.trans s2) (.cons (av.up (NoTb.same s2)) avs)
theorem ten_tup (b : TAn Av t σ H0 ds) (l : ds.length ≤ 1000) : TEn Av (tTup t) σ H0 (.tuple ds) := fun H Q s q => b H _ s fun H1 vs s1 avs => ⟨by rw [avs.len]; exact Nat.le_of_lt (small1000 l), fun p np => q _ _ (s1.trans (same_upd np)) (.tup upd_same (avs.up (NoTb.same (same_upd np))))⟩
theorem ten_lst (av : ∀ b, Av b → Old H0 b) (b : TAn Av t σ H0 ds) (l : ds.length ≤ 1000) : TEn Av (tLst t) σ H0 (.list ds) := fun H Q s q => b H _ s fun H1 vs s1 avs => ⟨by rw [avs.len]; exact Nat.le_of_lt (small1000 l), fun p np => q _ _ (s1.trans (same_upd np)) (.lst upd_same (fun z => av p z ((s.trans s1).free np)) (avs.up (NoTb.same (same_upd np))))⟩
theorem ten_d0 : TEn Av tDNewK σ H0 (.dict []) := fun H Q s q => fun p np => q _ _ (same_upd np) (.dct (.e upd_same))
theorem ten_d1 : TEn Av (tDisp [(tC (.int 0), tC (.int 0))]) σ H0 (.dict [(.int 0, .int 0)]) := fun H Q s q => fun p np => by
  refine ⟨upd_same, [(.inl 0, .int 0)], rfl, (by show 1 ≤ 15; decide), ?_⟩
  have e : upd (upd H p (.dK [])) p (.dK (mergeK [] [((Sum.inl 0 : Key), V.int 0)])) = upd H p (.dK [(.inl 0, .int 0)]) := upd_upd
  rw [e]
  exact q _ _ (same_upd np) (.dct (.n upd_same))
end
end Rd

set_option Elab.async false
set_option linter.all false
set_option maxRecDepth 100000
set_option maxHeartbeats 4000000
/-! numbers beside truths: less, minus -/
namespace Rd
open PySem PySem.Spec PyProof.Rows L2 Dt
def bI (b : Bool) : Int := if b = true then 1 else 0
theorem lt_bi_gives (a : Bool) (b : Int) (u : Tok) : Gives (Builtin.«int.__lt__» ⟨[.bool a, .int b u], []⟩) (.val (.bool (decide (bI a < b)))) :=
  Gives.of_wp (by
    intro _ _ _ s0 _ hq
    rcases s0 with ⟨h0, g0, d0, t0, o0⟩
    wp_walk
    exact ⟨_, rfl, hq⟩)
theorem gt_bi_gives (a : Bool) (b : Int) (u : Tok) : Gives (Builtin.«int.__gt__» ⟨[.bool a, .int b u], []⟩) (.val (.bool (decide (b < bI a)))) :=
  Gives.of_wp (by
    intro _ _ _ s0 _ hq
    rcases s0 with ⟨h0, g0, d0, t0, o0⟩
    wp_walk
    exact ⟨_, rfl, hq⟩)
section
variable {prog : Program} {w : World} {A : Around} {E : Value → Shared → Prop} {s : Shared} {Q : Value → Shared → Prop}
theorem lt_bool_int {a : Bool} {b : Int} {u : Tok} (h : Q (.bool (decide (bI a < b))) s) : wpAny (model prog w) A (compareOp .Lt (.bool a) (.int b u)) Q E s := by
  show wpAny (model prog w) A (richCompare .Lt (.bool a) (.int b u)) Q E s
  refine SeqAt.rc_left_or (Ta := "bool") (Tb := "int") (id := "int.__lt__") rfl (typeIs_int s b u) (by decide) F.sub_int_bool F.slot_bool_lt ?_ (.inl rfl)
  exact call_gives F.slot_bool_lt rfl F.entry_int_lt (F.args_int_lt_2 _ _) (lt_bi_gives a b u) ⟨nofun, h⟩
theorem lt_int_bool {a : Int} {t : Tok} {b : Bool} (h : Q (.bool (decide (a < bI b))) s) : wpAny (model prog w) A (compareOp .Lt (.int a t) (.bool b)) Q E s := by
  show wpAny (model prog w) A (richCompare .Lt (.int a t) (.bool b)) Q E s
  refine SeqAt.rc_sub_first_or (Ta := "int") (Tb := "bool") (id := "int.__gt__") (typeIs_int s a t) rfl (by decide) F.sub_bool_int F.slot_bool_gt_refl ?_ (.inl rfl)
  exact call_gives F.slot_bool_gt_refl rfl F.entry_int_gt (F.args_int_gt_2 _ _) (gt_bi_gives b a t) ⟨nofun, h⟩
end
/-- a number or a truth, as a number -/
def NumV (v : V) (i : Int) : Prop := v = .int i ∨ ∃ b, v = .bl b ∧ i = bI b
def rLtB : R2 := fun x y H Q => ∃ i j, (x = .int i ∧ NumV y j ∨ NumV x i ∧ y = .int j) ∧ Q (.bl (decide (i < j))) H
theorem op_ltB {X : Cx} : OpR X (compareOp .Lt) rLtB := by
  intro pins s σ H x y v u Q I rx ry h
  obtain ⟨i, j, h, q⟩ := h
  have both : x = .int i → y = .int j → wpAny (model X.prog X.w) X.A (compareOp .Lt v u) (EP X pins σ Q) X.xe s := fun hx hy => by
    subst hx hy
    exact op_lt pins s σ H _ _ v u Q I rx ry ⟨i, j, rfl, rfl, q⟩
  rcases h with ⟨hx, hy | ⟨b, rfl, rfl⟩⟩ | ⟨hx | ⟨b, rfl, rfl⟩, hy⟩
  · exact both hx hy
  · subst hx
    obtain ⟨t, rfl⟩ := rx
    cases (show u = Value.bool b from ry)
    exact lt_int_bool ⟨.bl _, H, I, rfl, q⟩
  · exact both hx hy
  · subst hy
    obtain ⟨t, rfl⟩ := ry
    cases (show v = Value.bool b from rx)
    exact lt_bool_int ⟨.bl _, H, I, rfl, q⟩
def rSubB : R2 := fun x y H Q => ∃ i j, NumV x i ∧ y = .int j ∧ Q (.int (i - j)) H
theorem op_subB {X : Cx} : OpR X (binaryOp .Sub) rSubB := by
  intro pins s σ H x y v u Q I rx ry h
  obtain ⟨i, j, hx | ⟨b, rfl, rfl⟩, rfl, q⟩ := h
  · subst hx
    exact op_sub pins s σ H _ _ v u Q I rx ry ⟨i, j, rfl, rfl, q⟩
  · obtain ⟨t, rfl⟩ := ry
    cases (show v = Value.bool b from rx)
    exact PySem.IntBool.sub_bool_int ⟨.int (bI b - j), H, I.tok _, ⟨_, rfl⟩, q⟩
end Rd

set_option Elab.async false
set_option linter.all false
set_option maxRecDepth 100000
set_option maxHeartbeats 4000000
/-! xs != [] of any list -/
namespace Rd
open PySem PySem.Spec PyProof.Rows L2 Dt
def rNeE (K : PySem.W.Frag) : R2 := fun x y H Q => ∃ (a b : Addr) (xs : List V), x = .ref a ∧ y = .ref b ∧ SqL K H a xs ∧ SqL K H b [] ∧ Q (.bl (!xs.isEmpty)) H
theorem op_neE {X : Cx} (hu : X.A.units + 64 < cLine) : OpR X (compareOp .NotEq) (rNeE X.K) := by
  intro pins s σ H x y v u Q I rx ry h
  obtain ⟨a, b, xs, rfl, rfl, ha, hb, q⟩ := h
  cases rx
  cases ry
  obtain ⟨its, rv, hl, _⟩ := I.list ha
  obtain ⟨its2, rv2, hl2, _⟩ := I.list hb
  have l1 := rv.length
  have l2 := rv2.length
  cases xs with
  | nil =>
    have z1 : its = [] := List.length_eq_zero_iff.mp l1.symm
    have z2 : its2 = [] := List.length_eq_zero_iff.mp l2.symm
    subst z1 z2
    refine PySem.SeqAt.RcNeAt.lists (e := fun _ => true) hl.isList hl2.isList rfl (by omega) (fun j j1 => absurd j1 (Nat.not_lt_zero j)) _ _ _ _ ⟨.bl _, H, I, rfl, q⟩
  | cons z r =>
    refine PySem.SeqAt.RcNeAt.lists_lengths hl.isList hl2.isList ?_ (by omega) _ _ _ _ ⟨.bl _, H, I, rfl, q⟩
    rw [List.size_toArray, List.size_toArray, ← l1, ← l2]
    rfl
end Rd

set_option Elab.async false
set_option linter.all false
set_option maxRecDepth 100000
set_option maxHeartbeats 4000000
/-! xs == [] of any list -/
namespace Rd
open PySem PySem.Spec PyProof.Rows L2 Dt
def rEqE (K : PySem.W.Frag) : R2 := fun x y H Q => ∃ (a b : Addr) (xs : List V), x = .ref a ∧ y = .ref b ∧ SqL K H a xs ∧ SqL K H b [] ∧ Q (.bl xs.isEmpty) H
theorem op_eqE {X : Cx} (hu : X.A.units + 64 < cLine) : OpR X (compareOp .Eq) (rEqE X.K) := by
  intro pins s σ H x y v u Q I rx ry h
  obtain ⟨a, b, xs, rfl, rfl, ha, hb, q⟩ := h
  cases rx
  cases ry
  obtain ⟨its, rv, hl, _⟩ := I.list ha
  obtain ⟨its2, rv2, hl2, _⟩ := I.list hb
  have l1 := rv.length
  have l2 := rv2.length
  cases xs with
  | nil =>
    have z1 : its = [] := List.length_eq_zero_iff.mp l1.symm
    have z2 : its2 = [] := List.length_eq_zero_iff.mp l2.symm
    subst z1 z2
    refine PySem.SeqAt.RcAt.lists (e := fun _ => true) hl.isList hl2.isList rfl (by omega) (fun j j1 => absurd j1 (Nat.not_lt_zero j)) _ _ _ _ ⟨.bl _, H, I, rfl, q⟩
  | cons z r =>
    refine PySem.SeqAt.RcAt.lists_lengths hl.isList hl2.isList ?_ (by omega) _ _ _ _ ⟨.bl _, H, I, rfl, q⟩
    rw [List.size_toArray, List.size_toArray, ← l1, ← l2]
    rfl
end Rd

set_option Elab.async false
set_option linter.all false
set_option maxRecDepth 100000
set_option maxHeartbeats 4000000
/-! xs == () and xs != () of any tuple -/
namespace Rd
open PySem PySem.Spec PyProof.Rows L2 Dt
def rEqT0 (K : PySem.W.Frag) : R2 := fun x y H Q => ∃ (a b : Addr) (xs : List V), x = .ref a ∧ y = .ref b ∧ SqT K H a xs ∧ SqT K H b [] ∧ Q (.bl xs.isEmpty) H
def rNeT0 (K : PySem.W.Frag) : R2 := fun x y H Q => ∃ (a b : Addr) (xs : List V), x = .ref a ∧ y = .ref b ∧ SqT K H a xs ∧ SqT K H b [] ∧ Q (.bl (!xs.isEmpty)) H
theorem size0 {xs : List V} {its its2 : List Value} (l1 : xs.length = its.length) (l2 : ([] : List V).length = its2.length) : ((List.range (min its.toArray.size its2.toArray.size)).all (fun _ => true) && its.toArray.size == its2.toArray.size) = xs.isEmpty := by
  have z2 : its2 = [] := List.length_eq_zero_iff.mp l2.symm
  subst z2
  rw [List.size_toArray, List.size_toArray, ← l1]
  cases xs <;> simp
theorem op_eqT0 {X : Cx} (hu : X.A.units + 64 < cLine) : OpR X (compareOp .Eq) (rEqT0 X.K) := by
  intro pins s σ H x y v u Q I rx ry h
  obtain ⟨a, b, xs, rfl, rfl, ha, hb, q⟩ := h
  cases rx
  cases ry
  obtain ⟨its, rv, hl, _⟩ := I.tuple ha
  obtain ⟨its2, rv2, hl2, _⟩ := I.tuple hb
  have e := size0 rv.length rv2.length
  have z := PySem.SeqAt.RcAt.tuples (A := X.A) (s := s) (e := fun _ => true) hl hl2 (by omega) (fun j _ j2 => absurd (show j < 0 by have := rv2.length; rw [List.size_toArray, ← this] at j2; exact j2) (Nat.not_lt_zero j))
  rw [e] at z
  exact z _ _ _ _ ⟨.bl _, H, I, rfl, q⟩
theorem op_neT0 {X : Cx} (hu : X.A.units + 64 < cLine) : OpR X (compareOp .NotEq) (rNeT0 X.K) := by
  intro pins s σ H x y v u Q I rx ry h
  obtain ⟨a, b, xs, rfl, rfl, ha, hb, q⟩ := h
  cases rx
  cases ry
  obtain ⟨its, rv, hl, _⟩ := I.tuple ha
  obtain ⟨its2, rv2, hl2, _⟩ := I.tuple hb
  have e := size0 rv.length rv2.length
  have z := PySem.SeqAt.RcNeAt.tuples (A := X.A) (s := s) (e := fun _ => true) hl hl2 (by omega) (fun j _ j2 => absurd (show j < 0 by have := rv2.length; rw [List.size_toArray, ← this] at j2; exact j2) (Nat.not_lt_zero j))
  rw [e] at z
  exact z _ _ _ _ ⟨.bl _, H, I, rfl, q⟩
end Rd

set_option Elab.async false
set_option linter.all false
set_option maxRecDepth 100000
set_option maxHeartbeats 4000000
/-! t[::-1] of any tuple -/
namespace Rd
open PySem PySem.Spec PyProof.Rows L2 Dt
section
variable {prog : Program} {w : World} {A : Around} {E : Value → Shared → Prop} {s : Shared}
theorem adjust_rev (n : Nat) : Builtin.Slice.sliceAdjust none none (-1) (n : Int) = ((n : Int) - 1, -1) := rfl
theorem places_rev (n : Nat) : Builtin.Slice.slicePlaces ((n : Int) - 1) (-1) (-1) = n := by
  unfold Builtin.Slice.slicePlaces
  have h1 : ¬ (-1 : Int) > 0 := by omega
  simp only [h1, if_false]
  have e : ((n : Int) - 1 - -1 - 1) / (- -1) + 1 = (n : Int) := by
    rw [show (- -1 : Int) = 1 by decide, Int.ediv_one]
    omega
  split
  · rw [e, Int.toNat_natCast]
  · omega
theorem sliceApplied_rev {sl : Addr} {n : Nat} {vs : Value} {Q : Int × Int × Nat → Shared → Prop} (hs : s.heap.IsSliceOf sl .none .none vs) (ps : IsPart vs (some (-1))) (h : Q ((n : Int) - 1, -1, n) s) : wpAny (model prog w) A (Builtin.Slice.sliceApplied (.ref sl) (pure (n : Int))) Q E s := by
  obtain ⟨os, hos, hcs, hds⟩ := id hs
  unfold Builtin.Slice.sliceApplied Builtin.Slice.sliceFields
  refine wpAny_bind (wpAny_bind (wpAny_field hos hds (x := .none) rfl (wpAny_bind (wpAny_field hos hds (x := .none) rfl (wpAny_bind (wpAny_field hos hds (x := vs) rfl (wpAny_pure ?_)))))))
  refine wpAny_bind (HT.slicePart_ ps ?_)
  show wpAny _ _ (if ((-1 : Int) == 0) = true then _ else _) _ _ s
  rw [if_neg (by decide)]
  refine wpAny_bind (HT.slicePart_ .none (wpAny_bind (HT.slicePart_ .none (wpAny_bind (wpAny_pure ?_)))))
  show wpAny _ _ (match Builtin.Slice.sliceAdjust none none (-1) (n : Int) with | (lo, hi) => pure (lo, (-1 : Int), Builtin.Slice.slicePlaces lo hi (-1))) _ _ s
  rw [adjust_rev n]
  show wpAny _ _ (pure ((n : Int) - 1, (-1 : Int), Builtin.Slice.slicePlaces ((n : Int) - 1) (-1) (-1))) _ _ s
  rw [places_rev]
  exact wpAny_pure h
theorem pick_rev (xs : Array Value) : ((List.range xs.size).filterMap fun (m : Nat) => xs[((xs.size : Int) - 1 + (m : Int) * (-1)).toNat]?).toArray = xs.toList.reverse.toArray := by
  have e : (List.range xs.size).filterMap (fun (m : Nat) => xs[((xs.size : Int) - 1 + (m : Int) * (-1)).toNat]?) = ((List.range xs.size).map (fun k => xs.size - 1 - k)).filterMap (xs[·]?) := by
    rw [List.filterMap_map]
    refine congrArg (fun g => (List.range xs.size).filterMap g) (funext fun m => ?_)
    have : ((xs.size : Int) - 1 + (m : Int) * (-1)).toNat = xs.size - 1 - m := by omega
    rw [this]
    rfl
  rw [e, PySem.W.krv_range, List.filterMap_reverse, PySem.W.krv_all]
theorem getItem_tuple_rev {t sl : Addr} {items : Array Value} {vs : Value} {Q : Value → Shared → Prop} (ht : IsTup s.heap t items) (hs : s.heap.IsSliceOf sl .none .none vs) (ps : IsPart vs (some (-1)))
    (h : Q (.ref s.heap.objs.size) { s with heap := s.heap.push { cls := .type "tuple", data := .seq items.toList.reverse.toArray } }) (hsz : items.size ≤ sizeLine) : wpAny (model prog w) A (getItem (.ref t) (.ref sl)) Q E s := by
  have htake : sizeOk (.seq items.toList.reverse.toArray) := by
    show items.toList.reverse.toArray.size ≤ sizeLine
    rw [List.size_toArray, List.length_reverse, Array.length_toList]
    exact hsz
  obtain ⟨os, hos, hcs, hds⟩ := id hs
  have hTs : s.TypeIs (.ref sl) "slice" := ⟨os, hos, hcs⟩
  unfold getItem
  try with_reducible refine wpAny_holding ?_
  first | refine wpAny_bind (wpAny_pure ?_) | skip
  refine wpAny_bind (wpAny_sequenceKey ht.typeIs (by decide) ?_)
  refine wpAny_bind (wpAny_callSpecial?_slot (name := Str.ofString "__getitem__") ht.typeIs PyProof.Rows.slot_tuple_getitem
    (wpAny_call_entry PyProof.Rows.slot_tuple_getitem ht.typeIs entry_tuple_getitem ?_ (args_tuple_getitem _ _)))
  show wpAny _ _ (Builtin.Tuple.tupleItemsOf (.ref t) >>= _) _ _ s
  refine wpAny_bind (tupleItemsOf_ ht ?_)
  refine wpAny_bind (wpAny_typeOf hTs ?_)
  rw [if_pos (by decide)]
  refine wpAny_bind (sliceApplied_rev hs ps ?_)
  have hno : ¬ ((((items.size : Int) - 1) == 0 && (-1 : Int) == 1 && items.size == items.size) = true) := by
    intro q
    rw [Bool.and_eq_true, Bool.and_eq_true] at q
    exact absurd q.1.2 (by decide)
  show wpAny _ _ (if (((items.size : Int) - 1) == 0 && (-1 : Int) == 1 && items.size == items.size) = true then _ else _) _ _ s
  rw [if_neg hno, pick_rev]
  first
    | exact wpAny_bind (m := Builtin.Tuple.tupleExact _) (wpAny_newObj_type (wpAny_pure ⟨_, rfl, wpAny_pure h⟩) htake)
    | exact wpAny_bind (m := Builtin.Tuple.tupleExact _) (wpAny_newObj_type (wpAny_bind (wpAny_pure (wpAny_pure ⟨_, rfl, wpAny_pure h⟩))) htake)
    | exact wpAny_bind (wpAny_bind (m := Builtin.Tuple.tupleExact _) (wpAny_newObj_type (wpAny_pure (wpAny_pure ⟨_, rfl, wpAny_pure h⟩)) htake))
    | exact wpAny_bind (wpAny_bind (m := Builtin.Tuple.tupleExact _) (wpAny_newObj_type (wpAny_pure ⟨_, rfl, wpAny_pure h⟩) htake))
end
def tRevT (K : PySem.W.Frag) (te : TE) : TE := fun σ H Q => te σ H fun x H1 => ∃ a xs, x = .ref a ∧ SqT K H1 a xs ∧ ∀ p, H1 p = none → Q (.ref p) (upd H1 p (.tup xs.reverse))
theorem pe_revT {X : Cx} {e : Expr} {te : TE} {k : Nat} {p1 p2 p3 pos : Pos} (he : PE X e te) : PE X (.Subscript e (.Slice none none (some (.UnaryOp .USub (.Constant (.int 1) k p1) p2)) p3) pos) (tRevT X.K te) := by
  refine ⟨fun pins s σ H Q I h => ?_⟩
  refine Subscript_ (thn (he.run pins s σ H _ I h) fun v s1 ⟨x, H1, I1, r1, q1⟩ => ?_)
  obtain ⟨a, xs, ex, hx, q⟩ := q1
  subst ex
  cases r1
  have hst : PO X (some (.UnaryOp .USub (.Constant (.int 1) k p1) p2)) (tPart (tUn (rU fun i => .int (-i)) (tC (.int 1)))) := po_some (pe_un un_neg pe_int)
  refine wpAny_Slice (thn (po_none.run pins s1 σ H1 (fun o H2 => o = none ∧ H2 = H1) I1 ⟨rfl, rfl⟩) fun vl s2 ⟨l, H2, I2, pl, el, e2⟩ => ?_)
  subst el e2
  refine thn (po_none.run pins s2 σ H2 (fun o H3 => o = none ∧ H3 = H2) I2 ⟨rfl, rfl⟩) fun vu s3 ⟨u, H3, I3, pu, eu, e3⟩ => ?_
  subst eu e3
  refine thn (hst.run pins s3 σ H3 (fun o H4 => o = some (-1) ∧ H4 = H3) I3 ⟨1, rfl, -1, rfl, rfl, rfl⟩) fun vs s4 ⟨o, H4, I4, ps, eo, e4⟩ => ?_
  subst eo e4
  have I5 : Inv X pins σ H4 { s4 with heap := s4.heap.push { cls := .type "slice", data := .fields #[vl, vu, vs] } } := I4.kept (t' := s4.toks) fun b ob q => Heap.get?_push_of_some _ q
  obtain ⟨its, r, ht, hz⟩ := I5.tuple hx
  have hlen := r.length
  cases pl
  cases pu
  show wpAny (model X.prog X.w) X.A (subscriptTail e (.Slice none none (some (.UnaryOp .USub (.Constant (.int 1) k p1) p2)) p3) (.ref a) (.ref s4.heap.objs.size)) (EP X pins σ Q) X.xe { s4 with heap := s4.heap.push { cls := .type "slice", data := .fields #[.none, .none, vs] } }
  refine tail_any (ops := [.ref a, .ref s4.heap.objs.size]) ht.typeIs (PyProof.Rows.slot_tuple_getitem.lookup) ?_ (by with_unfolding_all rfl)
  refine getItem_tuple_rev ht (Heap.IsSliceOf.new _ .none .none vs) ps ?_ (by rw [List.size_toArray]; omega)
  refine ⟨.ref _, _, I5.laid (t' := s4.toks) (o := .tup xs.reverse) (fun b ob q => Heap.get?_push_of_some _ q) (Nat.le_refl _) ?_, rfl, q _ (I5.hok.fresh (Nat.le_refl _))⟩
  exact ⟨by rw [List.length_reverse]; exact hz, _, r.reverse, IsTup.new _ _⟩
end Rd

set_option Elab.async false
set_option linter.all false
set_option maxRecDepth 100000
set_option maxHeartbeats 4000000
/-! expressions that make things, drawn: what is told is known by a predicate alone -/
namespace Rd
open PySem PySem.Spec PyProof.Rows L2 Dt
structure Wat (Av : Addr → Prop) (wl cl : Addr) (H : Hp) : Prop where
  w : Well H wl cl
  av : ∀ b, Av b → Old H b
  aw : Av wl
  ac : Av cl
theorem Wat.dr {Av : Addr → Prop} {wl cl : Addr} {H H' : Hp} (W : Wat Av wl cl H) (D : Drawn wl cl H H') : Wat Av wl cl H' := ⟨D.2, fun b hb z => W.av b hb (D.free W.w z), W.aw, W.ac⟩
theorem Wat.same {Av : Addr → Prop} {wl cl : Addr} {H H' : Hp} (W : Wat Av wl cl H) (s : Same H H') : Wat Av wl cl H' := W.dr ((Drawn.refl W.w).same s)
theorem Wat.noTb {Av : Addr → Prop} {wl cl : Addr} {H H' : Hp} (W : Wat Av wl cl H) (D : Drawn wl cl H H') : NoTb Av H H' := D.noTb W.w W.aw W.ac
theorem Wat.ne {Av : Addr → Prop} {wl cl : Addr} {H : Hp} (W : Wat Av wl cl H) {b : Addr} (n : ¬ Av b) : b ≠ wl ∧ b ≠ cl := ⟨fun z => n (by rw [z]; exact W.aw), fun z => n (by rw [z]; exact W.ac)⟩
theorem Drawn.of {wl cl : Addr} {H H' : Hp} (w : Well H wl cl) (s : Same H H') : Drawn wl cl H H' := (Drawn.refl w).same s
def TEp (Av : Addr → Prop) (wl cl : Addr) (te : TE) (σ : L2.St) (H0 : Hp) (P : PyData → Prop) : Prop := ∀ (H : Hp) (Q : VK), Drawn wl cl H0 H → (∀ H' v d, Drawn wl cl H H' → An Av H' v d → P d → Q v H') → te σ H Q
def TAp (Av : Addr → Prop) (wl cl : Addr) (t : TA) (σ : L2.St) (H0 : Hp) (n : Nat) (P : PyData → Prop) : Prop := ∀ (H : Hp) (R : List V → Hp → Prop), Drawn wl cl H0 H → (∀ H' vs ds, Drawn wl cl H H' → AnAll Av H' vs ds → ds.length = n → (∀ d ∈ ds, P d) → R vs H') → t σ H R
/-- a list of so many, each of them so -/
def IsL (n : Nat) (P : PyData → Prop) (d : PyData) : Prop := ∃ ds, d = .list ds ∧ ds.length = n ∧ ∀ x ∈ ds, P x
section
variable {Av : Addr → Prop} {wl cl : Addr} {σ : L2.St} {H0 : Hp} {te tb : TE} {t : TA} {d : PyData} {P P' : PyData → Prop} {n m : Nat}
theorem TEp.mono (a : TEp Av wl cl te σ H0 P) (f : ∀ d, P d → P' d) : TEp Av wl cl te σ H0 P' := fun H Q D q => a H Q D fun H' v d D' an p => q H' v d D' an (f d p)
theorem tep_c {v : V} (W : Wat Av wl cl H0) (a : ∀ H, An Av H v d) (p : P d) : TEp Av wl cl (tC v) σ H0 P := fun H Q D q => q H v d (Drawn.refl (W.dr D).w) (a H) p
theorem tep_int {i : Int} (W : Wat Av wl cl H0) (p : P (.int i)) : TEp Av wl cl (tC (.int i)) σ H0 P := tep_c W (fun _ => .int i) p
theorem tep_str {z : Str} (W : Wat Av wl cl H0) (p : P (.str z)) : TEp Av wl cl (tC (.str z)) σ H0 P := tep_c W (fun _ => .str z) p
theorem tep_bl {b : Bool} (W : Wat Av wl cl H0) (p : P (.bool b)) : TEp Av wl cl (tC (.bl b)) σ H0 P := tep_c W (fun _ => .bl b) p
theorem tep_non (W : Wat Av wl cl H0) (p : P .none) : TEp Av wl cl (tC .non) σ H0 P := tep_c W (fun _ => .non) p
theorem tep_var {i : Nat} {v : V} (W : Wat Av wl cl H0) (e : σ[i]? = some (some v)) (a : An Av H0 v d) (p : P d) : TEp Av wl cl (tVar i) σ H0 P := fun H Q D q => ⟨v, e, q H v d (Drawn.refl (W.dr D).w) (a.up (W.noTb D)) p⟩
theorem tap_nil (W : Wat Av wl cl H0) : TAp Av wl cl tNil σ H0 0 P := fun H R D q => q H [] [] (Drawn.refl (W.dr D).w) .nil rfl (fun _ z => nomatch z)
theorem tap_cons (W : Wat Av wl cl H0) (a : TEp Av wl cl te σ H0 P) (b : TAp Av wl cl t σ H0 n P) : TAp Av wl cl (tCons te t) σ H0 (n + 1) P := fun H R D q => a H _ D fun H1 v d D1 an p => b H1 _ (D.trans D1) fun H2 vs ds D2 as l ps => q H2 (v :: vs) (d :: ds) (D1.trans D2) (.cons (an.up ((W.dr (D.trans D1)).noTb D2)) as) (by rw [List.length_cons, l]) fun x hx => by
  rcases List.mem_cons.mp hx with z | z
  · rw [z]; exact p
  · exact ps x z
theorem tep_tup (W : Wat Av wl cl H0) (b : TAp Av wl cl t σ H0 n P) (l : n ≤ 1000) (f : ∀ ds, ds.length = n → (∀ x ∈ ds, P x) → P' (.tuple ds)) : TEp Av wl cl (tTup t) σ H0 P' := fun H Q D q => b H _ D fun H1 vs ds D1 as e ps => ⟨by rw [as.len, e]; exact Nat.le_of_lt (small1000 l), fun p np => q _ _ (.tuple ds) (D1.same (same_upd np)) (.tup upd_same (as.up (NoTb.same (same_upd np)))) (f ds e ps)⟩
theorem tep_lst (W : Wat Av wl cl H0) (b : TAp Av wl cl t σ H0 n P) (l : n ≤ 1000) : TEp Av wl cl (tLst t) σ H0 (IsL n P) := fun H Q D q => b H _ D fun H1 vs ds D1 as e ps => ⟨by rw [as.len, e]; exact Nat.le_of_lt (small1000 l), fun p np => q _ _ (.list ds) (D1.same (same_upd np)) (.lst upd_same (fun z => (W.dr (D.trans D1)).av p z np) (as.up (NoTb.same (same_upd np)))) ⟨ds, rfl, e, ps⟩⟩
theorem tep_d0 (W : Wat Av wl cl H0) (p : P (.dict [])) : TEp Av wl cl tDNewK σ H0 P := fun H Q D q => fun _ np => q _ _ _ (Drawn.of (W.dr D).w (same_upd np)) (.dct (.e upd_same)) p
theorem tep_d1 (W : Wat Av wl cl H0) (p : P (.dict [(.int 0, .int 0)])) : TEp Av wl cl (tDisp [(tC (.int 0), tC (.int 0))]) σ H0 P := fun H Q D q => ten_d1 (H0 := H) H _ (Same.refl H) fun H' v s an => q H' v _ (Drawn.of (W.dr D).w s) an p
/-- list(t), t a tuple -/
theorem tep_listOf {K : PySem.W.Frag} {i : Nat} {a : Addr} {ds : List PyData} (W : Wat Av wl cl H0) (e : σ[i]? = some (some (.ref a))) (an : An Av H0 (.ref a) (.tuple ds)) (p : P (.list ds)) : TEp Av wl cl (tCB (rListO K) (tCons (tVar i) tNil)) σ H0 P := fun H Q D q => by
  have an2 := an.up (W.noTb D)
  cases an2 with
  | dct l => cases l
  | @tup _ xs _ ha al => exact ⟨.ref a, e, a, xs, rfl, .inr (.inl (.inl ha)), fun l nl => q _ _ _ (Drawn.of (W.dr D).w (same_upd nl)) (.lst upd_same (fun z => (W.dr D).av l z nl) (al.up (NoTb.same (same_upd nl)))) p⟩
theorem tep_cat (W : Wat Av wl cl H0) (a : TEp Av wl cl te σ H0 (IsL n P)) (b : TEp Av wl cl tb σ H0 (IsL m P)) (l : n + m ≤ 1000) : TEp Av wl cl (tOp rCat te tb) σ H0 (IsL (n + m) P) := fun H Q D q => by
  refine a H _ D fun H1 v d D1 an p => b H1 _ (D.trans D1) fun H2 u e D2 bn r => ?_
  have W1 := W.dr (D.trans D1)
  have W2 := W1.dr D2
  obtain ⟨ds, rfl, dl, dp⟩ := p
  obtain ⟨es, rfl, el, ep⟩ := r
  have an := an.up (W1.noTb D2)
  cases an with
  | dct l => cases l
  | @lst x xs _ hx _ ax =>
    cases bn with
    | dct l => cases l
    | @lst y ys _ hy _ ay =>
      refine ⟨x, y, xs, ys, rfl, rfl, hx, hy, by rw [ax.len, ay.len, dl, el]; exact Nat.le_of_lt (small1000 l), fun p np => ?_⟩
      exact q _ _ (.list (ds ++ es)) ((D1.trans D2).same (same_upd np)) (.lst upd_same (fun z => W2.av p z np) ((ax.append ay).up (NoTb.same (same_upd np)))) ⟨_, rfl, by rw [List.length_append, dl, el], fun z hz => (List.mem_append.mp hz).elim (dp z) (ep z)⟩
theorem TEp.run {Q : VK} (a : TEp Av wl cl te σ H0 P) (W : Well H0 wl cl) (q : ∀ H' v d, Drawn wl cl H0 H' → An Av H' v d → P d → Q v H') : te σ H0 Q := a H0 Q (Drawn.refl W) q
end
/-- data of a wish, of a riddle -/
theorem an_row {Av : Addr → Prop} {H : Hp} {r : Addr} {row : Dt.Row} (h : IsRow H r row) : An Av H (.ref r) (rowD row) := .tup h (AnAll.ints row)
theorem an_rowsT {Av : Addr → Prop} {H : Hp} : ∀ {rs : List Addr} {rows : List Dt.Row}, Paired (IsRow H) rs rows → AnAll Av H (rs.map V.ref) (rows.map rowD)
  | _, _, .nil => .nil
  | _, _, .cons h t => .cons (an_row h) (an_rowsT t)
theorem an_wishD {Av : Addr → Prop} {H : Hp} {wa : Addr} {wd : WD} (h : IsWish H wa wd) : An Av H (.ref wa) (wishD wd) := by
  obtain ⟨pa, ra, rs, h1, h2, h3, h4⟩ := h
  exact .tup h1 (.cons (.tup h2 (AnAll.ints _)) (.cons (.tup h3 (an_rowsT h4)) .nil))
theorem an_wishesD {Av : Addr → Prop} {H : Hp} : ∀ {ws : List Addr} {wds : List WD}, Paired (IsWish H) ws wds → AnAll Av H (ws.map V.ref) (wds.map wishD)
  | _, _, .nil => .nil
  | _, _, .cons h t => .cons (an_wishD h) (an_wishesD t)
theorem an_ridD {Av : Addr → Prop} {H : Hp} {ri : Addr} {many hues : Int} {wds : List WD} (h : IsRid H ri many hues wds) : An Av H (.ref ri) (ridD many hues wds) := by
  obtain ⟨wt, ws, h1, h2, h3⟩ := h
  exact .tup h1 (.cons (.int _) (.cons (.int _) (.cons (.tup h2 (an_wishesD h3)) .nil)))
theorem fx_row {r : Dt.Row} (l : r.length ≤ 3) (h : ∀ z ∈ r, 0 ≤ z ∧ z ≤ 100) : FX (rowD r) 1 3 := (FX.tuple (FX.ints fun z hz => by have := h z hz; omega)).mono (Nat.le_refl _) l
theorem fx_wish {many hues : Int} {wd : WD} (m6 : many ≤ 6) (h4 : hues ≤ 4) (g : Good many hues wd) : FX (wishD wd) 3 270 := by
  have g3 := g.three
  have g64 := g.few
  have a := fx_row g3 fun z hz => by have := g.pl z hz; omega
  have b : FXA (wd.2.map rowD) 1 (wd.2.length * 4) := FXA.map wd.2 fun r hr => fx_row (by rw [(g.row r hr).1]; exact g3) fun z hz => by have := (g.row r hr).2 z hz; omega
  exact (FX.tuple (FXA.cons (a.mono (by decide) (Nat.le_refl _)) (FXA.cons (FX.tuple b) (FXA.nil 2)))).mono (by decide) (by omega)
theorem fx_rid {many hues : Int} {wds : List WD} (g : GoodR many hues wds) : FX (ridD many hues wds) 5 2200 := by
  have m1 := g.m1
  have m6 := g.m6
  have h2 := g.h2
  have h4 := g.h4
  have e8 := g.eight
  have b : FXA (wds.map wishD) 3 (wds.length * 271) := FXA.map wds fun wd hw => fx_wish m6 h4 (g.each wd hw)
  exact (FX.tuple (FXA.cons ((FX.int (i := many) (by omega)).mono (by decide) (Nat.le_refl _)) (FXA.cons ((FX.int (i := hues) (by omega)).mono (by decide) (Nat.le_refl _)) (FXA.cons (FX.tuple b) (FXA.nil 4))))).mono (by decide) (by omega)
end Rd

set_option Elab.async false
set_option linter.all false
set_option maxRecDepth 100000
set_option maxHeartbeats 4000000
namespace Rd
open PySem PySem.Spec PyProof.Rows L2 Dt
def topS (i : Nat) : Stmt := PySem.Challenge.pw_redraw_k01_what_is_a_riddle.main.body.getD i (.Pass ⟨0, 0, 0, 0⟩)
abbrev sWell : Stmt := topS 17
abbrev nWell : List Str := ["script", "seed", "cell"]
theorem scWell : FnScope nWell ["script"] (defScope sWell) := ⟨rfl, rfl, rfl, by decide +kernel, rfl, by decide +kernel, by decide +kernel⟩
abbrev sDraw : Stmt := topS 18
abbrev nDraw : List Str := ["well", "many", "cell", "found"]
theorem scDraw : FnScope nDraw ["well", "many"] (defScope sDraw) := ⟨rfl, rfl, rfl, by decide +kernel, rfl, by decide +kernel, by decide +kernel⟩
def spWell (K : PySem.W.Frag) : Sp := fun vs H Q _ => ∃ (a : Addr) (ns : List Int), vs = [.ref a] ∧ SqL K H a (ns.map V.int) ∧ ns.length ≤ 63 ∧ (∀ z ∈ ns, Builtin.Int.intBits z ≤ 1048576) ∧
  ∀ H' wl cl, Same H H' → H wl = none → H cl = none → Well H' wl cl → Q (.ref wl) H'
def spDraw : Sp := fun vs H Q _ => ∃ (wl cl : Addr) (m : Int), vs = [.ref wl, .int m] ∧ Well H wl cl ∧ 1 ≤ m ∧ m.natAbs.log2 < 9000 ∧
  ∀ H' d, Drawn wl cl H H' → 0 ≤ d → d < m → Q (.int d) H'
def spLfi : Sp := fun vs H Q _ => ∃ (ri : Addr) (zs : List V) (many hues : Int), vs = [.ref ri] ∧ H ri = some (.tup (.int many :: .int hues :: zs)) ∧ 0 ≤ many ∧ many ≤ 6 ∧ 0 ≤ hues ∧ hues ≤ 4 ∧
  ∀ H' l, Same H H' → H l = none → IsFills H' l (fillL hues.toNat many.toNat) → Q (.ref l) H'
structure TxtFi (P : Program) (w : World) (K : PySem.W.Frag) (mg : Str → Option Value) (base : Heap) : Prop where
  m_range : mg "range" = none
  m_len : mg "len" = none
section
variable {P : Program} {w : World} {K : PySem.W.Frag} {mg : Str → Option Value} {base : Heap}
theorem ok_well {f : Addr} {fd : FuncData} {k : Nat} (F : Fun K "_law_well" "_law_well" sWell f fd) (mabs : mg "abs" = none) : FnOk P w K mg base CX0 (k + 1) f fd ["script"] (spWell K) := by
  refine F.ok scWell (fun vs H Q E h => ?_) (fun cdv A outer s H vs Q E hr h => ?_)
  · obtain ⟨a, ns, rfl, _⟩ := h
    rfl
  · obtain ⟨a, ns, rfl, hS, hlen, hbits, q⟩ := h
    refine ⟨_, pss_cons (ps_set (i := 1) scWell.nd rfl (.inl rfl) pe_int)
      (pss_cons (ps_for PassesOwn.never rfl (pi_list (pv 0)) (pg_name (i := 2) scWell.nd rfl (.inl rfl))
        (pss_one (ps_set (i := 1) scWell.nd rfl (.inl rfl) (pe_op op_add (pe_op op_mod (pe_op op_powW (pe_op op_add (pe_op op_mul (pv 1) pe_int) (pv 2)) pe_int) pe_int) pe_int))))
      (pss_one (ps_ret (pe_lst (pa_cons (pe_lc (own := [("cell", 2)]) (g := gName 2) (tt := tYes) rfl scWell.nd (pi_list (pv 0)) (blkOk_by (own := [("cell", 2)]) (N := nWell) (sc := defScope sWell) (by decide +kernel))
          (fun _ _ _ _ _ => pg_name (i := 2) scWell.nd rfl (Or.inl rfl)) (fun _ _ _ _ _ => pts_nil) (fun _ _ _ _ _ => pe_callB call_abs (by rfl) mabs (by decide +kernel) (pa_cons (pv 2) pa_nil)))
        (pa_cons pe_int (pa_cons (pv 1) pa_nil))))))), ?_⟩
    refine ⟨.ref a, rfl, a, rfl, ⟨_, hS⟩, for_list (xs := ns.map V.int) (fun i σ H' => ∃ y2 sd, σ = [some (.ref a), some (.int sd), y2] ∧ 0 ≤ sd ∧ sd ≤ 2147483629 ∧ H' = H) ⟨none, 1, rfl, by decide, by decide, rfl⟩ (fun i σ H' _ p => ?_) (fun i x σ H' hx p => ?_) (fun σ H' p => ?_)⟩
    · obtain ⟨_, _, _, _, _, rfl⟩ := p
      exact hS
    · obtain ⟨y2, sd, rfl, h0, h1, rfl⟩ := p
      rw [List.getElem?_map] at hx
      obtain ⟨z, hz, rfl⟩ : ∃ z, ns[i]? = some z ∧ V.int z = x := by
        cases e : ns[i]? with
        | none => rw [e] at hx; cases hx
        | some z => rw [e] at hx; exact ⟨z, rfl, Option.some.inj hx⟩
      have hb := hbits z (List.mem_of_getElem? hz)
      have hm := mix_bits h0 h1 hb (by decide)
      refine ⟨_, rfl, sd, 50021, rfl, rfl, .inl ⟨by omega, by omega⟩, _, rfl, _, _, rfl, rfl, _, _, rfl, rfl, ⟨by decide, by omega⟩, _, _, rfl, rfl, (by show (0 : Int) < 2147483629; decide), _, _, rfl, rfl, ?_⟩
      have g1 := Int.emod_nonneg ((sd * 50021 + z) ^ (3 : Int).toNat) (by decide : (2147483629 : Int) ≠ 0)
      have g2 := Int.emod_lt_of_pos ((sd * 50021 + z) ^ (3 : Int).toNat) (by decide : (0 : Int) < 2147483629)
      exact ⟨_, _, rfl, by omega, by omega, rfl⟩
    · obtain ⟨y2, sd, rfl, h0, h1, rfl⟩ := p
      refine ⟨.ref a, rfl, a, rfl, ⟨_, hS⟩, fun D hD => lc_list (K := K) (a := a) (xs := ns.map V.int) (fun i H1 => H1 D = some (.lst (((ns.take i).map fun z => if z < 0 then -z else z).map V.int)) ∧ Same H' H1 ∧ ∀ b, b ≠ D → H1 b = H' b) ⟨upd_same, same_upd hD, fun b hb => upd_ne hb⟩ (fun i H1 _ p => p.2.1.seq hS) (fun i x H1 hx p => ?_) (fun H1 p => ?_)⟩
      · rw [List.getElem?_map] at hx
        obtain ⟨z, hz, rfl⟩ : ∃ z, ns[i]? = some z ∧ V.int z = x := by
          cases e : ns[i]? with
          | none => rw [e] at hx; cases hx
          | some z => rw [e] at hx; exact ⟨z, rfl, Option.some.inj hx⟩
        refine ⟨rfl, ?_⟩
        dsimp only [tYes]
        rw [if_pos rfl]
        refine ⟨.int z, rfl, z, rfl, _, p.1, ?_, ?_, ?_, ?_⟩
        · rw [List.length_map, List.length_map, List.length_take]
          exact small1000 (by omega)
        · rw [upd_same, List.take_add_one, hz, List.map_append, List.map_append]
          rfl
        · intro b o e
          rw [upd_ne (ne_of_none e hD)]
          exact p.2.1 b o e
        · intro b hb
          rw [upd_ne hb]
          exact p.2.2 b hb
      · obtain ⟨p1, p2, p3⟩ := p
        rw [List.length_map, List.take_length] at p1
        refine ⟨.int sd, rfl, (by show 3 ≤ sizeLine; decide), fun l hl => ?_⟩
        have ne : D ≠ l := ne_of_none p1 hl
        refine q _ l D (p2.trans (same_upd hl)) ?_ hD ⟨_, 0, sd, upd_same, by rw [upd_ne ne]; exact p1, by decide, h0, by omega, ?_⟩
        · exact p2.free hl
        · intro x hx
          obtain ⟨z, _, rfl⟩ := List.mem_map.mp hx
          split <;> omega
theorem Well.mk {H : Hp} {wl cl : Addr} {cs : List Int} {b c : Int} (h1 : H wl = some (.lst [.ref cl, .int b, .int c])) (h2 : H cl = some (.lst (cs.map V.int))) (h : WellC cs b c) : Well H wl cl := ⟨cs, b, c, h1, h2, h⟩
theorem ok_draw {f : Addr} {fd : FuncData} {k : Nat} (F : Fun K "_law_draw" "_law_draw" sDraw f fd) : FnOk P w K mg base CX0 (k + 1) f fd ["well", "many"] spDraw := by
  refine F.ok scDraw (fun vs H Q E h => ?_) (fun cdv A outer s H vs Q E hr h => ?_)
  · obtain ⟨wl, cl, m, rfl, _⟩ := h
    rfl
  · obtain ⟨wl, cl, m, rfl, hW, hm, hlog, q⟩ := h
    have hwc := hW.ne
    have pix : ∀ {X : Cx} {a b : Expr} {pos : Pos} {ta tb : TE}, PE X a ta → PE X b tb → PlainIx b → PE X (.Subscript a b pos) (tOp (rIxL X.K) ta tb) := fun ha hb hs => pe_ix ix_list ha hb hs
    refine ⟨_, C8.pss_cut (ps_if (PW.pt (pw_and (pt_cmpR op_eq (pe_ix ix_list (pv 0) pe_int (fun _ _ => rfl)) pe_int (nomark _)) (pw_and1 (pt_cmpR (op_neD hr.units) (pe_ix ix_list (pv 0) pe_int (fun _ _ => rfl)) (pe_lst pa_nil) (nomark _)))))
        (pss_cons (ps_set (i := 2) scDraw.nd rfl (.inl rfl) (pe_bm PySem.F.plainAttrs_list PySem.F.slot_list_pop PySem.F.type_list_pop mt_popAt (pe_ix ix_list (pv 0) pe_int (fun _ _ => rfl)) (pa_cons pe_int pa_nil)))
        (pss_cons (ps_if (pt_cmpR op_lt (pv 2) (pe_op op_pow pe_int pe_int) (nomark _)) (pss_one (ps_ret (pe_op op_mod (pv 2) (pv 1)))) pss_nil)
        (pss_one (ps_asg (pv 2) (pg_sub (pv 0) pe_int set_list))))) pss_nil)
      (pss_cons (ps_if (pt_cmpR op_gt (pe_ix ix_list (pv 0) pe_int (fun _ _ => rfl)) pe_int (nomark _))
        (pss_cons (ps_set (i := 3) scDraw.nd rfl (.inl rfl) (pe_op op_mod (pe_ix ix_list (pv 0) pe_int (fun _ _ => rfl)) (pv 1)))
        (pss_cons (ps_asg (pe_op op_fdivW (pe_ix ix_list (pv 0) pe_int (fun _ _ => rfl)) (pv 1)) (pg_sub (pv 0) pe_int set_list))
        (pss_one (ps_ret (pv 3))))) pss_nil)
      (pss_cons (ps_asg (pe_op op_mod (pe_op op_add (pe_op op_mul (pe_ix ix_list (pv 0) pe_int (fun _ _ => rfl)) pe_int) pe_int) pe_int) (pg_sub (pv 0) pe_int set_list))
      (pss_one (ps_ret (pe_op op_mod (pe_op op_fdiv (pe_op op_mod (pe_op op_pow (pe_op op_mod (pe_op op_pow (pe_ix ix_list (pv 0) pe_int (fun _ _ => rfl)) pe_int) pe_int) pe_int) pe_int) pe_int) (pv 1)))))), ?_⟩
    refine ⟨fun σ H' => Drawn wl cl H H' ∧ ∃ y2 y3, σ = [some (.ref wl), some (.int m), y2, y3], ?_, ?_⟩
    · obtain ⟨cs, b, c, h1, h2, hc⟩ := hW
      refine ⟨.ref wl, rfl, wl, _, 1, _, rfl, rfl, .inl (.inl h1), rfl, rfl, _, rfl, ?_⟩
      refine ite2 (fun e => ?_) (fun e => ?_)
      · refine ⟨.ref wl, rfl, wl, _, 0, _, rfl, rfl, .inl (.inl h1), rfl, (by show 0 ≤ sizeLine; decide), fun p hp => ?_⟩
        have np1 : wl ≠ p := ne_of_none h1 hp
        have np2 : cl ≠ p := ne_of_none h2 hp
        have g1 : upd H p (.lst []) wl = some (.lst [.ref cl, .int b, .int c]) := by rw [upd_ne np1]; exact h1
        have g2 : upd H p (.lst []) cl = some (.lst (cs.map V.int)) := by rw [upd_ne np2]; exact h2
        refine ⟨.list (cs.map .int), .list [], .lst (.inl (.inl g2)) (dpInts cs), .lst (.inl (.inl upd_same)) .nil, PySem.W.shaped_ints cs, PySem.W.shaped_ints [], _, rfl, ?_⟩
        cases cs with
        | nil =>
          rw [eqv_nil_nil]
          refine iteF ?_
          exact ⟨⟨fun b' o n1 n2 e => same_upd hp _ _ e, [], b, c, g1, g2, hc⟩, none, none, rfl⟩
        | cons z r =>
          rw [eqv_nil_cons]
          refine iteT ?_
          have hz : 0 ≤ z := hc.nn z List.mem_cons_self
          refine ⟨.ref wl, rfl, wl, _, 0, _, rfl, rfl, .inl (.inl g1), rfl, .inl ⟨rfl, _, .inl (.inl g2)⟩, cl, _, 0, 0, .int z, rfl, rfl, g2, by decide, by decide, seqIndex_of (by decide) (by simp <;> omega), rfl, ?_⟩
          refine ⟨.int z, rfl, 10, 18, rfl, rfl, ⟨by decide, by decide, by decide⟩, _, _, rfl, rfl, _, rfl, ?_⟩
          have k1 : ∀ o, upd (upd H p (.lst [])) cl o wl = some (.lst [.ref cl, .int b, .int c]) := fun o => by rw [upd_ne hwc]; exact g1
          have kd : ∀ o b' o', b' ≠ wl → b' ≠ cl → H b' = some o' → upd (upd H p (.lst [])) cl o b' = some o' := fun o b' o' n1 n2 e => by rw [upd_ne n2]; exact same_upd hp _ _ e
          refine ite2 (fun e2 => ?_) (fun e2 => ?_)
          · refine ⟨.int z, rfl, .int m, rfl, z, m, rfl, rfl, (by show 0 < m; omega), q _ _ ⟨kd _, r, b, c, k1 _, upd_same, hc.b0, hc.c0, hc.c1, fun x hx => hc.nn x (List.mem_cons_of_mem _ hx)⟩ (Int.emod_nonneg _ (by omega)) (Int.emod_lt_of_pos _ (by omega))⟩
          · refine ⟨.int z, rfl, .ref wl, rfl, wl, _, 1, 1, rfl, rfl, k1 _, rfl, ?_⟩
            refine ⟨⟨fun b' o n1 n2 e => ?_, r, z, c, upd_same, ?_, hz, hc.c0, hc.c1, fun x hx => hc.nn x (List.mem_cons_of_mem _ hx)⟩, some (.int z), none, rfl⟩
            · rw [upd_ne n1]; exact kd _ b' o n1 n2 e
            · rw [upd_ne hwc.symm]; exact upd_same
      · exact ⟨⟨fun _ _ _ _ e => e, cs, b, c, h1, h2, hc⟩, none, none, rfl⟩
    · intro σ H1 hM
      obtain ⟨⟨hD, hW1⟩, y2, y3, rfl⟩ := hM
      obtain ⟨cs, b, c, h1, h2, hc⟩ := hW1
      have q2 : ∀ (o : List V) (b' c' d : Int), o = [.ref cl, .int b', .int c'] → 0 ≤ b' → 0 ≤ c' → c' ≤ 2147483647 → 0 ≤ d → d < m → Q (.int d) (upd H1 wl (.lst o)) := fun o b' c' d eo x1 x2 x3 x4 x5 =>
        q _ _ ⟨fun a o' n1 n2 e => by rw [upd_ne n1]; exact hD a o' n1 n2 e, cs, b', c', by rw [eo]; exact upd_same, by rw [upd_ne hwc.symm]; exact h2, x1, x2, x3, hc.nn⟩ x4 x5
      refine ⟨.ref wl, rfl, wl, _, 1, _, rfl, rfl, .inl (.inl h1), rfl, b, 0, rfl, rfl, _, rfl, ?_⟩
      refine ite2 (fun e => ?_) (fun e => ?_)
      · have hb0 := hc.b0
        refine ⟨.ref wl, rfl, wl, _, 1, _, rfl, rfl, .inl (.inl h1), rfl, .int m, rfl, b, m, rfl, rfl, (by show 0 < m; omega), ?_⟩
        refine ⟨.ref wl, rfl, wl, _, 1, _, rfl, rfl, .inl (.inl h1), rfl, .int m, rfl, b, m, rfl, rfl, ⟨by omega, hlog⟩, .ref wl, rfl, wl, _, 1, 1, rfl, rfl, h1, rfl, ?_⟩
        exact ⟨.int (b % m), rfl, q2 _ (b / m) c _ rfl (Int.ediv_nonneg hb0 (by omega)) hc.c0 hc.c1 (Int.emod_nonneg _ (by omega)) (Int.emod_lt_of_pos _ (by omega))⟩
      · have hc0 := hc.c0
        have hc1 := hc.c1
        refine ⟨.ref wl, rfl, wl, _, 2, _, rfl, rfl, .inl (.inl h1), rfl, c, 48271, rfl, rfl, .inl ⟨by omega, by omega⟩, _, _, rfl, rfl, _, _, rfl, rfl, (by show (0 : Int) < 2147483647; decide), .ref wl, rfl, wl, _, 2, 2, rfl, rfl, h1, rfl, ?_⟩
        have n1 := Int.emod_nonneg (c * 48271 + 12345) (by decide : (2147483647 : Int) ≠ 0)
        have n2 := Int.emod_lt_of_pos (c * 48271 + 12345) (by decide : (0 : Int) < 2147483647)
        generalize ec : (c * 48271 + 12345) % 2147483647 = c' at n1 n2
        have n3 := Int.emod_nonneg (c' ^ (3 : Int).toNat) (by decide : (2147483629 : Int) ≠ 0)
        have n4 := Int.emod_lt_of_pos (c' ^ (3 : Int).toNat) (by decide : (0 : Int) < 2147483629)
        refine ⟨.ref wl, rfl, wl, _, 2, _, rfl, rfl, .inl (.inl upd_same), rfl, c', 3, by rw [← ec], rfl, ⟨by decide, by decide, by omega⟩, _, _, rfl, rfl, (by show (0 : Int) < 2147483629; decide), _, 5, rfl, rfl, ⟨by decide, by decide, by omega⟩, _, _, rfl, rfl, (by show (0 : Int) < 1000000007; decide), _, 7, rfl, rfl, ⟨by decide, by decide⟩, .int m, rfl, _, m, rfl, rfl, (by show 0 < m; omega), ?_⟩
        exact q2 _ b c' _ (by rw [← ec]; rfl) hc.b0 n1 (by omega) (Int.emod_nonneg _ (by omega)) (Int.emod_lt_of_pos _ (by omega))
end
end Rd

set_option Elab.async false
set_option linter.all false
set_option maxRecDepth 100000
set_option maxHeartbeats 4000000
namespace Rd
open PySem PySem.Spec PyProof.Rows L2 Dt
abbrev sPow : Stmt := topS 19
abbrev nPow : List Str := ["number", "many", "found", "turn"]
theorem scPow : FnScope nPow ["number", "many"] (defScope sPow) := ⟨rfl, rfl, rfl, by decide +kernel, rfl, by decide +kernel, by decide +kernel⟩
abbrev sWis : Stmt := topS 20
abbrev nWis : List Str := ["well", "many", "hues", "full", "alone_rows", "left", "size", "places", "every", "count", "step", "rows", "at", "k", "row", "number", "place", "found"]
theorem scWis : FnScope nWis ["well", "many", "hues"] (defScope sWis) := ⟨rfl, rfl, rfl, by decide +kernel, rfl, by decide +kernel, by decide +kernel⟩
theorem pow_small : ∀ n : Fin 5, ∀ i : Fin 7, ((n : Nat) : Int) ^ (i : Nat) ≤ 4096 ∧ 0 ≤ ((n : Nat) : Int) ^ (i : Nat) := by decide
theorem pow_bd {n : Int} {i : Nat} (h0 : 0 ≤ n) (h4 : n ≤ 4) (hi : i ≤ 6) : n ^ i ≤ 4096 ∧ 0 ≤ n ^ i := by
  obtain ⟨m, rfl⟩ : ∃ m : Nat, n = m := ⟨n.toNat, by omega⟩
  exact pow_small ⟨m, by omega⟩ ⟨i, by omega⟩
theorem pow_wishF : ∀ n : Fin 3, ∀ m : Fin 3, 2 ≤ (((n : Nat) : Int) + 2) ^ ((m : Nat) + 1) ∧ (((n : Nat) : Int) + 2) ^ ((m : Nat) + 1) ≤ 64 := by decide
theorem pow_wish {h s : Int} (h2 : 2 ≤ h) (h4 : h ≤ 4) (s1 : 1 ≤ s) (s3 : s ≤ 3) : 2 ≤ h ^ s.toNat ∧ h ^ s.toNat ≤ 64 := by
  obtain ⟨n, rfl⟩ : ∃ n : Nat, h = (n : Int) + 2 := ⟨(h - 2).toNat, by omega⟩
  obtain ⟨m, rfl⟩ : ∃ m : Nat, s = (m : Int) + 1 := ⟨(s - 1).toNat, by omega⟩
  have e : ((m : Int) + 1).toNat = m + 1 := by omega
  rw [e]
  exact pow_wishF ⟨n, by omega⟩ ⟨m, by omega⟩
/-- its rows rise -/
def Up (wd : WD) : Prop := wd.2.Pairwise fun f g => HT.lexLt f g = true
theorem code_lexU {B : Int} : ∀ (a b : List Int), a.length = b.length → TS.Bd B a → TS.Bd B b → TS.code B a ≤ TS.code B b → a ≠ b → HT.lexLt a b = true
  | [], [], _, _, _, _, n => absurd rfl n
  | [], _ :: _, l, _, _, _, _ => by simp at l
  | _ :: _, [], l, _, _, _, _ => by simp at l
  | x :: a, y :: b, l, ha, hb, h, n => by
    have l' : a.length = b.length := by simpa using l
    have ha' : TS.Bd B a := fun m hm => ha m (List.mem_cons_of_mem _ hm)
    have hb' : TS.Bd B b := fun m hm => hb m (List.mem_cons_of_mem _ hm)
    rw [HT.lexLt]
    by_cases e : x = y
    · subst e
      rw [if_pos rfl]
      refine code_lexU a b l' ha' hb' ?_ (fun z => n (by rw [z]))
      have z := (TS.code_same (B := B) (d := x) l'.symm).mpr
      by_cases c : TS.code B b < TS.code B a
      · have := z c
        omega
      · omega
    · rw [if_neg e]
      refine decide_eq_true ?_
      have z := TS.code_lt (B := B) (d := y) (e := x) l'.symm hb' ha'
      by_cases c : y < x
      · have := z c
        omega
      · omega
def spPow : Sp := fun vs H Q _ => ∃ n m : Int, vs = [.int n, .int m] ∧ 0 ≤ n ∧ n ≤ 4 ∧ 0 ≤ m ∧ m ≤ 6 ∧ Q (.int (n ^ m.toNat)) H
def spWis : Sp := fun vs H Q _ => ∃ (wl cl : Addr) (many hues : Int), vs = [.ref wl, .int many, .int hues] ∧ Well H wl cl ∧ 1 ≤ many ∧ many ≤ 6 ∧ 2 ≤ hues ∧ hues ≤ 4 ∧
  ∀ H' wa wd, Drawn wl cl H H' → IsWish H' wa wd → Good many hues wd → Neat wd ∧ Up wd → Q (.ref wa) H'
structure TxtW (P : Program) (w : World) (K : PySem.W.Frag) (mg : Str → Option Value) (base : Heap) : Prop where
  m_range : mg "range" = none
  m_list : mg "list" = none
  m_min : mg "min" = none
  m_max : mg "max" = none
  m_len : mg "len" = none
  m_sorted : mg "sorted" = none
  m_tuple : mg "tuple" = none
  c__law_draw : Cal P w K mg base 1 "_law_draw" ["well", "many"] spDraw
  c__law_power : Cal P w K mg base 1 "_law_power" ["number", "many"] spPow
section
variable {P : Program} {w : World} {K : PySem.W.Frag} {mg : Str → Option Value} {base : Heap}
theorem ok_pow {f : Addr} {fd : FuncData} {k : Nat} (F : Fun K "_law_power" "_law_power" sPow f fd) (mr : mg "range" = none) : FnOk P w K mg base CX0 (k + 1) f fd ["number", "many"] spPow := by
  refine F.ok scPow (fun vs H Q E h => ?_) (fun cdv A outer s H vs Q E hr h => ?_)
  · obtain ⟨n, m, rfl, _⟩ := h
    rfl
  · obtain ⟨n, m, rfl, h0, h4, m0, m6, q⟩ := h
    refine ⟨_, (pss_cons (ps_set (i := 2) scPow.nd rfl (Or.inl rfl) pe_int)
      (pss_cons (ps_for PassesOwn.never rfl (pi_range1 (by rfl) mr (pa_cons (pv 1) pa_nil)) (pg_name (i := 3) scPow.nd rfl (Or.inl rfl))
      (pss_one (ps_set (i := 2) scPow.nd rfl (Or.inl rfl) (pe_op op_mul (pv 2) (pv 0)))))
      (pss_one (ps_ret (pv 2))))), ?_⟩
    refine ⟨.int m, rfl, m, rfl, by omega, by omega, for_range (lo := 0) (n := m.toNat) (fun i σ H3 => H3 = H ∧ ∃ y3, σ = [some (.int n), some (.int m), some (.int (n ^ i)), y3]) ⟨rfl, none, by rw [Int.pow_zero]; rfl⟩ (fun i σ H3 hi p => ?_) (fun σ H3 p => ?_)⟩
    · obtain ⟨rfl, y3, rfl⟩ := p
      have b := pow_bd h0 h4 (i := i) (by omega)
      exact ⟨_, rfl, _, rfl, n ^ i, n, rfl, rfl, .inl ⟨by omega, by omega⟩, rfl, _, by rw [Int.pow_succ]; rfl⟩
    · obtain ⟨rfl, y3, rfl⟩ := p
      exact ⟨_, rfl, q⟩
set_option maxHeartbeats 16000000 in
theorem ok_wis {f : Addr} {fd : FuncData} {k : Nat} (F : Fun K "_law_wish" "_law_wish" sWis f fd) (T : TxtW P w K mg base) : FnOk P w K mg base CX0 (k + 2) f fd ["well", "many", "hues"] spWis := by
  refine F.ok scWis (fun vs H Q E h => ?_) (fun cdv A outer s H vs Q E hr h => ?_)
  · obtain ⟨wl, cl, many, hues, rfl, _⟩ := h
    rfl
  · obtain ⟨wl, cl, many, hues, rfl, hW, m1, m6, h2, h4, q⟩ := h
    have hr1 : Room 1 (A.deeper (envOfC (Str.ofString "_law_wish") (defScope sWis) s.heap.objs.size f cdv)) := hr.mono (by omega)
    have hu := units65 hr
    refine ⟨_, (pss_cons (ps_set (i := 3) scWis.nd rfl (Or.inl rfl) (pe_cal T.c__law_draw hr1 (by rfl) (pa_cons (pv 0) (pa_cons pe_int pa_nil))))
  (pss_cons (ps_set (i := 4) scWis.nd rfl (Or.inl rfl) (pe_cmpR op_eq (pe_cal T.c__law_draw hr1 (by rfl) (pa_cons (pv 0) (pa_cons pe_int pa_nil))) pe_int (nomark _)))
  (pss_cons (ps_set (i := 5) scWis.nd rfl (Or.inr rfl) (pe_listRg rfl (by rfl) T.m_list (prg_1 (by rfl) T.m_range (pv 1))))
  (pss_cons (ps_set (i := 6) scWis.nd rfl (Or.inl rfl) (pe_op op_add pe_int (pe_cal T.c__law_draw hr1 (by rfl) (pa_cons (pv 0) (pa_cons (pe_callB (call_min2 rfl) (by rfl) T.m_min (by decide +kernel) (pa_cons pe_int (pa_cons (pv 1) pa_nil))) pa_nil)))))
  (pss_cons (ps_set (i := 7) scWis.nd rfl (Or.inl rfl) (pe_callB cr_sorted (by rfl) T.m_sorted (by decide +kernel) (pa_cons (pe_lc (own := [("k", 13)]) (te := tBM K "list" rPopAt (tVar 5) (tCons (tCall spDraw [] E0 (tCons (tVar 0) (tCons (tCB (rLen K) (tCons (tVar 5) tNil)) tNil))) tNil)) rfl scWis.nd  (pi_range1 (by rfl) T.m_range (pa_cons (pv 6) pa_nil)) (blkOk_by (own := [("k", 13)]) (N := nWis) (sc := defScope sWis) (by decide +kernel))
   (fun _ _ _ _ _ => (pg_name (i := 13) scWis.nd rfl (Or.inl rfl))) (fun _ _ _ _ _ => pts_nil) (fun _ _ _ _ _ => (pe_bm PySem.F.plainAttrs_list PySem.F.slot_list_pop PySem.F.type_list_pop mt_popAt (pv 5) (pa_cons (pe_cal T.c__law_draw hr1 (by rfl) (pa_cons (pv 0) (pa_cons (pe_callB call_len_seq (by rfl) T.m_len (by decide +kernel) (pa_cons (pv 5) pa_nil)) pa_nil))) pa_nil)))) pa_nil)))
  (pss_cons (ps_set (i := 8) scWis.nd rfl (Or.inl rfl) (pe_cal T.c__law_power hr1 (by rfl) (pa_cons (pv 2) (pa_cons (pv 6) pa_nil))))
  (pss_cons (ps_set (i := 9) scWis.nd rfl (Or.inl rfl) (pe_op op_add pe_int (pe_cal T.c__law_draw hr1 (by rfl) (pa_cons (pv 0) (pa_cons (pe_ix ix_list (pe_lst (pa_cons (pe_callB (call_max2 rfl) (by rfl) T.m_max (by decide +kernel) (pa_cons pe_int (pa_cons (pe_op op_fdiv (pv 8) pe_int) pa_nil))) (pa_cons (pv 8) (pa_cons pe_int (pa_cons (pe_callB (call_min2 rfl) (by rfl) T.m_min (by decide +kernel) (pa_cons pe_int (pa_cons (pv 8) pa_nil))) pa_nil))))) (pe_callB (call_min2 rfl) (by rfl) T.m_min (by decide +kernel) (pa_cons (pv 3) (pa_cons pe_int pa_nil))) (fun _ _ => rfl)) pa_nil)))))
  (pss_cons (ps_set (i := 10) scWis.nd rfl (Or.inl rfl) (pe_op op_add pe_int (pe_cal T.c__law_draw hr1 (by rfl) (pa_cons (pv 0) (pa_cons (pv 8) pa_nil)))))
  (pss_cons (ps_set (i := 11) scWis.nd rfl (Or.inl rfl) (pe_lst pa_nil))
  (pss_cons (ps_set (i := 12) scWis.nd rfl (Or.inl rfl) (pe_cal T.c__law_draw hr1 (by rfl) (pa_cons (pv 0) (pa_cons (pv 8) pa_nil))))
  (pss_cons (ps_for PassesOwn.never rfl (pi_range1 (by rfl) T.m_range (pa_cons (pe_callB (call_min2 rfl) (by rfl) T.m_min (by decide +kernel) (pa_cons (pv 9) (pa_cons (pv 8) pa_nil))) pa_nil)) (pg_name (i := 13) scWis.nd rfl (Or.inl rfl))
  (pss_cons (ps_set (i := 14) scWis.nd rfl (Or.inl rfl) (pe_lst pa_nil))
  (pss_cons (ps_set (i := 15) scWis.nd rfl (Or.inl rfl) (pv 12))
  (pss_cons (ps_for PassesOwn.never rfl (pi_list (pv 7)) (pg_name (i := 16) scWis.nd rfl (Or.inl rfl))
  (pss_cons (ps_expr (pe_bm PySem.F.plainAttrs_list PySem.F.slot_list_append PySem.F.type_list_append mt_append (pv 14) (pa_cons (pe_op op_mod (pv 15) (pv 2)) pa_nil)))
  (pss_one (ps_set (i := 15) scWis.nd rfl (Or.inl rfl) (pe_op op_fdiv (pv 15) (pv 2))))))
  (pss_cons (ps_expr (pe_bm PySem.F.plainAttrs_list PySem.F.slot_list_append PySem.F.type_list_append mt_append (pv 11) (pa_cons (pe_callTy call_tuple_of (by rfl) T.m_tuple (by decide +kernel) (pa_cons (pv 14) pa_nil)) pa_nil)))
  (pss_cons (ps_set (i := 12) scWis.nd rfl (Or.inl rfl) (pe_op op_mod (pe_op op_add (pv 12) (pv 10)) (pv 8)))
  (pss_one (ps_if (pt_val (pv 4))
  (pss_one (ps_set (i := 12) scWis.nd rfl (Or.inl rfl) (pe_cal T.c__law_draw hr1 (by rfl) (pa_cons (pv 0) (pa_cons (pv 8) pa_nil))))) pss_nil))))))))
  (pss_cons (ps_set (i := 17) scWis.nd rfl (Or.inl rfl) (pe_lst pa_nil))
  (pss_cons (ps_for PassesOwn.never rfl (pi_list (pe_callB Tt.cr_sortedT (by rfl) T.m_sorted (by decide +kernel) (pa_cons (pv 11) pa_nil))) (pg_name (i := 14) scWis.nd rfl (Or.inl rfl))
  (pss_one (ps_if (pt_cmpR (op_notInD hu) (pv 14) (pv 17) (by rfl))
  (pss_one (ps_expr (pe_bm PySem.F.plainAttrs_list PySem.F.slot_list_append PySem.F.type_list_append mt_append (pv 17) (pa_cons (pv 14) pa_nil)))) pss_nil)))
  (pss_one (ps_ret (pe_tup (pa_cons (pe_callTy call_tuple_of (by rfl) T.m_tuple (by decide +kernel) (pa_cons (pv 7) pa_nil)) (pa_cons (pe_callTy call_tuple_of (by rfl) T.m_tuple (by decide +kernel) (pa_cons (pv 17) pa_nil)) pa_nil)))))))))))))))))), ?_⟩
    -- full, alone_rows
    refine ⟨.ref wl, rfl, wl, cl, 8, rfl, hW, by decide, by decide, fun H1 full D1 f0 f1 => ?_⟩
    refine ⟨.ref wl, rfl, wl, cl, 3, rfl, D1.2, by decide, by decide, fun H2 al D2 _ _ => ⟨rfl, ?_⟩⟩
    generalize decide (V.int al = V.int 0) = alone
    have E2 := D1.trans D2
    -- left
    refine ⟨.int many, rfl, many, rfl, ⟨by omega, by omega, by omega, by omega, by omega⟩, fun l nl => ?_⟩
    have nlw := D2.2.new nl
    have nl0 : H l = none := E2.free hW nl
    have E3 := E2.put (o := .lst (rgV 0 many)) nl0 nlw
    have hl3 : upd H2 l (.lst (rgV 0 many)) l = some (.lst (rgV 0 many)) := upd_same
    generalize upd H2 l (.lst (rgV 0 many)) = H3 at E3 hl3
    -- size
    refine ⟨.ref wl, rfl, .int many, rfl, 3, many, rfl, wl, cl, _, rfl, E3.2, by split <;> omega, log_small (by split <;> omega) (by split <;> omega), fun H4 sz D4 s0 s1 => ⟨1, sz, rfl, rfl, ?_⟩⟩
    have E4 := E3.trans D4
    have hl4 := D4.1 l _ nlw.1 nlw.2 hl3
    obtain ⟨z3, zm⟩ : 1 + sz ≤ 3 ∧ 1 + sz ≤ many := by
      constructor <;> (split at s1 <;> omega)
    have z1 : 1 ≤ 1 + sz := by omega
    dsimp only
    generalize 1 + sz = size at z3 zm z1
    clear s0 s1
    -- places
    refine ⟨.int size, rfl, size, rfl, by omega, by omega, fun D nD => ?_⟩
    have nDw := E4.2.new nD
    have nD0 : H D = none := E4.free hW nD
    have nlD : l ≠ D := ne_of_none hl4 nD
    refine lc_range (lo := 0) (n := size.toNat) (fun i H5 => Drawn wl cl H H5 ∧ ∃ acc ls : List Int, H5 l = some (.lst (ls.map V.int)) ∧ H5 D = some (.lst (acc.map V.int)) ∧ acc.length = i ∧ ls.length + i = many.toNat ∧ (acc ++ ls).Perm (rngI many)) ⟨E4.put nD0 nDw, [], rngI many, ?_, upd_same, rfl, ?_, List.Perm.refl _⟩ (fun i H5 hi p => ?_) (fun H5 p => ?_)
    · rw [upd_ne nlD, hl4, rgV_eq]
    · rw [rngI_len]; rfl
    · obtain ⟨dr, acc, ls, hL, hD, la, ll, pm⟩ := p
      refine ⟨rfl, ?_⟩
      dsimp only [tYes]
      rw [if_pos rfl]
      have lpos : 1 ≤ ls.length := by omega
      refine ⟨.ref l, rfl, .inl ⟨rfl, _, .inl (.inl hL)⟩, .ref wl, rfl, .ref l, rfl, l, _, rfl, .inl (.inl (.inl hL)), wl, cl, _, rfl, dr.2, by rw [List.length_map]; omega, by rw [List.length_map]; exact log_small (by omega) (by omega), fun H6 d D6 d0 d1 => ?_⟩
      rw [List.length_map] at d1
      have hd : d.toNat < ls.length := by omega
      have hL6 := D6.1 l _ nlw.1 nlw.2 hL
      have hD6 := D6.1 D _ nDw.1 nDw.2 hD
      refine ⟨l, ls.map V.int, d, d.toNat, .int (ls[d.toNat]), rfl, rfl, hL6, by omega, by omega, seqIndex_of d0 (by rw [List.length_map]; exact d1), ?_, acc.map V.int, ?_, ?_, ?_, acc ++ [ls[d.toNat]], ls.eraseIdx d.toNat, ?_, ?_, ?_, ?_, ?_⟩
      · rw [List.getElem?_map, List.getElem?_eq_getElem hd]
        rfl
      · rw [upd_ne (Ne.symm nlD)]
        exact hD6
      · rw [List.length_map]
        exact small1000 (by omega)
      · exact ((dr.trans D6).put nl0 nlw).put nD0 nDw
      · rw [upd_ne nlD, upd_same, map_erase]
      · rw [upd_same, List.map_append]
        rfl
      · rw [List.length_append, la]
        rfl
      · rw [List.length_eraseIdx_of_lt hd]
        omega
      · refine List.Perm.trans ?_ pm
        rw [List.append_assoc]
        exact List.Perm.append_left acc (erase_perm ls _ hd)
    · obtain ⟨E5, acc, ls, hL, hD, la, ll, pm⟩ := p
      refine ⟨D, acc, rfl, .inl (.inl hD), by omega, fun ps lp perm rising nlp => ?_⟩
      have accb : ∀ z ∈ acc, 0 ≤ z ∧ z < many := fun z hz => rngI_mem (pm.mem_iff.mp (List.mem_append_left _ hz))
      have psb : ∀ z ∈ ps, 0 ≤ z ∧ z < many := fun z hz => accb z (perm.mem_iff.mp hz)
      have psl : ps.length = size.toNat := by rw [perm.length_eq, la]
      have nlpw := E5.2.new nlp
      have nlp0 : H lp = none := E5.free hW nlp
      have E6 := E5.put (o := .lst (ps.map V.int)) nlp0 nlpw
      have hp6 : upd H5 lp (.lst (ps.map V.int)) lp = some (.lst (ps.map V.int)) := upd_same
      generalize upd H5 lp (.lst (ps.map V.int)) = H6 at E6 hp6
      have anod : acc.Nodup := (List.nodup_append.mp (pm.nodup_iff.mpr (rngI_nodup many))).1
      have psn : ps.Nodup := perm.nodup_iff.mpr anod
      have prise := rise_of rising psn
      clear hL hD la ll pm accb perm nD nDw nD0 nlD hl4
      -- every
      refine ⟨.int hues, rfl, .int size, rfl, hues, size, rfl, by omega, h4, by omega, by omega, ?_⟩
      obtain ⟨e2, e64⟩ := pow_wish h2 h4 z1 z3
      generalize hues ^ size.toNat = every at e2 e64
      -- count
      refine ⟨.ref wl, rfl, .int every, rfl, every, 2, rfl, rfl, ⟨by decide, by decide⟩, 1, every / 2, rfl, .int every, rfl, .int every, rfl, 2, every, rfl, (by show 4 ≤ sizeLine; decide), fun lt nlt => ?_⟩
      obtain ⟨c, hc, c1, c64⟩ : ∃ c, atI [V.int (if every / 2 > 1 then every / 2 else 1), V.int every, V.int 2, V.int (if every < 2 then every else 2)] (if 3 < full then 3 else full) = some (.int c) ∧ 1 ≤ c ∧ c ≤ 64 := by
        have : (if 3 < full then 3 else full) = 0 ∨ (if 3 < full then 3 else full) = 1 ∨ (if 3 < full then 3 else full) = 2 ∨ (if 3 < full then 3 else full) = 3 := by split <;> omega
        rcases this with e | e | e | e <;> rw [e]
        · exact ⟨_, atI_nat (j := 0) rfl, by split <;> omega, by split <;> omega⟩
        · exact ⟨_, atI_nat (j := 1) rfl, by omega, by omega⟩
        · exact ⟨_, atI_nat (j := 2) rfl, by omega, by omega⟩
        · exact ⟨_, atI_nat (j := 3) rfl, by split <;> omega, by split <;> omega⟩
      have slt := same_upd (o := .lst [V.int (if every / 2 > 1 then every / 2 else 1), V.int every, V.int 2, V.int (if every < 2 then every else 2)]) nlt
      have E7 := E6.same slt
      refine ⟨.int full, rfl, full, 3, rfl, lt, _, _, _, rfl, rfl, .inl (.inl upd_same), hc, wl, cl, c, rfl, E7.2, c1, log_small (by omega) (by omega), fun H8 ct D8 c0 c2 => ⟨1, ct, rfl, rfl, ?_⟩⟩
      have E8 := E7.trans D8
      have hp8 := D8.1 lp _ nlpw.1 nlpw.2 (slt _ _ hp6)
      have ct1 : 1 ≤ 1 + ct := by omega
      dsimp only
      generalize 1 + ct = count at ct1
      clear hc c1 c64 c0 c2 E7 slt nlt
      -- step, rows, at
      refine ⟨.ref wl, rfl, .int every, rfl, wl, cl, every, rfl, E8.2, by omega, log_small (by omega) (by omega), fun H9 st D9 st0 _ => ⟨1, st, rfl, rfl, ?_⟩⟩
      have E9 := E8.trans D9
      have hp9 := D9.1 lp _ nlpw.1 nlpw.2 hp8
      have st1 : 0 ≤ 1 + st := by omega
      dsimp only
      generalize 1 + st = step at st1
      refine ⟨(by show 0 ≤ sizeLine; decide), fun lr nlr => ?_⟩
      have nlrw := E9.2.new nlr
      have nlr0 : H lr = none := E9.free hW nlr
      have nrp : lr ≠ lp := (ne_of_none hp9 nlr).symm
      have E10 := E9.put (o := .lst []) nlr0 nlrw
      have hp10 : upd H9 lr (.lst []) lp = some (.lst (ps.map V.int)) := by rw [upd_ne (Ne.symm nrp)]; exact hp9
      have hr10 : upd H9 lr (.lst []) lr = some (.lst []) := upd_same
      generalize upd H9 lr (.lst []) = H10 at E10 hp10 hr10
      refine ⟨.ref wl, rfl, .int every, rfl, wl, cl, every, rfl, E10.2, by omega, log_small (by omega) (by omega), fun H11 at0 D11 a0 a1 => ?_⟩
      have E11 := E10.trans D11
      have hp11 := D11.1 lp _ nlpw.1 nlpw.2 hp10
      have hr11 := D11.1 lr _ nlrw.1 nlrw.2 hr10
      -- the rows
      refine ⟨.int count, rfl, .int every, rfl, count, every, rfl, _, rfl, by split <;> omega, by split <;> omega, ?_⟩
      obtain ⟨n1, n64⟩ : 1 ≤ (if every < count then every else count).toNat ∧ (if every < count then every else count).toNat ≤ 64 := by split <;> omega
      generalize (if every < count then every else count).toNat = turns at n1 n64
      refine for_range (lo := 0) (n := turns) (fun i σ H12 => Drawn wl cl H H12 ∧ H12 lp = some (.lst (ps.map V.int)) ∧ (∃ (ts : List Addr) (rws : List (List Int)), H12 lr = some (.lst (ts.map V.ref)) ∧ ts.length = i ∧ Paired (IsRow H12) ts rws ∧ ∀ r ∈ rws, r.length = ps.length ∧ ∀ h ∈ r, 0 ≤ h ∧ h < hues) ∧
        ∃ at' y13 y14 y15 y16, 0 ≤ at' ∧ at' < every ∧ σ = [some (.ref wl), some (.int many), some (.int hues), some (.int full), some (.bl alone), some (.ref l), some (.int size), some (.ref lp), some (.int every), some (.int count), some (.int step), some (.ref lr), some (.int at'), y13, y14, y15, y16, none])
        ⟨E11, hp11, ⟨[], [], hr11, rfl, .nil, fun _ h => nomatch h⟩, at0, none, none, none, none, a0, a1, rfl⟩ (fun i σ H12 hi p => ?_) (fun σ H12 p => ?_)
      · obtain ⟨E12, hp12, ⟨ts, rws, hr12, tl, pr, gd⟩, at', y13, y14, y15, y16, b0, b1, rfl⟩ := p
        refine ⟨(by show 0 ≤ sizeLine; decide), fun lw nlw2 => ?_⟩
        have nw := E12.2.new nlw2
        have nw0 : H lw = none := E12.free hW nlw2
        have nwp : lw ≠ lp := (ne_of_none hp12 nlw2).symm
        have nwr : lw ≠ lr := (ne_of_none hr12 nlw2).symm
        have sw := same_upd (o := .lst []) nlw2
        have E13 := E12.same sw
        refine ⟨.int at', rfl, .ref lp, rfl, lp, rfl, ⟨_, .inl (.inl (sw _ _ hp12))⟩, ?_⟩
        refine for_list (K := K) (a := lp) (xs := ps.map V.int) (fun j σ H14 => (∀ b o, b ≠ lw → upd H12 lw (.lst []) b = some o → H14 b = some o) ∧ Well H14 wl cl ∧ (∃ row : List Int, H14 lw = some (.lst (row.map V.int)) ∧ row.length = j ∧ ∀ h ∈ row, 0 ≤ h ∧ h < hues) ∧
          ∃ num y16, 0 ≤ num ∧ σ = [some (.ref wl), some (.int many), some (.int hues), some (.int full), some (.bl alone), some (.ref l), some (.int size), some (.ref lp), some (.int every), some (.int count), some (.int step), some (.ref lr), some (.int at'), some (.int (0 + (i : Int))), some (.ref lw), some (.int num), y16, none])
          ⟨fun _ _ _ e => e, E13.2, ⟨[], upd_same, rfl, fun _ h => nomatch h⟩, at', y16, b0, rfl⟩ (fun j σ H14 _ p => .inl (.inl (p.1 lp _ (Ne.symm nwp) (sw _ _ hp12)))) (fun j x σ H14 hx p => ?_) (fun σ H14 p => ?_)
        · obtain ⟨kp, we, ⟨row, hrow, rl, rb⟩, num, z16, nn, rfl⟩ := p
          have hj : j < ps.length := by
            have := (List.getElem?_eq_some_iff.mp hx).1
            rw [List.length_map] at this
            exact this
          refine ⟨.ref lw, rfl, .inl ⟨rfl, _, .inl (.inl hrow)⟩, .int num, rfl, .int hues, rfl, num, hues, rfl, rfl, (by show 0 < hues; omega), lw, _, _, rfl, rfl, hrow, ?_, ?_⟩
          · rw [List.length_map]
            exact small1000 (by omega)
          · refine ⟨.int num, rfl, .int hues, rfl, num, hues, rfl, rfl, ⟨by omega, by omega⟩, ?_, we.put nw, ⟨row ++ [num % hues], ?_, ?_, ?_⟩, num / hues, _, Int.ediv_nonneg nn (by omega), rfl⟩
            · intro b o n e
              rw [upd_ne n]
              exact kp b o n e
            · rw [upd_same, List.map_append]
              rfl
            · rw [List.length_append, rl]
              rfl
            · intro h hh
              rcases List.mem_append.mp hh with hh | hh
              · exact rb h hh
              · rw [List.mem_singleton.mp hh]
                exact ⟨Int.emod_nonneg _ (by omega), Int.emod_lt_of_pos _ (by omega)⟩
        · obtain ⟨kp, we, ⟨row, hrow, rl, rb⟩, num, z16, nn, rfl⟩ := p
          rw [List.length_map] at rl
          have hr14 : H14 lr = some (.lst (ts.map V.ref)) := kp lr _ (Ne.symm nwr) (sw _ _ hr12)
          have hp14 : H14 lp = some (.lst (ps.map V.int)) := kp lp _ (Ne.symm nwp) (sw _ _ hp12)
          have E14 : Drawn wl cl H H14 := ⟨fun b o n1' n2' e => kp b o (ne_of_none e nw0) (sw _ _ (E12.1 b o n1' n2' e)), we⟩
          refine ⟨.ref lr, rfl, .inl ⟨rfl, _, .inl (.inl hr14)⟩, .ref lw, rfl, lw, _, rfl, .inl ⟨.inl (.inl hrow), fun t nt => ?_⟩⟩
          have st := same_upd (o := .tup (row.map V.int)) nt
          have ntr : t ≠ lr := (ne_of_none hr14 nt).symm
          refine ⟨lr, ts.map V.ref, .ref t, rfl, rfl, st _ _ hr14, ?_, ?_⟩
          · rw [List.length_map, tl]
            exact small1000 (by omega)
          have E15 : Drawn wl cl H (upd (upd H14 t (.tup (row.map V.int))) lr (.lst (ts.map V.ref ++ [.ref t]))) := (E14.same st).put nlr0 nlrw
          have tups15 : Tups H12 (upd (upd H14 t (.tup (row.map V.int))) lr (.lst (ts.map V.ref ++ [.ref t]))) := fun b xs e => by
            have nb : b ≠ lr := fun z => by rw [z, hr12] at e; cases e
            have nb2 : b ≠ lw := fun z => by rw [z, nlw2] at e; cases e
            rw [upd_ne nb]
            exact st _ _ (kp b _ nb2 (sw _ _ e))
          have isr : IsRow (upd (upd H14 t (.tup (row.map V.int))) lr (.lst (ts.map V.ref ++ [.ref t]))) t row := by
            show upd _ lr _ t = _
            rw [upd_ne ntr]
            exact upd_same
          have pr15 := (pairedMap (fun _ _ e => tups15 _ _ e) pr).snoc isr
          have hp15 : upd (upd H14 t (.tup (row.map V.int))) lr (.lst (ts.map V.ref ++ [.ref t])) lp = some (.lst (ps.map V.int)) := by
            rw [upd_ne (Ne.symm nrp)]
            exact st _ _ hp14
          have hr15 : upd (upd H14 t (.tup (row.map V.int))) lr (.lst (ts.map V.ref ++ [.ref t])) lr = some (.lst ((ts ++ [t]).map V.ref)) := by
            rw [upd_same, List.map_append]
            rfl
          generalize upd (upd H14 t (.tup (row.map V.int))) lr (.lst (ts.map V.ref ++ [.ref t])) = H15 at E15 pr15 hp15 hr15
          have gd15 : ∀ r ∈ rws ++ [row], r.length = ps.length ∧ ∀ h ∈ r, 0 ≤ h ∧ h < hues := fun r hr => by
            rcases List.mem_append.mp hr with hr | hr
            · exact gd r hr
            · rw [List.mem_singleton.mp hr]
              exact ⟨rl, rb⟩
          refine ⟨.int at', rfl, .int step, rfl, at', step, rfl, rfl, .int every, rfl, at' + step, every, rfl, rfl, (by show 0 < every; omega), .bl alone, rfl, alone, rfl, ?_⟩
          have m0 := Int.emod_nonneg (at' + step) (show every ≠ 0 by omega)
          have m1' := Int.emod_lt_of_pos (at' + step) (show 0 < every by omega)
          refine ite2 (fun _ => ?_) (fun _ => ?_)
          · refine ⟨.ref wl, rfl, .int every, rfl, wl, cl, every, rfl, E15.2, by omega, log_small (by omega) (by omega), fun H16 an D16 an0 an1 => ?_⟩
            exact ⟨E15.trans D16, D16.1 lp _ nlpw.1 nlpw.2 hp15, ⟨ts ++ [t], rws ++ [row], D16.1 lr _ nlrw.1 nlrw.2 hr15, by rw [List.length_append, tl]; rfl, pairedMap (fun _ _ e => D16.tups E15.2 _ _ e) pr15, gd15⟩, an, _, _, _, _, an0, an1, rfl⟩
          · exact ⟨E15, hp15, ⟨ts ++ [t], rws ++ [row], hr15, by rw [List.length_append, tl]; rfl, pr15, gd15⟩, _, _, _, _, _, m0, m1', rfl⟩
      · obtain ⟨E12, hp12, ⟨ts, rws, hr12, tl, pr, gd⟩, at', y13, y14, y15, y16, b0, b1, rfl⟩ := p
        -- found
        refine ⟨(by show 0 ≤ sizeLine; decide), fun lf nlf => ?_⟩
        have nf := E12.2.new nlf
        have nf0 : H lf = none := E12.free hW nlf
        have nfp : lf ≠ lp := (ne_of_none hp12 nlf).symm
        have sf := same_upd (o := .lst []) nlf
        have E13 := E12.same sf
        have pr13 := pairedMap (fun _ _ e => sf _ _ e) pr
        generalize hH13 : upd H12 lf (.lst []) = H13 at sf E13 pr13
        have hf13 : H13 lf = some (.lst []) := by rw [← hH13]; exact upd_same
        have rows_at : ∀ t ∈ ts, ∃ r ∈ rws, IsRow H13 t r := fun t ht => by
          obtain ⟨i, hi, e⟩ := List.getElem_of_mem ht
          obtain ⟨r, hr, is⟩ := pairedGetL pr13 (List.getElem?_eq_getElem hi)
          exact ⟨r, List.mem_of_getElem? hr, e ▸ is⟩
        refine ⟨.ref lr, rfl, lr, ts, rowAt H13, ps.length, hues, rfl, .inl (.inl (sf _ _ hr12)), by omega, fun t ht => ?_, fun ts' so pm pw nso => ?_⟩
        · obtain ⟨r, hr, is⟩ := rows_at t ht
          rw [rowAt_of is]
          exact ⟨is, (gd r hr).1, (gd r hr).2⟩
        have ssv := same_upd (o := .lst (ts'.map V.ref)) nso
        have nfs : lf ≠ so := ne_of_none hf13 nso
        have E14 := E13.same ssv
        refine ⟨so, rfl, ⟨_, .inl (.inl upd_same)⟩, ?_⟩
        refine for_list (K := K) (a := so) (xs := ts'.map V.ref) (fun i σ H15 => (∀ b o, b ≠ lf → upd H13 so (.lst (ts'.map V.ref)) b = some o → H15 b = some o) ∧ Well H15 wl cl ∧ (∃ (fs : List Addr) (frs : List (List Int)), H15 lf = some (.lst (fs.map V.ref)) ∧ fs.length ≤ i ∧ (1 ≤ i → 1 ≤ fs.length) ∧ Paired (IsRow H15) fs frs ∧ (frs.Nodup ∧ frs.Pairwise (fun f g => HT.lexLt f g = true) ∧ ∀ r ∈ frs, ∀ j t, i ≤ j → ts'[j]? = some t → TS.code hues r ≤ TS.code hues (rowAt H13 t)) ∧ ∀ r ∈ frs, r.length = ps.length ∧ ∀ h ∈ r, 0 ≤ h ∧ h < hues) ∧
          ∃ z13 z14 z15 z16, σ = [some (.ref wl), some (.int many), some (.int hues), some (.int full), some (.bl alone), some (.ref l), some (.int size), some (.ref lp), some (.int every), some (.int count), some (.int step), some (.ref lr), some (.int at'), z13, z14, z15, z16, some (.ref lf)])
          ⟨fun _ _ _ e => e, E14.2, ⟨[], [], ssv _ _ hf13, Nat.le_refl _, fun h => absurd h (by decide), .nil, ⟨List.nodup_nil, List.Pairwise.nil, fun _ h => nomatch h⟩, fun _ h => nomatch h⟩, _, _, _, _, rfl⟩ (fun i σ H15 _ p => .inl (.inl (p.1 so _ (Ne.symm nfs) upd_same))) (fun i x σ H15 hx p => ?_) (fun σ H15 p => ?_)
        · obtain ⟨kp, we, ⟨fs, frs, hf15, fl, fp, pf, ⟨nfr, upr, ler⟩, gf⟩, z13, z14, z15, z16, rfl⟩ := p
          rw [List.getElem?_map] at hx
          cases et : ts'[i]? with
          | none => rw [et] at hx; cases hx
          | some t =>
            rw [et] at hx
            cases hx
            have tm : t ∈ ts := pm.mem_iff.mp (List.mem_of_getElem? et)
            obtain ⟨r, hr, is⟩ := rows_at t tm
            have it : i < ts'.length := (List.getElem?_eq_some_iff.mp et).1
            have tl' : ts'.length = turns := by rw [pm.length_eq, tl]
            have is15 : IsRow H15 t r := kp t _ (fun z => by rw [z] at is; exact absurd (is.symm.trans hf13) (fun z => by cases z)) (ssv _ _ is)
            have fineR : ∀ r', (r'.length = ps.length ∧ ∀ h ∈ r', 0 ≤ h ∧ h < hues) → Fine (rowD r') 2 64 := fun r' g => fine_row (fun z hz => ⟨(g.2 z hz).1, by have := (g.2 z hz).2; omega⟩) (by have := g.1; omega)
            refine ⟨.ref t, rfl, .ref lf, rfl, rowD r, frs.map rowD, dpRow is15, .lst (.inl (.inl hf15)) (dpRows pf), (fineR r (gd r hr)).shaped (by decide), (Fine.list (fineAll_map frs fun r' hr' => fineR r' (gf r' hr'))).shaped (by decide), _, rfl, ?_⟩
            rw [anyRows]
            refine ite2 (fun ee => ?_) (fun e => ?_)
            · have ni : r ∉ frs := fun z => by rw [decide_eq_true z] at ee; exact absurd ee (by decide)
              refine ⟨.ref lf, rfl, .inl ⟨rfl, _, .inl (.inl hf15)⟩, .ref t, rfl, lf, _, _, rfl, rfl, hf15, ?_, ?_, we.put nf, ⟨fs ++ [t], frs ++ [r], ?_, ?_, fun _ => ?_, ?_, ⟨List.nodup_append.mpr ⟨nfr, List.nodup_cons.mpr ⟨(fun z => nomatch z), List.nodup_nil⟩, fun a ha b hb z => ni (by rw [List.mem_singleton.mp hb] at z; exact z ▸ ha)⟩, ?_, ?_⟩, ?_⟩, _, _, _, _, rfl⟩
              · rw [List.length_map]
                exact small1000 (by omega)
              · intro b o n e
                rw [upd_ne n]
                exact kp b o n e
              · rw [upd_same, List.map_append]
                rfl
              · rw [List.length_append]
                exact Nat.succ_le_succ fl
              · rw [List.length_append]
                exact Nat.le_add_left _ _
              · have tu : Tups H15 (upd H15 lf (.lst (fs.map V.ref ++ [.ref t]))) := tups_upd fun xs z => by rw [hf15] at z; cases z
                exact (pairedMap (fun _ _ e => tu _ _ e) pf).snoc (tu _ _ is15)
              · refine List.pairwise_append.mpr ⟨upr, List.pairwise_singleton _ _, fun r' hr' g hg => ?_⟩
                rw [List.mem_singleton.mp hg]
                have c := ler r' hr' i t (Nat.le_refl _) et
                rw [rowAt_of is] at c
                exact code_lexU r' r ((gf r' hr').1.trans (gd r hr).1.symm) (fun m hm => (gf r' hr').2 m hm) (fun m hm => (gd r hr).2 m hm) c (fun z => ni (z ▸ hr'))
              · intro r' hr' j t' hj et'
                rcases List.mem_append.mp hr' with h | h
                · exact ler r' h j t' (by omega) et'
                · rw [List.mem_singleton.mp h]
                  have z := List.pairwise_iff_getElem.mp pw i j (List.getElem?_eq_some_iff.mp et).1 (List.getElem?_eq_some_iff.mp et').1 (by omega)
                  rw [(List.getElem?_eq_some_iff.mp et).2, (List.getElem?_eq_some_iff.mp et').2, rowAt_of is] at z
                  exact z
              · intro r' hr'
                rcases List.mem_append.mp hr' with h | h
                · exact gf r' h
                · rw [List.mem_singleton.mp h]
                  exact gd r hr
            · refine ⟨kp, we, ⟨fs, frs, hf15, by omega, fun _ => ?_, pf, ⟨nfr, upr, fun r' hr' j t' hj et' => ler r' hr' j t' (by omega) et'⟩, gf⟩, _, _, _, _, rfl⟩
              have e2 : r ∈ frs := by
                by_cases z : r ∈ frs
                · exact z
                · exact absurd (by simp [z]) e
              have := List.length_pos_of_mem e2
              rw [pairedLen pf]
              exact this
        · obtain ⟨kp, we, ⟨fs, frs, hf15, fl, fp, pf, ⟨nfr, upr, ler⟩, gf⟩, z13, z14, z15, z16, rfl⟩ := p
          rw [List.length_map, pm.length_eq, tl] at fl fp
          have hp15 : H15 lp = some (.lst (ps.map V.int)) := kp lp _ (Ne.symm nfp) (ssv _ _ (sf _ _ hp12))
          have E15 : Drawn wl cl H H15 := ⟨fun b o n1' n2' e => kp b o (ne_of_none e nf0) (ssv _ _ (E13.1 b o n1' n2' e)), we⟩
          refine ⟨.ref lp, rfl, lp, _, rfl, .inl ⟨.inl (.inl hp15), fun t1 nt1 => ?_⟩⟩
          have q1 := same_upd (o := .tup (ps.map V.int)) nt1
          refine ⟨.ref lf, rfl, lf, _, rfl, .inl ⟨.inl (.inl (q1 _ _ hf15)), fun t2 nt2 => ?_⟩⟩
          have q2 := q1.trans (same_upd (o := .tup (fs.map V.ref)) nt2)
          refine ⟨(by show 2 ≤ sizeLine; decide), fun wa nwa => ?_⟩
          have q3 := same_upd (o := .tup [.ref t1, .ref t2]) nwa
          have q4 := q2.trans q3
          refine q _ wa (ps, frs) (E15.same q4) ⟨t1, t2, fs, upd_same, q3 _ _ (same_upd nt2 _ _ upd_same), q3 _ _ upd_same, pairedMap (fun _ _ e => q4 _ _ e) pf⟩ ⟨?_, ?_, psb, ?_, ?_, gf⟩ ⟨⟨prise, nfr⟩, upr⟩
          · show 1 ≤ ps.length
            omega
          · show ps.length ≤ 3
            omega
          · show 1 ≤ frs.length
            rw [← pairedLen pf]
            exact fp n1
          · show frs.length ≤ 64
            rw [← pairedLen pf]
            omega
end
end Rd

set_option Elab.async false
set_option linter.all false
set_option maxRecDepth 100000
set_option maxHeartbeats 4000000
namespace Rd
open PySem PySem.Spec PyProof.Rows L2 Dt
abbrev sRid : Stmt := topS 21
abbrev nRid : List Str := ["well", "most_places", "most_wishes", "hues", "most", "many", "same", "wishes", "k", "wish"]
theorem scRid : FnScope nRid ["well", "most_places", "most_wishes"] (defScope sRid) := ⟨rfl, rfl, rfl, by decide +kernel, rfl, by decide +kernel, by decide +kernel⟩
theorem eqv_list_nil (d : PyData) (ds : List PyData) : PyData.eqv (.list (d :: ds)) (.list []) = false := by simp [PyData.eqv, PyData.eqvAll]
theorem eqv_list_nn : PyData.eqv (.list []) (.list []) = true := by simp [PyData.eqv, PyData.eqvAll]
theorem eqv_tup_nil (d : PyData) (ds : List PyData) : PyData.eqv (.tuple (d :: ds)) (.tuple []) = false := by simp [PyData.eqv, PyData.eqvAll]
theorem eqv_tup_nn : PyData.eqv (.tuple []) (.tuple []) = true := by simp [PyData.eqv, PyData.eqvAll]
theorem dict_hues {h : Int} (h0 : 0 ≤ h) (h2 : h ≤ 2) : ∃ m, valV (mergeK [] [((Sum.inl 2 : Key), V.int 6), (Sum.inl 3, .int 5), (Sum.inl 4, .int 4)]) (Sum.inl (2 + h)) = some (.int m) ∧ 1 ≤ m ∧ m ≤ 6 ∧ ∀ k : Int, 1 ≤ k → k ≤ m → (2 + h) ^ k.toNat ≤ 256 := by
  have all : ∀ a : Nat, a < 3 → ∀ b : Nat, b ≤ 6 - a → ((2 + a : Nat) : Int) ^ b ≤ 256 := by decide +kernel
  have : h = 0 ∨ h = 1 ∨ h = 2 := by omega
  rcases this with rfl | rfl | rfl
  · exact ⟨6, by decide, by decide, by decide, fun k k1 k2 => all 0 (by decide) k.toNat (by omega)⟩
  · exact ⟨5, by decide, by decide, by decide, fun k k1 k2 => all 1 (by decide) k.toNat (by omega)⟩
  · exact ⟨4, by decide, by decide, by decide, fun k k1 k2 => all 2 (by decide) k.toNat (by omega)⟩
def spRid : Sp := fun vs H Q _ => ∃ (wl cl : Addr) (mw : Int), vs = [.ref wl, .int 6, .int mw] ∧ Well H wl cl ∧ 0 ≤ mw ∧ mw ≤ 8 ∧
  ∀ H' ri many hues wds, Drawn wl cl H H' → IsRid H' ri many hues wds → GoodR many hues wds → (∀ wd ∈ wds, Neat wd ∧ Up wd) → (wds.length : Int) ≤ mw → hues ^ many.toNat ≤ 256 → Q (.ref ri) H'
structure TxtR (P : Program) (w : World) (K : PySem.W.Frag) (mg : Str → Option Value) (base : Heap) : Prop extends TxtW P w K mg base where
  c__law_wish : Cal P w K mg base 2 "_law_wish" ["well", "many", "hues"] spWis
section
variable {P : Program} {w : World} {K : PySem.W.Frag} {mg : Str → Option Value} {base : Heap}
set_option maxHeartbeats 16000000 in
theorem ok_rid {f : Addr} {fd : FuncData} {k : Nat} (F : Fun K "_law_riddle" "_law_riddle" sRid f fd) (T : TxtR P w K mg base) : FnOk P w K mg base CX0 (k + 3) f fd ["well", "most_places", "most_wishes"] spRid := by
  refine F.ok scRid (fun vs H Q E h => ?_) (fun cdv A outer s H vs Q E hr h => ?_)
  · obtain ⟨wl, cl, mw, rfl, _⟩ := h
    rfl
  · obtain ⟨wl, cl, mw, rfl, hW, w0, w8, q⟩ := h
    have hr1 : Room 1 (A.deeper (envOfC (Str.ofString "_law_riddle") (defScope sRid) s.heap.objs.size f cdv)) := hr.mono (by omega)
    have hr2 : Room 2 (A.deeper (envOfC (Str.ofString "_law_riddle") (defScope sRid) s.heap.objs.size f cdv)) := hr.mono (by omega)
    have hu1 := hu_of hr
    refine ⟨_, (pss_cons (ps_set (i := 3) scRid.nd rfl (Or.inl rfl) (pe_op op_add pe_int (pe_ix ix_list (pe_lst (pa_cons pe_int (pa_cons pe_int (pa_cons pe_int (pa_cons pe_int pa_nil))))) (pe_cal T.c__law_draw hr1 (by rfl) (pa_cons (pv 0) (pa_cons pe_int pa_nil))) (fun _ _ => rfl))))
  (pss_cons (ps_set (i := 4) scRid.nd rfl (Or.inl rfl) (pe_callB (call_min2 rfl) (by rfl) T.m_min (by decide +kernel) (pa_cons (pv 1) (pa_cons (pe_dget hu1 (pe_disp (pps_cons pe_int pe_int (pps_cons pe_int pe_int (pps_cons pe_int pe_int pps_nil))) (by rfl) (by rfl) (fun z => by cases z) (by decide)) (pv 3) (fun _ _ => rfl)) pa_nil))))
  (pss_cons (ps_set (i := 5) scRid.nd rfl (Or.inl rfl) (pe_op op_add pe_int (pe_cal T.c__law_draw hr1 (by rfl) (pa_cons (pv 0) (pa_cons (pv 4) pa_nil)))))
  (pss_cons (ps_set (i := 6) scRid.nd rfl (Or.inl rfl) (pe_cal T.c__law_draw hr1 (by rfl) (pa_cons (pv 0) (pa_cons pe_int pa_nil))))
  (pss_cons (ps_set (i := 7) scRid.nd rfl (Or.inl rfl) (pe_lst pa_nil))
  (pss_cons (ps_for PassesOwn.never rfl (pi_range1 (by rfl) T.m_range (pa_cons (pe_cal T.c__law_draw hr1 (by rfl) (pa_cons (pv 0) (pa_cons (pe_op op_add (pv 2) pe_int) pa_nil))) pa_nil)) (pg_name (i := 8) scRid.nd rfl (Or.inl rfl))
  (pss_cons (ps_set (i := 9) scRid.nd rfl (Or.inl rfl) (pe_cal T.c__law_wish hr2 (by rfl) (pa_cons (pv 0) (pa_cons (pv 5) (pa_cons (pv 3) pa_nil)))))
  (C8.pss_cut (ps_if (PW.pt (pw_and (pt_cmpR op_eq (pv 6) (pv 8) (nomark _)) (pw_and1 (pt_cmpR (op_neD hr.units) (pv 7) (pe_lst pa_nil) (nomark _)))))
  (pss_one (ps_set (i := 9) scRid.nd rfl (Or.inl rfl) (pe_ix ix_list (pv 7) pe_int (fun _ _ => rfl)))) pss_nil)
  (pss_one (ps_expr (pe_bm PySem.F.plainAttrs_list PySem.F.slot_list_append PySem.F.type_list_append mt_append (pv 7) (pa_cons (pv 9) pa_nil)))))))
  (pss_one (ps_ret (pe_tup (pa_cons (pv 5) (pa_cons (pv 3) (pa_cons (pe_callTy call_tuple_of (by rfl) T.m_tuple (by decide +kernel) (pa_cons (pv 7) pa_nil)) pa_nil)))))))))))), ?_⟩
    -- hues
    refine ⟨(by show 4 ≤ sizeLine; decide), fun l4 nl4 => ?_⟩
    have s4 := same_upd (o := .lst [V.int 0, .int 0, .int 1, .int 2]) nl4
    refine ⟨.ref wl, rfl, wl, cl, 4, rfl, hW.same s4, by decide, by decide, fun H1 d D1 d0 d1 => ?_⟩
    have E1 : Drawn wl cl H H1 := (Drawn.refl hW |>.same s4).trans D1
    have n4 := (hW.new nl4)
    obtain ⟨hx, hat, hx0, hx2⟩ : ∃ hx, atI [V.int 0, .int 0, .int 1, .int 2] d = some (.int hx) ∧ 0 ≤ hx ∧ hx ≤ 2 := by
      have : d = 0 ∨ d = 1 ∨ d = 2 ∨ d = 3 := by omega
      rcases this with rfl | rfl | rfl | rfl
      · exact ⟨0, atI_nat (j := 0) rfl, by decide, by decide⟩
      · exact ⟨0, atI_nat (j := 1) rfl, by decide, by decide⟩
      · exact ⟨1, atI_nat (j := 2) rfl, by decide, by decide⟩
      · exact ⟨2, atI_nat (j := 3) rfl, by decide, by decide⟩
    refine ⟨l4, _, d, .int hx, rfl, rfl, .inl (.inl (D1.1 l4 _ n4.1 n4.2 upd_same)), hat, 2, hx, rfl, rfl, ?_⟩
    -- most
    refine ⟨.int 6, rfl, fun dd ndd => ?_⟩
    obtain ⟨mm, hmm, mm1, mm6, msz⟩ := dict_hues hx0 hx2
    refine ⟨upd_same, [(Sum.inl 2, .int 6), (Sum.inl 3, .int 5), (Sum.inl 4, .int 4)], rfl, by decide, .int (2 + hx), rfl, dd, .int mm, rfl, ?_, 6, mm, rfl, ?_⟩
    · have z := DGet.k (k := Sum.inl (2 + hx)) (H := upd (upd H1 dd (.dK [])) dd (.dK (mergeK [] [((Sum.inl 2 : Key), V.int 6), (Sum.inl 3, .int 5), (Sum.inl 4, .int 4)]))) upd_same
      rw [hmm] at z
      exact z
    have ed : upd (upd H1 dd (.dK [])) dd (.dK (mergeK [] [((Sum.inl 2 : Key), V.int 6), (Sum.inl 3, .int 5), (Sum.inl 4, .int 4)])) = upd H1 dd (.dK (mergeK [] [((Sum.inl 2 : Key), V.int 6), (Sum.inl 3, .int 5), (Sum.inl 4, .int 4)])) := upd_upd
    have E2 := E1.same (same_upd (o := .dK (mergeK [] [((Sum.inl 2 : Key), V.int 6), (Sum.inl 3, .int 5), (Sum.inl 4, .int 4)])) ndd)
    rw [← ed] at E2
    generalize upd (upd H1 dd (.dK [])) dd (.dK (mergeK [] [((Sum.inl 2 : Key), V.int 6), (Sum.inl 3, .int 5), (Sum.inl 4, .int 4)])) = H2 at E2
    obtain ⟨o1, o6, om⟩ : 1 ≤ (if mm < 6 then mm else 6) ∧ (if mm < 6 then mm else 6) ≤ 6 ∧ (if mm < 6 then mm else 6) ≤ mm := by split <;> omega
    generalize (if mm < 6 then mm else 6) = most at o1 o6 om
    have msz2 : ∀ k : Int, 1 ≤ k → k ≤ most → (2 + hx) ^ k.toNat ≤ 256 := fun k a b => msz k a (by omega)
    clear msz hmm
    have hh2 : 2 ≤ 2 + hx := by omega
    have hh4 : 2 + hx ≤ 4 := by omega
    dsimp only
    generalize 2 + hx = hues at hh2 hh4 msz2
    -- many, same
    refine ⟨.ref wl, rfl, .int most, rfl, wl, cl, most, rfl, E2.2, by omega, log_small (by omega) (by omega), fun H3 mn D3 mn0 mn1 => ⟨1, mn, rfl, rfl, ?_⟩⟩
    have E3 := E2.trans D3
    have k1 : 1 ≤ 1 + mn := by omega
    have k6 : 1 + mn ≤ 6 := by omega
    have k256 := msz2 (1 + mn) (by omega) (by omega)
    dsimp only
    generalize 1 + mn = many at k1 k6 k256
    refine ⟨.ref wl, rfl, wl, cl, 6, rfl, E3.2, by decide, by decide, fun H4 sm D4 _ _ => ?_⟩
    have E4 := E3.trans D4
    refine ⟨(by show 0 ≤ sizeLine; decide), fun lw nlw => ?_⟩
    have nw := E4.2.new nlw
    have nw0 : H lw = none := E4.free hW nlw
    have E5 := E4.put (o := .lst []) nw0 nw
    have hw5 : upd H4 lw (.lst []) lw = some (.lst []) := upd_same
    generalize upd H4 lw (.lst []) = H5 at E5 hw5
    refine ⟨.ref wl, rfl, .int mw, rfl, mw, 1, rfl, rfl, wl, cl, mw + 1, rfl, E5.2, by omega, log_small (by omega) (by omega), fun H6 nn D6 n0 n1 => ⟨nn, rfl, by omega, by omega, ?_⟩⟩
    have E6 := E5.trans D6
    refine for_range (lo := 0) (n := nn.toNat) (fun i σ H7 => Drawn wl cl H H7 ∧ (∃ (was : List Addr) (wds : List WD), H7 lw = some (.lst (was.map V.ref)) ∧ was.length = i ∧ Paired (IsWish H7) was wds ∧ ∀ wd ∈ wds, Good many hues wd ∧ (Neat wd ∧ Up wd)) ∧
      ∃ y8 y9, σ = [some (.ref wl), some (.int 6), some (.int mw), some (.int hues), some (.int most), some (.int many), some (.int sm), some (.ref lw), y8, y9]) ⟨E6, ⟨[], [], D6.1 lw _ nw.1 nw.2 hw5, rfl, .nil, fun _ h => nomatch h⟩, none, none, rfl⟩ (fun i σ H7 hi p => ?_) (fun σ H7 p => ?_)
    · obtain ⟨E7, ⟨was, wds, hw7, wl7, pw, gd⟩, y8, y9, rfl⟩ := p
      refine ⟨.ref wl, rfl, .int many, rfl, .int hues, rfl, wl, cl, many, hues, rfl, E7.2, k1, k6, hh2, hh4, fun H8 wa wd D8 isw gw0 nt0 => ?_⟩
      have gw := And.intro gw0 nt0
      have E8 := E7.trans D8
      have hw8 := D8.1 lw _ nw.1 nw.2 hw7
      have pw8 := pairedMap (fun _ _ e => IsWish.mono (D8.tups E7.2) e) pw
      refine ⟨fun σ H9 => Drawn wl cl H H9 ∧ H9 lw = some (.lst (was.map V.ref)) ∧ Paired (IsWish H9) was wds ∧ ∃ wa wd, IsWish H9 wa wd ∧ (Good many hues wd ∧ (Neat wd ∧ Up wd)) ∧ σ = [some (.ref wl), some (.int 6), some (.int mw), some (.int hues), some (.int most), some (.int many), some (.int sm), some (.ref lw), some (.int (0 + (i : Int))), some (.ref wa)], ?_, ?_⟩
      · refine ⟨.int sm, rfl, .int (0 + (i : Int)), rfl, rfl, _, rfl, ite2 (fun _ => ?_) (fun _ => ?_)⟩
        · refine ⟨.ref lw, rfl, (by show 0 ≤ sizeLine; decide), fun le nle => ?_⟩
          have se := same_upd (o := .lst []) nle
          have fw : Fine (.list (wds.map wishD)) 5 100000 := (Fine.list (fineAll_map wds fun wd hwd => fine_wish (gd wd hwd).1 k6 hh4)).mono (by omega) (by
            have := pairedLen pw
            omega)
          refine ⟨.list (wds.map wishD), .list [], .lst (.inl (.inl (se _ _ hw8))) (dpWishes (pairedMap (fun _ _ e => IsWish.mono (tups_same se) e) pw8)), .lst (.inl (.inl upd_same)) .nil, fw.shaped (by decide), PySem.W.shaped_ints [], _, rfl, ?_⟩
          cases pw8 with
          | nil =>
            rw [List.map_nil, eqv_list_nn]
            refine iteF ?_
            exact ⟨E8.same se, se _ _ hw8, .nil, wa, wd, isw.mono (tups_same se), gw, rfl⟩
          | @cons wa0 wd0 was' wds' h0 t0 =>
            rw [List.map_cons, eqv_list_nil]
            refine iteT ?_
            refine ⟨.ref lw, rfl, lw, _, 0, .ref wa0, rfl, rfl, .inl (.inl (se _ _ hw8)), atI_nat (j := 0) rfl, ?_⟩
            exact ⟨E8.same se, se _ _ hw8, pairedMap (fun _ _ e => IsWish.mono (tups_same se) e) (.cons h0 t0), wa0, wd0, h0.mono (tups_same se), gd wd0 List.mem_cons_self, rfl⟩
        · exact ⟨E8, hw8, pw8, wa, wd, isw, gw, rfl⟩
      · intro σ H9 hm
        obtain ⟨E9, hw9, pw9, wa2, wd2, isw2, gw2, rfl⟩ := hm
        refine ⟨.ref lw, rfl, .inl ⟨rfl, _, .inl (.inl hw9)⟩, .ref wa2, rfl, lw, _, _, rfl, rfl, hw9, ?_, ?_⟩
        · rw [List.length_map, wl7]
          exact small1000 (by omega)
        have tu : Tups H9 (upd H9 lw (.lst (was.map V.ref ++ [.ref wa2]))) := tups_upd fun xs z => by rw [hw9] at z; cases z
        refine ⟨E9.put nw0 nw, ⟨was ++ [wa2], wds ++ [wd2], ?_, ?_, (pairedMap (fun _ _ e => IsWish.mono tu e) pw9).snoc (isw2.mono tu), ?_⟩, _, _, rfl⟩
        · rw [upd_same, List.map_append]
          rfl
        · rw [List.length_append, wl7]
          rfl
        · intro wd' h'
          rcases List.mem_append.mp h' with h' | h'
          · exact gd wd' h'
          · rw [List.mem_singleton.mp h']
            exact gw2
    · obtain ⟨E7, ⟨was, wds, hw7, wl7, pw, gd⟩, y8, y9, rfl⟩ := p
      refine ⟨.int many, rfl, .int hues, rfl, .ref lw, rfl, lw, _, rfl, .inl ⟨.inl (.inl hw7), fun wt nwt => ?_⟩⟩
      have st := same_upd (o := .tup (was.map V.ref)) nwt
      refine ⟨(by show 3 ≤ sizeLine; decide), fun ri nri => ?_⟩
      have sr := same_upd (o := .tup [.int many, .int hues, .ref wt]) nri
      refine q _ ri many hues wds ((E7.same st).same sr) ⟨wt, was, upd_same, sr _ _ upd_same, pairedMap (fun _ _ e => IsWish.mono (tups_same (st.trans sr)) e) pw⟩ ⟨k1, k6, hh2, hh4, ?_, fun wd h => (gd wd h).1⟩ (fun wd h => (gd wd h).2) ?_ k256
      · rw [← pairedLen pw]
        omega
      · rw [← pairedLen pw]
        omega
end
end Rd

set_option Elab.async false
set_option linter.all false
set_option maxRecDepth 100000
set_option maxHeartbeats 4000000
namespace Rd
open PySem PySem.Spec PyProof.Rows L2 Dt
abbrev sNum : Stmt := topS 7
abbrev nNum : List Str := ["thing", "low", "high"]
theorem scNum : FnScope nNum ["thing", "low", "high"] (defScope sNum) := ⟨rfl, rfl, rfl, by decide +kernel, rfl, by decide +kernel, by decide +kernel⟩
abbrev sRis : Stmt := topS 8
abbrev nRis : List Str := ["parts", "k"]
theorem scRis : FnScope nRis ["parts"] (defScope sRis) := ⟨rfl, rfl, rfl, by decide +kernel, rfl, by decide +kernel, by decide +kernel⟩
abbrev sFnu : Stmt := topS 9
abbrev nFnu : List Str := ["many", "hues", "number", "place"]
theorem scFnu : FnScope nFnu ["many", "hues"] (defScope sFnu) := ⟨rfl, rfl, rfl, by decide +kernel, rfl, by decide +kernel, by decide +kernel⟩
abbrev sSiz : Stmt := topS 10
abbrev nSiz : List Str := ["many", "hues"]
theorem scSiz : FnScope nSiz ["many", "hues"] (defScope sSiz) := ⟨rfl, rfl, rfl, by decide +kernel, rfl, by decide +kernel, by decide +kernel⟩
abbrev sPls : Stmt := topS 11
abbrev nPls : List Str := ["thing", "many", "place"]
theorem scPls : FnScope nPls ["thing", "many"] (defScope sPls) := ⟨rfl, rfl, rfl, by decide +kernel, rfl, by decide +kernel, by decide +kernel⟩
abbrev sHus : Stmt := topS 12
abbrev nHus : List Str := ["thing", "length", "hues", "hue"]
theorem scHus : FnScope nHus ["thing", "length", "hues"] (defScope sHus) := ⟨rfl, rfl, rfl, by decide +kernel, rfl, by decide +kernel, by decide +kernel⟩
abbrev sRws : Stmt := topS 13
abbrev nRws : List Str := ["thing", "length", "hues", "row"]
theorem scRws : FnScope nRws ["thing", "length", "hues"] (defScope sRws) := ⟨rfl, rfl, rfl, by decide +kernel, rfl, by decide +kernel, by decide +kernel⟩
abbrev sWsh : Stmt := topS 14
abbrev nWsh : List Str := ["thing", "many", "hues", "places", "rows"]
theorem scWsh : FnScope nWsh ["thing", "many", "hues"] (defScope sWsh) := ⟨rfl, rfl, rfl, by decide +kernel, rfl, by decide +kernel, by decide +kernel⟩
abbrev sIrd : Stmt := topS 15
abbrev nIrd : List Str := ["thing", "many", "hues", "wishes", "wish"]
theorem scIrd : FnScope nIrd ["thing"] (defScope sIrd) := ⟨rfl, rfl, rfl, by decide +kernel, rfl, by decide +kernel, by decide +kernel⟩
theorem ip_mul {X : Cx} : PIp X .Mult (fun x y H Q => ∃ i j, x = .int i ∧ y = .int j ∧ CMul i j ∧ Q (.int (i * j)) H) := by
  intro pins s σ H x y v u Q I r1 r2 h
  obtain ⟨i, j, e1, e2, hm, q⟩ := h
  subst e1; subst e2
  obtain ⟨t, rfl⟩ := r1
  obtain ⟨t', rfl⟩ := r2
  exact imul_int ⟨.int _, H, I.tok _, ⟨_, rfl⟩, q⟩ hm.ok
/-! ### what is rising -/
def risI (ns : List Int) : Bool := (List.range (ns.length - 1)).all fun k => decide (ns.getD k 0 < ns.getD (k + 1) 0)
def risR (rs : List Dt.Row) : Bool := (List.range (rs.length - 1)).all fun k => HT.lexLt (rs.getD k []) (rs.getD (k + 1) [])
structure Rise (wd : WD) : Prop where
  pl : risI wd.1 = true
  rows : risR wd.2 = true
def rLtU (K : PySem.W.Frag) : R2 := fun x y H Q => rI0 (fun i j => .bl (decide (i < j))) x y H Q ∨ rLtT K x y H Q
def sizeOk (many hues : Int) : Bool := decide (1 ≤ many ∧ many ≤ 6) && decide (2 ≤ hues ∧ hues ≤ 4) && decide (hues ^ many.toNat ≤ 256)
def spNum : Sp := fun vs H Q _ => ∃ t lo hi : Int, vs = [.int t, .int lo, .int hi] ∧ Q (.bl (decide (lo ≤ t ∧ t ≤ hi))) H
def spRis (Ps : List Addr) : Sp := fun vs H Q _ => ∃ pa : Addr, vs = [.ref pa] ∧ Tabs Ps H ∧ ((∃ ns : List Int, H pa = some (.tup (ns.map V.int)) ∧ risI ns = true ∧ ns.length ≤ 1000) ∨ (∃ (rs : List Addr) (rows : List Dt.Row), H pa = some (.tup (rs.map V.ref)) ∧ Paired (IsRow H) rs rows ∧ risR rows = true ∧ rows.length ≤ 1000)) ∧
  ∀ H', FrS Ps H H' → Q (.bl true) H'
def spFno : Sp := fun vs H Q _ => ∃ many hues : Int, vs = [.int many, .int hues] ∧ 0 ≤ many ∧ many ≤ 6 ∧ 0 ≤ hues ∧ hues ≤ 4 ∧ Q (.int (hues ^ many.toNat)) H
def spSiz : Sp := fun vs H Q _ => ∃ many hues : Int, vs = [.int many, .int hues] ∧ Q (.bl (sizeOk many hues)) H
def spPls (Ps : List Addr) : Sp := fun vs H Q _ => ∃ (pa : Addr) (ns : List Int) (many : Int), vs = [.ref pa, .int many] ∧ Tabs Ps H ∧ H pa = some (.tup (ns.map V.int)) ∧ 1 ≤ ns.length ∧ ns.length ≤ 3 ∧ (∀ p ∈ ns, 0 ≤ p ∧ p < many) ∧ risI ns = true ∧ ∀ H', FrS Ps H H' → Q (.bl true) H'
def spHus (Ps : List Addr) : Sp := fun vs H Q _ => ∃ (ra : Addr) (row : Dt.Row) (hues : Int), vs = [.ref ra, .int row.length, .int hues] ∧ Tabs Ps H ∧ IsRow H ra row ∧ (∀ h ∈ row, 0 ≤ h ∧ h < hues) ∧ ∀ H', FrS Ps H H' → Q (.bl true) H'
def spRws (Ps : List Addr) : Sp := fun vs H Q _ => ∃ (ra : Addr) (rs : List Addr) (rows : List Dt.Row) (n : Nat) (hues : Int), vs = [.ref ra, .int n, .int hues] ∧ Tabs Ps H ∧ H ra = some (.tup (rs.map V.ref)) ∧ Paired (IsRow H) rs rows ∧ 1 ≤ rows.length ∧ rows.length ≤ 1000 ∧ (∀ r ∈ rows, r.length = n ∧ ∀ h ∈ r, 0 ≤ h ∧ h < hues) ∧ risR rows = true ∧ ∀ H', FrS Ps H H' → Q (.bl true) H'
def spWsh (Ps : List Addr) : Sp := fun vs H Q _ => ∃ (wa : Addr) (wd : WD) (many hues : Int), vs = [.ref wa, .int many, .int hues] ∧ Tabs Ps H ∧ IsWish H wa wd ∧ Good many hues wd ∧ Rise wd ∧ ∀ H', FrS Ps H H' → Q (.bl true) H'
def spIrd (Ps : List Addr) : Sp := fun vs H Q _ => ∃ (ri : Addr) (z : V) (many hues : Int), vs = [.ref ri] ∧ Tabs Ps H ∧ H ri = some (.tup [.int many, .int hues, z]) ∧ ((sizeOk many hues = false ∧ Q (.bl false) H) ∨
  (sizeOk many hues = true ∧ ∃ wds, IsRid H ri many hues wds ∧ GoodR many hues wds ∧ (∀ wd ∈ wds, Rise wd) ∧ ∀ H', FrS Ps H H' → Q (.bl true) H'))
theorem ris_at {ns : List Int} (h : risI ns = true) {k : Nat} (hk : k < ns.length - 1) : ∃ a b, ns[k]? = some a ∧ ns[k + 1]? = some b ∧ a < b := by
  have z := List.all_eq_true.mp h k (List.mem_range.mpr hk)
  have h1 : k < ns.length := by omega
  have h2 : k + 1 < ns.length := by omega
  rw [List.getD_eq_getElem?_getD, List.getD_eq_getElem?_getD, List.getElem?_eq_getElem h1, List.getElem?_eq_getElem h2] at z
  exact ⟨_, _, List.getElem?_eq_getElem h1, List.getElem?_eq_getElem h2, by simpa using z⟩
theorem risR_at {rs : List Dt.Row} (h : risR rs = true) {k : Nat} (hk : k < rs.length - 1) : ∃ a b, rs[k]? = some a ∧ rs[k + 1]? = some b ∧ HT.lexLt a b = true := by
  have z := List.all_eq_true.mp h k (List.mem_range.mpr hk)
  have h1 : k < rs.length := by omega
  have h2 : k + 1 < rs.length := by omega
  rw [List.getD_eq_getElem?_getD, List.getD_eq_getElem?_getD, List.getElem?_eq_getElem h1, List.getElem?_eq_getElem h2] at z
  exact ⟨_, _, List.getElem?_eq_getElem h1, List.getElem?_eq_getElem h2, z⟩
structure TxtI (mg : Str → Option Value) : Prop where
  m_isinstance : mg "isinstance" = none
  m_int : mg "int" = none
  m_bool : mg "bool" = none
  m_tuple : mg "tuple" = none
  m_len : mg "len" = none
  m_all : mg "all" = none
  m_range : mg "range" = none
  g_MOST_PLACES : ∃ u, mg "MOST_PLACES" = some u ∧ RelV (.int 6) u
  g_LEAST_HUES : ∃ u, mg "LEAST_HUES" = some u ∧ RelV (.int 2) u
  g_MOST_HUES : ∃ u, mg "MOST_HUES" = some u ∧ RelV (.int 4) u
  g_MOST_FILLINGS : ∃ u, mg "MOST_FILLINGS" = some u ∧ RelV (.int 256) u
  g_MOST_WISHES : ∃ u, mg "MOST_WISHES" = some u ∧ RelV (.int 8) u
  g_MOST_PLACES_OF_A_WISH : ∃ u, mg "MOST_PLACES_OF_A_WISH" = some u ∧ RelV (.int 3) u
structure TxtI1 (P : Program) (w : World) (K : PySem.W.Frag) (mg : Str → Option Value) (base : Heap) : Prop extends TxtI mg where
  c_is_number : Cal P w K mg base 1 "is_number" ["thing", "low", "high"] spNum
  c_fillings_number : Cal P w K mg base 1 "fillings_number" ["many", "hues"] spFno
structure TxtI2 (P : Program) (w : World) (K : PySem.W.Frag) (mg : Str → Option Value) (base : Heap) (Ps : List Addr) : Prop extends TxtI1 P w K mg base where
  c_is_rising : Cal P w K mg base 2 "is_rising" ["parts"] (spRis Ps)
structure TxtI3 (P : Program) (w : World) (K : PySem.W.Frag) (mg : Str → Option Value) (base : Heap) (Ps : List Addr) : Prop extends TxtI2 P w K mg base Ps where
  c_are_hues : Cal P w K mg base 3 "are_hues" ["thing", "length", "hues"] (spHus Ps)
structure TxtI4 (P : Program) (w : World) (K : PySem.W.Frag) (mg : Str → Option Value) (base : Heap) (Ps : List Addr) : Prop extends TxtI mg where
  c_are_places : Cal P w K mg base 3 "are_places" ["thing", "many"] (spPls Ps)
  c_are_rows : Cal P w K mg base 5 "are_rows" ["thing", "length", "hues"] (spRws Ps)
structure TxtI5 (P : Program) (w : World) (K : PySem.W.Frag) (mg : Str → Option Value) (base : Heap) (Ps : List Addr) : Prop extends TxtI mg where
  c_is_size : Cal P w K mg base 2 "is_size" ["many", "hues"] spSiz
  c_is_wish : Cal P w K mg base 6 "is_wish" ["thing", "many", "hues"] (spWsh Ps)
section
variable {P : Program} {w : World} {K : PySem.W.Frag} {mg : Str → Option Value} {base : Heap}
theorem ok_num {f : Addr} {fd : FuncData} {k : Nat} (F : Fun K "is_number" "is_number" sNum f fd) (T : TxtI mg) : FnOk P w K mg base CX0 (k + 1) f fd ["thing", "low", "high"] spNum := by
  refine F.ok scNum (fun vs H Q E h => ?_) (fun cdv A outer s H vs Q E hr h => ?_)
  · obtain ⟨t, lo, hi, rfl, _⟩ := h
    rfl
  · obtain ⟨t, lo, hi, rfl, q⟩ := h
    refine ⟨_, (pss_one (ps_ret (pe_and (pe_callB call_isi (by rfl) T.m_isinstance (by decide +kernel) (pa_cons (pv 0) (pa_cons (pe_bltn (v := .ty "int") (by rfl) T.m_int (by decide +kernel) rfl) pa_nil))) (pe_and (pe_not (pe_callB call_isi (by rfl) T.m_isinstance (by decide +kernel) (pa_cons (pv 0) (pa_cons (pe_bltn (v := .ty "bool") (by rfl) T.m_bool (by decide +kernel) rfl) pa_nil)))) (pe_one (pe_chain op_le op_le (pv 1) (pv 0) (pv 2))))))), ?_⟩
    refine ⟨.int t, rfl, .int t, .ty "int", .type "int", .type "int", true, rfl, .ty _, .base (.int t), kit_ty (by decide +kernel), true, rfl, iteT ?_⟩
    refine ⟨.int t, rfl, .int t, .ty "bool", .type "int", .type "bool", false, rfl, .ty _, .base (.int t), kit_ty (by decide +kernel), false, rfl, true, rfl, iteT ?_⟩
    refine ⟨.int lo, rfl, .int t, rfl, lo, t, rfl, rfl, _, rfl, ite2 (fun e => ?_) (fun e => ?_)⟩
    · refine ⟨.int hi, rfl, t, hi, rfl, rfl, ?_⟩
      have e : lo ≤ t := by simpa using e
      have e2 : decide (lo ≤ t ∧ t ≤ hi) = decide (t ≤ hi) := by simp [e]
      rw [e2] at q
      exact q
    · have e : ¬ lo ≤ t := by simpa using e
      have e2 : decide (lo ≤ t ∧ t ≤ hi) = false := by simp [e]
      rw [e2] at q
      exact q
theorem ok_fno {f : Addr} {fd : FuncData} {k : Nat} (F : Fun K "fillings_number" "fillings_number" sFnu f fd) (T : TxtI mg) : FnOk P w K mg base CX0 (k + 1) f fd ["many", "hues"] spFno := by
  refine F.ok scFnu (fun vs H Q E h => ?_) (fun cdv A outer s H vs Q E hr h => ?_)
  · obtain ⟨many, hues, rfl, _⟩ := h
    rfl
  · obtain ⟨m, n, rfl, m0, m6, h0, h4, q⟩ := h
    refine ⟨_, (pss_cons (ps_set (i := 2) scFnu.nd rfl (Or.inl rfl) pe_int)
  (pss_cons (ps_for PassesOwn.never rfl (pi_range1 (by rfl) T.m_range (pa_cons (pv 0) pa_nil)) (pg_name (i := 3) scFnu.nd rfl (Or.inl rfl))
  (pss_one (ps_aug (i := 2) scFnu.nd rfl (Or.inl rfl) (pv 1) ip_mul)))
  (pss_one (ps_ret (pv 2))))), ?_⟩
    refine ⟨.int m, rfl, m, rfl, by omega, by omega, for_range (lo := 0) (n := m.toNat) (fun i σ H3 => H3 = H ∧ ∃ y3, σ = [some (.int m), some (.int n), some (.int (n ^ i)), y3]) ⟨rfl, none, by rw [Int.pow_zero]; rfl⟩ (fun i σ H3 hi p => ?_) (fun σ H3 p => ?_)⟩
    · obtain ⟨rfl, y3, rfl⟩ := p
      have b := pow_bd h0 h4 (i := i) (by omega)
      exact ⟨_, rfl, _, rfl, n ^ i, n, rfl, rfl, .inl ⟨by omega, by omega⟩, rfl, _, by rw [Int.pow_succ]; rfl⟩
    · obtain ⟨rfl, y3, rfl⟩ := p
      exact ⟨_, rfl, q⟩
theorem ok_siz {f : Addr} {fd : FuncData} {k : Nat} (F : Fun K "is_size" "is_size" sSiz f fd) (T : TxtI1 P w K mg base) : FnOk P w K mg base CX0 (k + 2) f fd ["many", "hues"] spSiz := by
  refine F.ok scSiz (fun vs H Q E h => ?_) (fun cdv A outer s H vs Q E hr h => ?_)
  · obtain ⟨many, hues, rfl, _⟩ := h
    rfl
  · obtain ⟨m, n, rfl, q⟩ := h
    have hr1 : Room 1 (A.deeper (envOfC (Str.ofString "is_size") (defScope sSiz) s.heap.objs.size f cdv)) := hr.mono (by omega)
    refine ⟨_, (pss_cons (ps_if (PW.pt (pw_or (pt_not (pt_val (pe_cal T.c_is_number (hr.mono (by omega)) (by rfl) (pa_cons (pv 0) (pa_cons pe_int (pa_cons (C8.pe_gc (by rfl) T.g_MOST_PLACES) pa_nil)))))) (pw_or1 (pt_not (pt_val (pe_cal T.c_is_number (hr.mono (by omega)) (by rfl) (pa_cons (pv 1) (pa_cons (C8.pe_gc (by rfl) T.g_LEAST_HUES) (pa_cons (C8.pe_gc (by rfl) T.g_MOST_HUES) pa_nil)))))))))
  (pss_one (ps_ret pe_bl)) pss_nil)
  (pss_one (ps_ret (pe_cmpR op_le (pe_cal T.c_fillings_number (hr.mono (by omega)) (by rfl) (pa_cons (pv 0) (pa_cons (pv 1) pa_nil))) (C8.pe_gc (by rfl) T.g_MOST_FILLINGS) (nomark _))))), ?_⟩
    refine ⟨.int m, rfl, m, 1, 6, rfl, _, rfl, ?_⟩
    by_cases h1 : 1 ≤ m ∧ m ≤ 6
    · rw [decide_eq_true h1]
      refine iteF ⟨.int n, rfl, n, 2, 4, rfl, _, rfl, ?_⟩
      by_cases h2 : 2 ≤ n ∧ n ≤ 4
      · rw [decide_eq_true h2]
        refine iteF ⟨.int m, rfl, .int n, rfl, m, n, rfl, by omega, by omega, by omega, by omega, _, _, rfl, rfl, ?_⟩
        have e : sizeOk m n = decide (n ^ m.toNat ≤ 256) := by
          unfold sizeOk
          rw [decide_eq_true h1, decide_eq_true h2, Bool.true_and, Bool.true_and]
        rw [e] at q
        exact q
      · rw [decide_eq_false h2]
        have e : sizeOk m n = false := by
          unfold sizeOk
          rw [decide_eq_false h2, Bool.and_false, Bool.false_and]
        rw [e] at q
        exact iteT q
    · rw [decide_eq_false h1]
      have e : sizeOk m n = false := by
        unfold sizeOk
        rw [decide_eq_false h1, Bool.false_and, Bool.false_and]
      rw [e] at q
      exact iteT (iteT q)
theorem ok_ris {f c Pr : Addr} {fd : FuncData} {Ps : List Addr} {k : Nat} (F : FunC K "is_rising" "is_rising" sRis f fd (.ref c)) (TB : GxR.TabB base mg c Pr) (hP : Pr ∈ Ps) (T : TxtI mg) : FnOk P w K mg base CX0 (k + 2) f fd ["parts"] (spRis Ps) := by
  refine F.ok scRis (fun vs H Q E h => ?_) (fun A outer s H vs Q E hr h => ?_)
  · obtain ⟨pa, rfl, _⟩ := h
    rfl
  · obtain ⟨pa, rfl, hT, hcase, q⟩ := h
    refine ⟨_, (pss_one (ps_ret (Gx.pe_allX (own := [("k", 1)]) (te := tOp (rLtU K) (tOp (rIxT K) (tVar 0) (tVar 1)) (tOp (rIxT K) (tVar 0) (tOp (rI0 fun i j => .int (i + j)) (tVar 1) (tC (.int 1))))) hr (by rfl) T.m_all rfl scRis.nd TB rfl (blkOk_by (own := [("k", 1)]) (N := nRis) (sc := defScope sRis) (by decide +kernel)) ⟨rfl, by decide +kernel, rfl⟩ (pi_range1 (by rfl) T.m_range (pa_cons (pe_op op_sub (pe_callB call_len_seq (by rfl) T.m_len (by decide +kernel) (pa_cons (pv 0) pa_nil)) pe_int) pa_nil))
   (fun _ _ _ _ _ _ hA => (pg_name (i := 1) scRis.nd rfl (Or.inl rfl))) (fun _ _ _ _ _ _ hA => pts_nil) (fun _ _ _ _ _ _ hA => (pe_cmpR (OpR.or op_lt (op_ltT (Nat.lt_of_le_of_lt (Nat.le_add_right _ 64) hA.units))) (pe_ix ix_tup (pv 0) (pv 1) (fun _ _ => rfl)) (pe_ix ix_tup (pv 0) (pe_op op_add (pv 1) pe_int) (fun _ _ => rfl)) (nomark _)))))), ?_⟩
    rcases hcase with ⟨ns, hpa, hri, hlen⟩ | ⟨rs, rows, hpa, prs, hri, hlen⟩
    · refine ⟨.ref pa, rfl, pa, _, rfl, .inr (.inl (.inl hpa)), _, 1, rfl, rfl, _, rfl, ?_, ?_, hT _ hP, fun H2 tb => ?_⟩
      · rw [List.length_map]; omega
      · rw [List.length_map]; omega
      have f2 := FrS.one hT hP tb
      have en : (((ns.map V.int).length : Int) - 1).toNat = ns.length - 1 := by rw [List.length_map]; omega
      rw [en]
      refine Gx.all_range (lo := 0) (n := ns.length - 1) (fun _ H3 => FrS Ps H H3) f2 (fun i H3 hi f3 => ?_) (fun H3 f3 => q H3 f3)
      obtain ⟨a, b, ha, hb, hab⟩ := ris_at hri hi
      have e0 : (0 : Int) + (i : Int) = i := Int.zero_add _
      have e1 : (0 : Int) + (i : Int) + 1 = ((i + 1 : Nat) : Int) := by omega
      refine ⟨rfl, ?_⟩
      dsimp only [tYes]
      rw [if_pos rfl]
      refine ⟨.ref pa, rfl, .int (0 + (i : Int)), rfl, pa, _, _, .int a, rfl, rfl, .inl (.inl (f3.tups hT _ _ hpa)), by rw [e0]; exact atI_nat (by rw [List.getElem?_map, ha]; rfl), ?_⟩
      refine ⟨.ref pa, rfl, .int (0 + (i : Int)), rfl, _, _, rfl, rfl, pa, _, _, .int b, rfl, rfl, .inl (.inl (f3.tups hT _ _ hpa)), by rw [e1]; exact atI_nat (by rw [List.getElem?_map, hb]; rfl), .inl ⟨a, b, rfl, rfl, _, rfl, ?_⟩⟩
      rw [if_pos (by simpa using hab)]
      exact f3
    · have rl := pairedLen prs
      refine ⟨.ref pa, rfl, pa, _, rfl, .inr (.inl (.inl hpa)), _, 1, rfl, rfl, _, rfl, ?_, ?_, hT _ hP, fun H2 tb => ?_⟩
      · rw [List.length_map]; omega
      · rw [List.length_map]; omega
      have f2 := FrS.one hT hP tb
      have en : (((rs.map V.ref).length : Int) - 1).toNat = rows.length - 1 := by rw [List.length_map]; omega
      rw [en]
      refine Gx.all_range (lo := 0) (n := rows.length - 1) (fun _ H3 => FrS Ps H H3) f2 (fun i H3 hi f3 => ?_) (fun H3 f3 => q H3 f3)
      obtain ⟨a, b, ha, hb, hab⟩ := risR_at hri hi
      obtain ⟨pa1, ea1, ra1⟩ := pairedGet prs ha
      obtain ⟨pb1, eb1, rb1⟩ := pairedGet prs hb
      have e0 : (0 : Int) + (i : Int) = i := Int.zero_add _
      have e1 : (0 : Int) + (i : Int) + 1 = ((i + 1 : Nat) : Int) := by omega
      refine ⟨rfl, ?_⟩
      dsimp only [tYes]
      rw [if_pos rfl]
      refine ⟨.ref pa, rfl, .int (0 + (i : Int)), rfl, pa, _, _, .ref pa1, rfl, rfl, .inl (.inl (f3.tups hT _ _ hpa)), by rw [e0]; exact atI_nat (by rw [List.getElem?_map, ea1]; rfl), ?_⟩
      refine ⟨.ref pa, rfl, .int (0 + (i : Int)), rfl, _, _, rfl, rfl, pa, _, _, .ref pb1, rfl, rfl, .inl (.inl (f3.tups hT _ _ hpa)), by rw [e1]; exact atI_nat (by rw [List.getElem?_map, eb1]; rfl), .inr ⟨pa1, pb1, a, b, rfl, rfl, .inl (.inl (f3.tups hT _ _ ra1)), .inl (.inl (f3.tups hT _ _ rb1)), _, rfl, ?_⟩⟩
      rw [if_pos hab]
      exact f3
theorem ok_pls {f c Pp : Addr} {fd : FuncData} {Ps : List Addr} {k : Nat} (F : FunC K "are_places" "are_places" sPls f fd (.ref c)) (TB : GxR.TabB base mg c Pp) (hP : Pp ∈ Ps) (T : TxtI2 P w K mg base Ps) : FnOk P w K mg base CX0 (k + 3) f fd ["thing", "many"] (spPls Ps) := by
  refine F.ok scPls (fun vs H Q E h => ?_) (fun A outer s H vs Q E hr h => ?_)
  · obtain ⟨pa, ns, many, rfl, _⟩ := h
    rfl
  · obtain ⟨pa, ns, many, rfl, hT, hpa, l1, l3, hpl, hri, q⟩ := h
    have hr2 : Room 2 (A.deeper (envOfC (Str.ofString "are_places") (defScope sPls) s.heap.objs.size f (.ref c))) := hr.mono (by omega)
    refine ⟨_, (pss_cons (ps_if (PW.pt (pw_or (pt_not (pt_val (pe_callB call_isi (by rfl) T.m_isinstance (by decide +kernel) (pa_cons (pv 0) (pa_cons (pe_bltn (v := .ty "tuple") (by rfl) T.m_tuple (by decide +kernel) rfl) pa_nil))))) (pw_or1 (pt_not (pt_chain op_le op_le pe_int (pe_callB call_len_seq (by rfl) T.m_len (by decide +kernel) (pa_cons (pv 0) pa_nil)) (C8.pe_gc (by rfl) T.g_MOST_PLACES_OF_A_WISH))))))
  (pss_one (ps_ret pe_bl)) pss_nil)
  (pss_one (ps_ret (pe_and (Gx.pe_allX (own := [("place", 2)]) hr (by rfl) T.m_all rfl scPls.nd TB rfl (blkOk_by (own := [("place", 2)]) (N := nPls) (sc := defScope sPls) (by decide +kernel)) ⟨rfl, by decide +kernel, rfl⟩ (pi_tup (pv 0))
   (fun _ _ _ _ _ _ hA => (pg_name (i := 2) scPls.nd rfl (Or.inl rfl))) (fun _ _ _ _ _ _ hA => pts_nil) (fun _ _ _ _ _ _ hA => (pe_cal T.c_is_number (hA.mono (by omega)) (by rfl) (pa_cons (pv 2) (pa_cons pe_int (pa_cons (pe_op op_sub (pv 1) pe_int) pa_nil)))))) (pe_one (pe_cal T.c_is_rising (hr.mono (by omega)) (by rfl) (pa_cons (pv 0) pa_nil))))))), ?_⟩
    refine ⟨.ref pa, rfl, .ref pa, .ty "tuple", .type "tuple", .type "tuple", true, rfl, .ty _, .base (.tup hpa), kit_ty (by decide +kernel), true, rfl, iteF ?_⟩
    have e1 : decide (1 ≤ ((ns.map V.int).length : Int)) = true := by rw [List.length_map]; exact decide_eq_true (by omega)
    have e3 : decide (((ns.map V.int).length : Int) ≤ 3) = true := by rw [List.length_map]; exact decide_eq_true (by omega)
    refine ⟨.ref pa, rfl, pa, _, rfl, .inr (.inl (.inl hpa)), _, _, rfl, rfl, _, rfl, ?_⟩
    rw [if_pos e1]
    refine ⟨_, _, rfl, rfl, _, rfl, ?_⟩
    rw [e3]
    refine iteF ?_
    refine ⟨.ref pa, rfl, pa, rfl, ⟨_, .inl (.inl hpa)⟩, hT _ hP, fun H2 tb => ?_⟩
    have f2 := FrS.one hT hP tb
    refine Gx.all_tup (K := K) (a := pa) (xs := ns.map V.int) (fun _ H3 => FrS Ps H H3) f2 (fun i H3 _ f3 => .inl (.inl (f3.tups hT _ _ hpa))) (fun i x H3 hx f3 => ?_) (fun H3 f3 => ?_)
    · rw [List.getElem?_map] at hx
      cases e : ns[i]? with
      | none => rw [e] at hx; cases hx
      | some n =>
        rw [e] at hx
        cases hx
        have hn := hpl n (List.mem_of_getElem? e)
        refine ⟨rfl, ?_⟩
        dsimp only [tYes]
        rw [if_pos rfl]
        refine ⟨.int n, rfl, .int many, rfl, _, _, rfl, rfl, n, 0, many - 1, rfl, _, rfl, ?_⟩
        rw [if_pos (decide_eq_true (show 0 ≤ n ∧ n ≤ many - 1 by omega))]
        exact f3
    · refine ⟨true, rfl, iteT ?_⟩
      exact ⟨.ref pa, rfl, pa, rfl, f3.2, .inl ⟨ns, f3.tups hT _ _ hpa, hri, by omega⟩, fun H4 f4 => q H4 (f3.trans f4)⟩
theorem ok_hus {f c Ph : Addr} {fd : FuncData} {Ps : List Addr} {k : Nat} (F : FunC K "are_hues" "are_hues" sHus f fd (.ref c)) (TB : GxR.TabB base mg c Ph) (hP : Ph ∈ Ps) (T : TxtI2 P w K mg base Ps) : FnOk P w K mg base CX0 (k + 3) f fd ["thing", "length", "hues"] (spHus Ps) := by
  refine F.ok scHus (fun vs H Q E h => ?_) (fun A outer s H vs Q E hr h => ?_)
  · obtain ⟨pa, ns, many, rfl, _⟩ := h
    rfl
  · obtain ⟨pa, ns, hues, rfl, hT, hpa, hpl, q⟩ := h
    have hpa : H pa = some (.tup (ns.map V.int)) := hpa
    refine ⟨_, (pss_cons (ps_if (PW.pt (pw_or (pt_not (pt_val (pe_callB call_isi (by rfl) T.m_isinstance (by decide +kernel) (pa_cons (pv 0) (pa_cons (pe_bltn (v := .ty "tuple") (by rfl) T.m_tuple (by decide +kernel) rfl) pa_nil))))) (pw_or1 (pt_cmpR op_ne (pe_callB call_len_seq (by rfl) T.m_len (by decide +kernel) (pa_cons (pv 0) pa_nil)) (pv 1) (nomark _)))))
  (pss_one (ps_ret pe_bl)) pss_nil)
  (pss_one (ps_ret (Gx.pe_allX (own := [("hue", 3)]) hr (by rfl) T.m_all rfl scHus.nd TB rfl (blkOk_by (own := [("hue", 3)]) (N := nHus) (sc := defScope sHus) (by decide +kernel)) ⟨rfl, by decide +kernel, rfl⟩ (pi_tup (pv 0))
   (fun _ _ _ _ _ _ hA => (pg_name (i := 3) scHus.nd rfl (Or.inl rfl))) (fun _ _ _ _ _ _ hA => pts_nil) (fun _ _ _ _ _ _ hA => (pe_cal T.c_is_number (hA.mono (by omega)) (by rfl) (pa_cons (pv 3) (pa_cons pe_int (pa_cons (pe_op op_sub (pv 2) pe_int) pa_nil))))))))), ?_⟩
    refine ⟨.ref pa, rfl, .ref pa, .ty "tuple", .type "tuple", .type "tuple", true, rfl, .ty _, .base (.tup hpa), kit_ty (by decide +kernel), true, rfl, iteF ?_⟩
    have el : V.int ((ns.map V.int).length : Int) = V.int (ns.length : Int) := by rw [List.length_map]
    refine ⟨.ref pa, rfl, pa, _, rfl, .inr (.inl (.inl hpa)), _, rfl, rfl, _, rfl, ?_⟩
    refine iteNS el ?_
    refine ⟨.ref pa, rfl, pa, rfl, ⟨_, .inl (.inl hpa)⟩, hT _ hP, fun H2 tb => ?_⟩
    have f2 := FrS.one hT hP tb
    refine Gx.all_tup (K := K) (a := pa) (xs := ns.map V.int) (fun _ H3 => FrS Ps H H3) f2 (fun i H3 _ f3 => .inl (.inl (f3.tups hT _ _ hpa))) (fun i x H3 hx f3 => ?_) (fun H3 f3 => q H3 f3)
    rw [List.getElem?_map] at hx
    cases e : ns[i]? with
    | none => rw [e] at hx; cases hx
    | some n =>
      rw [e] at hx
      cases hx
      have hn := hpl n (List.mem_of_getElem? e)
      refine ⟨rfl, ?_⟩
      dsimp only [tYes]
      rw [if_pos rfl]
      refine ⟨.int n, rfl, .int hues, rfl, _, _, rfl, rfl, n, 0, hues - 1, rfl, _, rfl, ?_⟩
      rw [if_pos (decide_eq_true (show 0 ≤ n ∧ n ≤ hues - 1 by omega))]
      exact f3
theorem ok_rws {f c Pw : Addr} {fd : FuncData} {Ps : List Addr} {k : Nat} (F : FunC K "are_rows" "are_rows" sRws f fd (.ref c)) (TB : GxR.TabB base mg c Pw) (hP : Pw ∈ Ps) (T : TxtI3 P w K mg base Ps) : FnOk P w K mg base CX0 (k + 5) f fd ["thing", "length", "hues"] (spRws Ps) := by
  refine F.ok scRws (fun vs H Q E h => ?_) (fun A outer s H vs Q E hr h => ?_)
  · obtain ⟨pa, rs, rows, n, hues, rfl, _⟩ := h
    rfl
  · obtain ⟨pa, rs, rows, n, hues, rfl, hT, hpa, prs, l1, l2, hrow, hri, q⟩ := h
    have hr2 : Room 2 (A.deeper (envOfC (Str.ofString "are_rows") (defScope sRws) s.heap.objs.size f (.ref c))) := hr.mono (by omega)
    have rl := pairedLen prs
    refine ⟨_, (pss_cons (ps_if (PW.pt (pw_or (pt_not (pt_val (pe_callB call_isi (by rfl) T.m_isinstance (by decide +kernel) (pa_cons (pv 0) (pa_cons (pe_bltn (v := .ty "tuple") (by rfl) T.m_tuple (by decide +kernel) rfl) pa_nil))))) (pw_or1 (pt_cmpR op_eq (pe_callB call_len_seq (by rfl) T.m_len (by decide +kernel) (pa_cons (pv 0) pa_nil)) pe_int (nomark _)))))
  (pss_one (ps_ret pe_bl)) pss_nil)
  (pss_one (ps_ret (pe_and (Gx.pe_allX (own := [("row", 3)]) hr (by rfl) T.m_all rfl scRws.nd TB rfl (blkOk_by (own := [("row", 3)]) (N := nRws) (sc := defScope sRws) (by decide +kernel)) ⟨rfl, by decide +kernel, rfl⟩ (pi_tup (pv 0))
   (fun _ _ _ _ _ _ hA => (pg_name (i := 3) scRws.nd rfl (Or.inl rfl))) (fun _ _ _ _ _ _ hA => pts_nil) (fun _ _ _ _ _ _ hA => (pe_cal T.c_are_hues (hA.mono (by omega)) (by rfl) (pa_cons (pv 3) (pa_cons (pv 1) (pa_cons (pv 2) pa_nil)))))) (pe_one (pe_cal T.c_is_rising (hr.mono (by omega)) (by rfl) (pa_cons (pv 0) pa_nil))))))), ?_⟩
    refine ⟨.ref pa, rfl, .ref pa, .ty "tuple", .type "tuple", .type "tuple", true, rfl, .ty _, .base (.tup hpa), kit_ty (by decide +kernel), true, rfl, iteF ?_⟩
    have el : decide (V.int ((rs.map V.ref).length : Int) = V.int 0) = false := by
      rw [List.length_map]
      refine decide_eq_false fun z => ?_
      have z2 : (rs.length : Int) = 0 := by injection z
      omega
    refine ⟨.ref pa, rfl, pa, _, rfl, .inr (.inl (.inl hpa)), rfl, _, rfl, ?_⟩
    rw [el]
    refine iteF ?_
    refine ⟨.ref pa, rfl, pa, rfl, ⟨_, .inl (.inl hpa)⟩, hT _ hP, fun H2 tb => ?_⟩
    have f2 := FrS.one hT hP tb
    refine Gx.all_tup (K := K) (a := pa) (xs := rs.map V.ref) (fun _ H3 => FrS Ps H H3) f2 (fun i H3 _ f3 => .inl (.inl (f3.tups hT _ _ hpa))) (fun i x H3 hx f3 => ?_) (fun H3 f3 => ?_)
    · rw [List.getElem?_map] at hx
      cases e : rs[i]? with
      | none => rw [e] at hx; cases hx
      | some ra =>
        rw [e] at hx
        cases hx
        obtain ⟨row, hrw, isr⟩ := pairedGetL prs e
        have hn := hrow row (List.mem_of_getElem? hrw)
        refine ⟨rfl, ?_⟩
        dsimp only [tYes]
        rw [if_pos rfl]
        refine ⟨.ref ra, rfl, .int n, rfl, .int hues, rfl, ra, row, hues, by rw [hn.1]; rfl, f3.2, f3.tups hT _ _ isr, hn.2, fun H4 f4 => ⟨true, rfl, ?_⟩⟩
        rw [if_pos rfl]
        exact f3.trans f4
    · refine ⟨true, rfl, iteT ?_⟩
      exact ⟨.ref pa, rfl, pa, rfl, f3.2, .inr ⟨rs, rows, f3.tups hT _ _ hpa, pairedMap (fun _ _ e => f3.tups hT _ _ e) prs, hri, l2⟩, fun H4 f4 => q H4 (f3.trans f4)⟩
theorem ok_wsh {f : Addr} {fd : FuncData} {Ps : List Addr} {k : Nat} (F : Fun K "is_wish" "is_wish" sWsh f fd) (T : TxtI4 P w K mg base Ps) : FnOk P w K mg base CX0 (k + 6) f fd ["thing", "many", "hues"] (spWsh Ps) := by
  refine F.ok scWsh (fun vs H Q E h => ?_) (fun cdv A outer s H vs Q E hr h => ?_)
  · obtain ⟨wa, wd, many, hues, rfl, _⟩ := h
    rfl
  · obtain ⟨wa, wd, many, hues, rfl, hT, hw, gw, rw_, q⟩ := h
    have hr3 : Room 3 (A.deeper (envOfC (Str.ofString "is_wish") (defScope sWsh) s.heap.objs.size f cdv)) := hr.mono (by omega)
    have hr5 : Room 5 (A.deeper (envOfC (Str.ofString "is_wish") (defScope sWsh) s.heap.objs.size f cdv)) := hr.mono (by omega)
    refine ⟨_, (pss_cons (ps_if (PW.pt (pw_or (pt_not (pt_val (pe_callB call_isi (by rfl) T.m_isinstance (by decide +kernel) (pa_cons (pv 0) (pa_cons (pe_bltn (v := .ty "tuple") (by rfl) T.m_tuple (by decide +kernel) rfl) pa_nil))))) (pw_or1 (pt_cmpR op_ne (pe_callB call_len_seq (by rfl) T.m_len (by decide +kernel) (pa_cons (pv 0) pa_nil)) pe_int (nomark _)))))
  (pss_one (ps_ret pe_bl)) pss_nil)
  (pss_cons (ps_asg (pv 0) (pg_tup rfl (pgs_cons (pg_name (i := 3) scWsh.nd rfl (Or.inl rfl)) (pgs_cons (pg_name (i := 4) scWsh.nd rfl (Or.inl rfl)) pgs_nil))))
  (pss_one (ps_ret (pe_and (pe_cal T.c_are_places (hr.mono (by omega)) (by rfl) (pa_cons (pv 3) (pa_cons (pv 1) pa_nil))) (pe_one (pe_cal T.c_are_rows (hr.mono (by omega)) (by rfl) (pa_cons (pv 4) (pa_cons (pe_callB call_len_seq (by rfl) T.m_len (by decide +kernel) (pa_cons (pv 3) pa_nil)) (pa_cons (pv 2) pa_nil)))))))))), ?_⟩
    obtain ⟨pa, ra, rs, h1, h2, h3, h4⟩ := id hw
    refine ⟨.ref wa, rfl, .ref wa, .ty "tuple", .type "tuple", .type "tuple", true, rfl, .ty _, .base (.tup h1), kit_ty (by decide +kernel), true, rfl, iteF ?_⟩
    refine ⟨.ref wa, rfl, wa, _, rfl, .inr (.inl (.inl h1)), rfl, _, rfl, iteNS rfl ?_⟩
    refine ⟨.ref wa, rfl, wa, _, rfl, .inl (.inl h1), rfl, .ref pa, [.ref ra], rfl, .ref ra, [], rfl, rfl, ?_⟩
    refine ⟨.ref pa, rfl, .int many, rfl, pa, wd.1, many, rfl, hT, h2, gw.one, gw.three, gw.pl, rw_.pl, fun H2 f2 => ⟨true, rfl, iteT ?_⟩⟩
    refine ⟨.ref ra, rfl, .ref pa, rfl, pa, _, rfl, .inr (.inl (.inl (f2.tups hT _ _ h2))), .int hues, rfl, ra, rs, wd.2, wd.1.length, hues, by rw [List.length_map]; rfl, f2.2, f2.tups hT _ _ h3, pairedMap (fun _ _ e => f2.tups hT _ _ e) h4, gw.some_, by have := gw.few; omega, gw.row, rw_.rows, fun H3 f3 => q H3 (f2.trans f3)⟩
theorem ok_ird {f c Pi : Addr} {fd : FuncData} {Ps : List Addr} {k : Nat} (F : FunC K "is_riddle" "is_riddle" sIrd f fd (.ref c)) (TB : GxR.TabB base mg c Pi) (hP : Pi ∈ Ps) (T : TxtI5 P w K mg base Ps) : FnOk P w K mg base CX0 (k + 8) f fd ["thing"] (spIrd Ps) := by
  refine F.ok scIrd (fun vs H Q E h => ?_) (fun A outer s H vs Q E hr h => ?_)
  · obtain ⟨ri, z, many, hues, rfl, _⟩ := h
    rfl
  · obtain ⟨ri, z, many, hues, rfl, hT, h1, hcase⟩ := h
    have hr2 : Room 2 (A.deeper (envOfC (Str.ofString "is_riddle") (defScope sIrd) s.heap.objs.size f (.ref c))) := hr.mono (by omega)
    refine ⟨_, (pss_cons (ps_if (PW.pt (pw_or (pt_not (pt_val (pe_callB call_isi (by rfl) T.m_isinstance (by decide +kernel) (pa_cons (pv 0) (pa_cons (pe_bltn (v := .ty "tuple") (by rfl) T.m_tuple (by decide +kernel) rfl) pa_nil))))) (pw_or1 (pt_cmpR op_ne (pe_callB call_len_seq (by rfl) T.m_len (by decide +kernel) (pa_cons (pv 0) pa_nil)) pe_int (nomark _)))))
  (pss_one (ps_ret pe_bl)) pss_nil)
  (pss_cons (ps_asg (pv 0) (pg_tup rfl (pgs_cons (pg_name (i := 1) scIrd.nd rfl (Or.inr rfl)) (pgs_cons (pg_name (i := 2) scIrd.nd rfl (Or.inr rfl)) (pgs_cons (pg_name (i := 3) scIrd.nd rfl (Or.inl rfl)) pgs_nil)))))
  (pss_cons (ps_if (pt_not (pt_val (pe_cal T.c_is_size (hr.mono (by omega)) (by rfl) (pa_cons (pv 1) (pa_cons (pv 2) pa_nil)))))
  (pss_one (ps_ret pe_bl)) pss_nil)
  (pss_cons (ps_if (PW.pt (pw_or (pt_not (pt_val (pe_callB call_isi (by rfl) T.m_isinstance (by decide +kernel) (pa_cons (pv 3) (pa_cons (pe_bltn (v := .ty "tuple") (by rfl) T.m_tuple (by decide +kernel) rfl) pa_nil))))) (pw_or1 (pt_cmpR op_gt (pe_callB call_len_seq (by rfl) T.m_len (by decide +kernel) (pa_cons (pv 3) pa_nil)) (C8.pe_gc (by rfl) T.g_MOST_WISHES) (nomark _)))))
  (pss_one (ps_ret pe_bl)) pss_nil)
  (pss_one (ps_ret (Gx.pe_allX (own := [("wish", 4)]) hr (by rfl) T.m_all rfl scIrd.nd TB rfl (blkOk_by (own := [("wish", 4)]) (N := nIrd) (sc := defScope sIrd) (by decide +kernel)) ⟨rfl, by decide +kernel, rfl⟩ (pi_tup (pv 3))
   (fun _ _ _ _ _ _ hA => (pg_name (i := 4) scIrd.nd rfl (Or.inl rfl))) (fun _ _ _ _ _ _ hA => pts_nil) (fun _ _ _ _ _ _ hA => (pe_cal T.c_is_wish (hA.mono (by omega)) (by rfl) (pa_cons (pv 4) (pa_cons (pv 1) (pa_cons (pv 2) pa_nil)))))))))))), ?_⟩
    refine ⟨.ref ri, rfl, .ref ri, .ty "tuple", .type "tuple", .type "tuple", true, rfl, .ty _, .base (.tup h1), kit_ty (by decide +kernel), true, rfl, iteF ?_⟩
    refine ⟨.ref ri, rfl, ri, _, rfl, .inr (.inl (.inl h1)), rfl, _, rfl, iteNS rfl ?_⟩
    refine ⟨.ref ri, rfl, ri, _, rfl, .inl (.inl h1), rfl, .int many, [.int hues, z], rfl, .int hues, [z], rfl, z, [], rfl, rfl, ?_⟩
    rcases hcase with ⟨e, q⟩ | ⟨e, wds, hrd, gr, hri, q⟩
    · refine ⟨.int many, rfl, .int hues, rfl, many, hues, rfl, false, by rw [e], iteT q⟩
    · refine ⟨.int many, rfl, .int hues, rfl, many, hues, rfl, true, by rw [e], iteF ?_⟩
      obtain ⟨wt, was, h1', h2, h3⟩ := hrd
      have ez : z = .ref wt := by
        rw [h1] at h1'
        cases h1'
        rfl
      subst ez
      have hl := pairedLen h3
      have e8 := gr.eight
      refine ⟨.ref wt, rfl, .ref wt, .ty "tuple", .type "tuple", .type "tuple", true, rfl, .ty _, .base (.tup h2), kit_ty (by decide +kernel), true, rfl, iteF ?_⟩
      have e9 : decide ((8 : Int) < ((was.map V.ref).length : Int)) = false := by rw [List.length_map]; exact decide_eq_false (by omega)
      refine ⟨.ref wt, rfl, wt, _, rfl, .inr (.inl (.inl h2)), _, _, rfl, rfl, _, rfl, ?_⟩
      rw [e9]
      refine iteF ?_
      refine ⟨.ref wt, rfl, wt, rfl, ⟨_, .inl (.inl h2)⟩, hT _ hP, fun H2 tb => ?_⟩
      have f2 := FrS.one hT hP tb
      refine Gx.all_tup (K := K) (a := wt) (xs := was.map V.ref) (fun _ H3 => FrS Ps H H3) f2 (fun i H3 _ f3 => .inl (.inl (f3.tups hT _ _ h2))) (fun i x H3 hx f3 => ?_) (fun H3 f3 => q H3 f3)
      rw [List.getElem?_map] at hx
      cases ew : was[i]? with
      | none => rw [ew] at hx; cases hx
      | some wa =>
        rw [ew] at hx
        cases hx
        obtain ⟨wd, hwd, isw⟩ := pairedGetL h3 ew
        have hm := List.mem_of_getElem? hwd
        refine ⟨rfl, ?_⟩
        dsimp only [tYes]
        rw [if_pos rfl]
        refine ⟨.ref wa, rfl, .int many, rfl, .int hues, rfl, wa, wd, many, hues, rfl, f3.2, isw.mono (f3.tups hT), gr.each wd hm, hri wd hm, fun H4 f4 => ⟨true, rfl, ?_⟩⟩
        rw [if_pos rfl]
        exact f3.trans f4
end
end Rd

set_option Elab.async false
set_option linter.all false
set_option maxRecDepth 100000
set_option maxHeartbeats 4000000
/-! riddles and their parts, looked for in things of any kind -/
namespace Rd
open PySem PySem.Spec PyProof.Rows L2 Dt
def numD (lo hi : Int) : PyData → Bool
  | .int i => decide (lo ≤ i ∧ i ≤ hi)
  | _ => false
def intD : PyData → Int
  | .int i => i
  | _ => 0
def rowI : PyData → List Int
  | .tuple l => l.map intD
  | _ => []
def lenD : PyData → Nat
  | .tuple l => l.length
  | _ => 0
def plsD (many : Int) : PyData → Bool
  | .tuple l => decide (1 ≤ l.length ∧ l.length ≤ 3) && l.all (numD 0 (many - 1)) && risI (l.map intD)
  | _ => false
def husD (n : Nat) (hues : Int) : PyData → Bool
  | .tuple l => decide (l.length = n) && l.all (numD 0 (hues - 1))
  | _ => false
def rwsD (n : Nat) (hues : Int) : PyData → Bool
  | .tuple l => decide (l.length ≠ 0) && l.all (husD n hues) && risR (l.map rowI)
  | _ => false
def wshD (many hues : Int) : PyData → Bool
  | .tuple [p, r] => plsD many p && rwsD (lenD p) hues r
  | _ => false
def sizD : PyData → PyData → Bool
  | .int m, .int h => sizeOk m h
  | _, _ => false
def irdD : PyData → Bool
  | .tuple [m, h, .tuple l] => sizD m h && decide (l.length ≤ 8) && l.all (wshD (intD m) (intD h))
  | _ => false
theorem all_no {α : Type} {l : List α} {p : α → Bool} {x : α} (h : x ∈ l) (e : p x = false) : l.all p = false := by
  cases z : l.all p with
  | false => rfl
  | true =>
    have := List.all_eq_true.mp z x h
    rw [e] at this
    cases this
theorem num_all {lo hi : Int} : ∀ {l : List PyData}, l.all (numD lo hi) = true → l = (l.map intD).map PyData.int
  | [], _ => rfl
  | d :: r, h => by
    rw [List.all_cons, Bool.and_eq_true] at h
    cases d with
    | int i =>
      rw [List.map_cons, List.map_cons, ← num_all h.2]
      rfl
    | _ => exact nomatch h.1
theorem an_ints {H : Hp} : ∀ {xs : List V} {ns : List Int}, AnyAll H xs (ns.map PyData.int) → xs = ns.map V.int
  | _, [], h => by cases h; rfl
  | _, n :: r, h => by
    cases h with
    | cons a t =>
      cases a with
      | int => rw [an_ints t]; rfl
      | dct l => cases l
theorem hus_row {n : Nat} {hues : Int} {d : PyData} (h : husD n hues d = true) : d = .tuple ((rowI d).map PyData.int) ∧ (rowI d).length = n ∧ ∀ x ∈ rowI d, 0 ≤ x ∧ x < hues := by
  cases d with
  | tuple l =>
    simp only [husD, Bool.and_eq_true, decide_eq_true_eq] at h
    refine ⟨congrArg _ (num_all h.2), by show (l.map intD).length = n; rw [List.length_map]; exact h.1, fun x hx => ?_⟩
    obtain ⟨d, hd, rfl⟩ := List.mem_map.mp (show x ∈ l.map intD from hx)
    have z := List.all_eq_true.mp h.2 d hd
    cases d with
    | int i =>
      have z : decide (0 ≤ i ∧ i ≤ hues - 1) = true := z
      have := of_decide_eq_true z
      show 0 ≤ i ∧ i < hues
      omega
    | _ => exact nomatch z
  | _ => exact nomatch h
theorem an_rows {H : Hp} {n : Nat} {hues : Int} : ∀ {l : List PyData} {xs : List V}, AnyAll H xs l → l.all (husD n hues) = true → ∃ rs : List Addr, xs = rs.map V.ref ∧ Paired (IsRow H) rs (l.map rowI)
  | [], _, h, _ => by cases h; exact ⟨[], rfl, .nil⟩
  | d :: r, _, h, e => by
    rw [List.all_cons, Bool.and_eq_true] at e
    cases h with
    | cons a t =>
      obtain ⟨rs, q1, q2⟩ := an_rows t e.2
      have hd := (hus_row e.1).1
      generalize rowI d = row at hd
      subst hd
      cases a with
      | dct l => cases l
      | @tup b xs0 _ eb tb =>
        refine ⟨b :: rs, by rw [q1]; rfl, ?_⟩
        refine .cons ?_ q2
        have hx := an_ints tb
        subst hx
        show H b = some (.tup _)
        rw [eb]
        show some (HO.tup (row.map V.int)) = some (.tup ((rowI (.tuple (row.map PyData.int))).map V.int))
        have e9 : rowI (.tuple (row.map PyData.int)) = row := by
          show (row.map PyData.int).map intD = row
          rw [List.map_map]
          exact List.map_id' row
        rw [e9]
def spNumA : Sp := fun vs H Q _ => ∃ (v : V) (d : PyData) (lo hi : Int), vs = [v, .int lo, .int hi] ∧ Any H v d ∧ Q (.bl (numD lo hi d)) H
def spSizA : Sp := fun vs H Q _ => ∃ (v u : V) (d e : PyData), vs = [v, u] ∧ Any H v d ∧ Any H u e ∧ Q (.bl (sizD d e)) H
def spRisA (Ps : List Addr) : Sp := fun vs H Q _ => ∃ pa : Addr, vs = [.ref pa] ∧ Tabs Ps H ∧ ((∃ ns : List Int, H pa = some (.tup (ns.map V.int)) ∧ ns.length ≤ 200000 ∧ ∀ H', FrS Ps H H' → Q (.bl (risI ns)) H') ∨ (∃ (rs : List Addr) (rows : List Dt.Row), H pa = some (.tup (rs.map V.ref)) ∧ Paired (IsRow H) rs rows ∧ rows.length ≤ 200000 ∧ ∀ H', FrS Ps H H' → Q (.bl (risR rows)) H'))
def spPlsA (Ps : List Addr) : Sp := fun vs H Q _ => ∃ (v : V) (d : PyData) (many : Int), vs = [v, .int many] ∧ Tabs Ps H ∧ Any H v d ∧ lenD d ≤ 200000 ∧ ∀ H', FrS Ps H H' → Q (.bl (plsD many d)) H'
def spHusA (Ps : List Addr) : Sp := fun vs H Q _ => ∃ (v : V) (d : PyData) (n : Nat) (hues : Int), vs = [v, .int n, .int hues] ∧ Tabs Ps H ∧ Any H v d ∧ ∀ H', FrS Ps H H' → Q (.bl (husD n hues d)) H'
def spRwsA (Ps : List Addr) : Sp := fun vs H Q _ => ∃ (v : V) (d : PyData) (n : Nat) (hues : Int), vs = [v, .int n, .int hues] ∧ Tabs Ps H ∧ Any H v d ∧ lenD d ≤ 200000 ∧ ∀ H', FrS Ps H H' → Q (.bl (rwsD n hues d)) H'
/-- not too long -/
def ShortW : PyData → Prop
  | .tuple [p, r] => lenD p ≤ 200000 ∧ lenD r ≤ 200000
  | _ => True
def spWshA (Ps : List Addr) : Sp := fun vs H Q _ => ∃ (v : V) (d : PyData) (many hues : Int), vs = [v, .int many, .int hues] ∧ Tabs Ps H ∧ Any H v d ∧ ShortW d ∧ ∀ H', FrS Ps H H' → Q (.bl (wshD many hues d)) H'
structure TxtIA1 (P : Program) (w : World) (K : PySem.W.Frag) (mg : Str → Option Value) (base : Heap) : Prop extends TxtI mg where
  c_is_number : Cal P w K mg base 1 "is_number" ["thing", "low", "high"] spNumA
  c_fillings_number : Cal P w K mg base 1 "fillings_number" ["many", "hues"] spFno
structure TxtIA2 (P : Program) (w : World) (K : PySem.W.Frag) (mg : Str → Option Value) (base : Heap) (Ps : List Addr) : Prop extends TxtIA1 P w K mg base where
  c_is_rising : Cal P w K mg base 2 "is_rising" ["parts"] (spRisA Ps)
structure TxtIA3 (P : Program) (w : World) (K : PySem.W.Frag) (mg : Str → Option Value) (base : Heap) (Ps : List Addr) : Prop extends TxtIA2 P w K mg base Ps where
  c_are_hues : Cal P w K mg base 3 "are_hues" ["thing", "length", "hues"] (spHusA Ps)
structure TxtIA4 (P : Program) (w : World) (K : PySem.W.Frag) (mg : Str → Option Value) (base : Heap) (Ps : List Addr) : Prop extends TxtI mg where
  c_are_places : Cal P w K mg base 3 "are_places" ["thing", "many"] (spPlsA Ps)
  c_are_rows : Cal P w K mg base 5 "are_rows" ["thing", "length", "hues"] (spRwsA Ps)
section
variable {P : Program} {w : World} {K : PySem.W.Frag} {mg : Str → Option Value} {base : Heap}
/-- isinstance(thing, T), T one of Python's -/
theorem isi_an {H : Hp} {v : V} {d : PyData} {t : String} {b : Bool} {Q : VK} (h : Any H v d) (e : kitB (tyD d) t = some b) (q : Q (.bl b) H) : rIsi K [v, .ty t] H Q := ⟨v, .ty t, _, .type t, b, rfl, .ty _, h.ty, kit_ty e, q⟩
theorem kit_all : ∀ a ∈ ["NoneType", "bool", "int", "str", "list", "tuple", "dict"], ∀ t ∈ ["int", "bool", "tuple", "list", "str"], kitB a t = some (a == t || (a == "bool" && t == "int")) := by decide +kernel
theorem ty_in (d : PyData) : tyD d ∈ ["NoneType", "bool", "int", "str", "list", "tuple", "dict"] := by cases d <;> simp [tyD]
theorem kit_self {d : PyData} {t : String} (h1 : t = "int" ∨ t = "bool" ∨ t = "tuple" ∨ t = "list" ∨ t = "str") : kitB (tyD d) t = some (tyD d == t || (tyD d == "bool" && t == "int")) := kit_all _ (ty_in d) _ (by simpa using h1)
theorem ok_numA {f : Addr} {fd : FuncData} {k : Nat} (F : Fun K "is_number" "is_number" sNum f fd) (T : TxtI mg) : FnOk P w K mg base CX0 (k + 1) f fd ["thing", "low", "high"] spNumA := by
  refine F.ok scNum (fun vs H Q E h => ?_) (fun cdv A outer s H vs Q E hr h => ?_)
  · obtain ⟨v, d, lo, hi, rfl, _⟩ := h
    rfl
  · obtain ⟨v, d, lo, hi, rfl, an, q⟩ := h
    refine ⟨_, (pss_one (ps_ret (pe_and (pe_callB call_isi (by rfl) T.m_isinstance (by decide +kernel) (pa_cons (pv 0) (pa_cons (pe_bltn (v := .ty "int") (by rfl) T.m_int (by decide +kernel) rfl) pa_nil))) (pe_and (pe_not (pe_callB call_isi (by rfl) T.m_isinstance (by decide +kernel) (pa_cons (pv 0) (pa_cons (pe_bltn (v := .ty "bool") (by rfl) T.m_bool (by decide +kernel) rfl) pa_nil)))) (pe_one (pe_chain op_le op_le (pv 1) (pv 0) (pv 2))))))), ?_⟩
    refine ⟨v, rfl, v, .ty "int", _, .type "int", _, rfl, .ty _, an.ty, kit_ty (kit_self (.inl rfl)), _, rfl, ?_⟩
    cases d with
    | int t =>
      cases an with
      | dct l => cases l
      | int =>
        refine iteT ?_
        refine ⟨.int t, rfl, .int t, .ty "bool", _, .type "bool", _, rfl, .ty _, (show Any H (.int t) (.int t) from .int t).ty, kit_ty (kit_self (.inr (.inl rfl))), _, rfl, _, rfl, iteT ?_⟩
        refine ⟨.int lo, rfl, .int t, rfl, lo, t, rfl, rfl, _, rfl, ite2 (fun e => ?_) (fun e => ?_)⟩
        · refine ⟨.int hi, rfl, t, hi, rfl, rfl, ?_⟩
          have e : lo ≤ t := by simpa using e
          have e2 : numD lo hi (.int t) = decide (t ≤ hi) := by simp [numD, e]
          rw [e2] at q
          exact q
        · have e : ¬ lo ≤ t := by simpa using e
          have e2 : numD lo hi (.int t) = false := by simp [numD, e]
          rw [e2] at q
          exact q
    | bool b =>
      refine iteT ?_
      refine ⟨v, rfl, v, .ty "bool", _, .type "bool", _, rfl, .ty _, an.ty, kit_ty (kit_self (.inr (.inl rfl))), _, rfl, _, rfl, ?_⟩
      exact iteF q
    | none => exact iteF q
    | str x => exact iteF q
    | list l => exact iteF q
    | tuple l => exact iteF q
    | dict l => exact iteF q
theorem ok_sizA {f : Addr} {fd : FuncData} {k : Nat} (F : Fun K "is_size" "is_size" sSiz f fd) (T : TxtIA1 P w K mg base) : FnOk P w K mg base CX0 (k + 2) f fd ["many", "hues"] spSizA := by
  refine F.ok scSiz (fun vs H Q E h => ?_) (fun cdv A outer s H vs Q E hr h => ?_)
  · obtain ⟨v, u, d, e, rfl, _⟩ := h
    rfl
  · obtain ⟨v, u, d, e, rfl, an, bn, q⟩ := h
    have hr1 : Room 1 (A.deeper (envOfC (Str.ofString "is_size") (defScope sSiz) s.heap.objs.size f cdv)) := hr.mono (by omega)
    refine ⟨_, (pss_cons (ps_if (PW.pt (pw_or (pt_not (pt_val (pe_cal T.c_is_number (hr.mono (by omega)) (by rfl) (pa_cons (pv 0) (pa_cons pe_int (pa_cons (C8.pe_gc (by rfl) T.g_MOST_PLACES) pa_nil)))))) (pw_or1 (pt_not (pt_val (pe_cal T.c_is_number (hr.mono (by omega)) (by rfl) (pa_cons (pv 1) (pa_cons (C8.pe_gc (by rfl) T.g_LEAST_HUES) (pa_cons (C8.pe_gc (by rfl) T.g_MOST_HUES) pa_nil)))))))))
  (pss_one (ps_ret pe_bl)) pss_nil)
  (pss_one (ps_ret (pe_cmpR op_le (pe_cal T.c_fillings_number (hr.mono (by omega)) (by rfl) (pa_cons (pv 0) (pa_cons (pv 1) pa_nil))) (C8.pe_gc (by rfl) T.g_MOST_FILLINGS) (nomark _))))), ?_⟩
    have no : ∀ {d e : PyData}, (numD 1 6 d = false ∨ numD 2 4 e = false) → sizD d e = false := fun {d e} h => by
      cases d with
      | int m =>
        cases e with
        | int n =>
          show sizeOk m n = false
          unfold sizeOk
          rcases h with h | h
          · have h : decide (1 ≤ m ∧ m ≤ 6) = false := h
            rw [h, Bool.false_and, Bool.false_and]
          · have h : decide (2 ≤ n ∧ n ≤ 4) = false := h
            rw [h, Bool.and_false, Bool.false_and]
        | _ => rfl
      | _ => rfl
    refine ⟨v, rfl, v, d, 1, 6, rfl, an, _, rfl, ?_⟩
    cases h1 : numD 1 6 d with
    | false =>
      rw [no (.inl h1)] at q
      exact iteT q
    | true =>
      refine iteF ⟨u, rfl, u, e, 2, 4, rfl, bn, _, rfl, ?_⟩
      cases h2 : numD 2 4 e with
      | false =>
        rw [no (.inr h2)] at q
        exact iteT q
      | true =>
        cases d with
        | int m =>
          cases e with
          | int n =>
            have h1 : decide (1 ≤ m ∧ m ≤ 6) = true := h1
            have h2 : decide (2 ≤ n ∧ n ≤ 4) = true := h2
            have g1 := of_decide_eq_true h1
            have g2 := of_decide_eq_true h2
            cases an with
            | dct l => cases l
            | int =>
              cases bn with
              | dct l => cases l
              | int =>
                refine iteF ⟨.int m, rfl, .int n, rfl, m, n, rfl, by omega, by omega, by omega, by omega, _, _, rfl, rfl, ?_⟩
                have e : sizD (.int m) (.int n) = decide (n ^ m.toNat ≤ 256) := by
                  show sizeOk m n = _
                  unfold sizeOk
                  rw [h1, h2, Bool.true_and, Bool.true_and]
                rw [e] at q
                exact q
          | _ => exact nomatch h2
        | _ => exact nomatch h1
theorem ok_risA {f c Pr : Addr} {fd : FuncData} {Ps : List Addr} {k : Nat} (F : FunC K "is_rising" "is_rising" sRis f fd (.ref c)) (TB : GxR.TabB base mg c Pr) (hP : Pr ∈ Ps) (T : TxtI mg) : FnOk P w K mg base CX0 (k + 2) f fd ["parts"] (spRisA Ps) := by
  refine F.ok scRis (fun vs H Q E h => ?_) (fun A outer s H vs Q E hr h => ?_)
  · obtain ⟨pa, rfl, _⟩ := h
    rfl
  · obtain ⟨pa, rfl, hT, hcase⟩ := h
    refine ⟨_, (pss_one (ps_ret (Gx.pe_allX (own := [("k", 1)]) (te := tOp (rLtU K) (tOp (rIxT K) (tVar 0) (tVar 1)) (tOp (rIxT K) (tVar 0) (tOp (rI0 fun i j => .int (i + j)) (tVar 1) (tC (.int 1))))) hr (by rfl) T.m_all rfl scRis.nd TB rfl (blkOk_by (own := [("k", 1)]) (N := nRis) (sc := defScope sRis) (by decide +kernel)) ⟨rfl, by decide +kernel, rfl⟩ (pi_range1 (by rfl) T.m_range (pa_cons (pe_op op_sub (pe_callB call_len_seq (by rfl) T.m_len (by decide +kernel) (pa_cons (pv 0) pa_nil)) pe_int) pa_nil))
   (fun _ _ _ _ _ _ hA => (pg_name (i := 1) scRis.nd rfl (Or.inl rfl))) (fun _ _ _ _ _ _ hA => pts_nil) (fun _ _ _ _ _ _ hA => (pe_cmpR (OpR.or op_lt (op_ltT (Nat.lt_of_le_of_lt (Nat.le_add_right _ 64) hA.units))) (pe_ix ix_tup (pv 0) (pv 1) (fun _ _ => rfl)) (pe_ix ix_tup (pv 0) (pe_op op_add (pv 1) pe_int) (fun _ _ => rfl)) (nomark _)))))), ?_⟩
    rcases hcase with ⟨ns, hpa, hlen, q⟩ | ⟨rs, rows, hpa, prs, hlen, q⟩
    · refine ⟨.ref pa, rfl, pa, _, rfl, .inr (.inl (.inl hpa)), _, 1, rfl, rfl, _, rfl, ?_, ?_, hT _ hP, fun H2 tb => ?_⟩
      · rw [List.length_map]; omega
      · rw [List.length_map]; omega
      have f2 := FrS.one hT hP tb
      have en : (((ns.map V.int).length : Int) - 1).toNat = ns.length - 1 := by rw [List.length_map]; omega
      rw [en]
      refine Gx.all_range (lo := 0) (n := ns.length - 1) (fun i H3 => FrS Ps H H3 ∧ ∀ j, j < i → ns.getD j 0 < ns.getD (j + 1) 0) ⟨f2, fun j hj => absurd hj (Nat.not_lt_zero _)⟩ (fun i H3 hi p => ?_) (fun H3 p => ?_)
      · obtain ⟨f3, hp⟩ := p
        have h1 : i < ns.length := by omega
        have h2 : i + 1 < ns.length := by omega
        have ha := getD_get (d := 0) h1
        have hb := getD_get (d := 0) h2
        have e0 : (0 : Int) + (i : Int) = i := Int.zero_add _
        have e1 : (0 : Int) + (i : Int) + 1 = ((i + 1 : Nat) : Int) := by omega
        refine ⟨rfl, ?_⟩
        dsimp only [tYes]
        rw [if_pos rfl]
        refine ⟨.ref pa, rfl, .int (0 + (i : Int)), rfl, pa, _, _, .int ns[i], rfl, rfl, .inl (.inl (f3.tups hT _ _ hpa)), by rw [e0]; exact atI_nat (by rw [List.getElem?_map, List.getElem?_eq_getElem h1]; rfl), ?_⟩
        refine ⟨.ref pa, rfl, .int (0 + (i : Int)), rfl, _, _, rfl, rfl, pa, _, _, .int ns[i + 1], rfl, rfl, .inl (.inl (f3.tups hT _ _ hpa)), by rw [e1]; exact atI_nat (by rw [List.getElem?_map, List.getElem?_eq_getElem h2]; rfl), .inl ⟨ns[i], ns[i + 1], rfl, rfl, _, rfl, ?_⟩⟩
        by_cases hab : ns[i] < ns[i + 1]
        · rw [if_pos (decide_eq_true hab)]
          refine ⟨f3, fun j hj => ?_⟩
          by_cases ej : j = i
          · rw [ej, ha, hb]
            exact hab
          · exact hp j (by omega)
        · rw [if_neg (by rw [decide_eq_true_eq]; exact hab)]
          have e : risI ns = false := all_no (x := i) (List.mem_range.mpr hi) (decide_eq_false (by rw [ha, hb]; exact hab))
          rw [e] at q
          exact q H3 f3
      · have e : risI ns = true := List.all_eq_true.mpr fun j hj => decide_eq_true (p.2 j (List.mem_range.mp hj))
        rw [e] at q
        exact q H3 p.1
    · have rl := pairedLen prs
      refine ⟨.ref pa, rfl, pa, _, rfl, .inr (.inl (.inl hpa)), _, 1, rfl, rfl, _, rfl, ?_, ?_, hT _ hP, fun H2 tb => ?_⟩
      · rw [List.length_map]; omega
      · rw [List.length_map]; omega
      have f2 := FrS.one hT hP tb
      have en : (((rs.map V.ref).length : Int) - 1).toNat = rows.length - 1 := by rw [List.length_map]; omega
      rw [en]
      refine Gx.all_range (lo := 0) (n := rows.length - 1) (fun i H3 => FrS Ps H H3 ∧ ∀ j, j < i → HT.lexLt (rows.getD j []) (rows.getD (j + 1) []) = true) ⟨f2, fun j hj => absurd hj (Nat.not_lt_zero _)⟩ (fun i H3 hi p => ?_) (fun H3 p => ?_)
      · obtain ⟨f3, hp⟩ := p
        have h1 : i < rows.length := by omega
        have h2 : i + 1 < rows.length := by omega
        have ha := getD_get (d := []) h1
        have hb := getD_get (d := []) h2
        obtain ⟨pa1, ea1, ra1⟩ := pairedGet prs (List.getElem?_eq_getElem h1)
        obtain ⟨pb1, eb1, rb1⟩ := pairedGet prs (List.getElem?_eq_getElem h2)
        have e0 : (0 : Int) + (i : Int) = i := Int.zero_add _
        have e1 : (0 : Int) + (i : Int) + 1 = ((i + 1 : Nat) : Int) := by omega
        refine ⟨rfl, ?_⟩
        dsimp only [tYes]
        rw [if_pos rfl]
        refine ⟨.ref pa, rfl, .int (0 + (i : Int)), rfl, pa, _, _, .ref pa1, rfl, rfl, .inl (.inl (f3.tups hT _ _ hpa)), by rw [e0]; exact atI_nat (by rw [List.getElem?_map, ea1]; rfl), ?_⟩
        refine ⟨.ref pa, rfl, .int (0 + (i : Int)), rfl, _, _, rfl, rfl, pa, _, _, .ref pb1, rfl, rfl, .inl (.inl (f3.tups hT _ _ hpa)), by rw [e1]; exact atI_nat (by rw [List.getElem?_map, eb1]; rfl), .inr ⟨pa1, pb1, rows[i], rows[i + 1], rfl, rfl, .inl (.inl (f3.tups hT _ _ ra1)), .inl (.inl (f3.tups hT _ _ rb1)), _, rfl, ?_⟩⟩
        by_cases hab : HT.lexLt rows[i] rows[i + 1] = true
        · rw [if_pos hab]
          refine ⟨f3, fun j hj => ?_⟩
          by_cases ej : j = i
          · rw [ej, ha, hb]
            exact hab
          · exact hp j (by omega)
        · rw [if_neg hab]
          have e : risR rows = false := all_no (x := i) (List.mem_range.mpr hi) (by rw [ha, hb]; exact Bool.eq_false_iff.mpr hab)
          rw [e] at q
          exact q H3 f3
      · have e : risR rows = true := List.all_eq_true.mpr fun j hj => p.2 j (List.mem_range.mp hj)
        rw [e] at q
        exact q H3 p.1
/-- all(is_number(..) for x in thing) -/
theorem ok_plsA {f c Pp : Addr} {fd : FuncData} {Ps : List Addr} {k : Nat} (F : FunC K "are_places" "are_places" sPls f fd (.ref c)) (TB : GxR.TabB base mg c Pp) (hP : Pp ∈ Ps) (T : TxtIA2 P w K mg base Ps) : FnOk P w K mg base CX0 (k + 3) f fd ["thing", "many"] (spPlsA Ps) := by
  refine F.ok scPls (fun vs H Q E h => ?_) (fun A outer s H vs Q E hr h => ?_)
  · obtain ⟨v, d, many, rfl, _⟩ := h
    rfl
  · obtain ⟨v, d, many, rfl, hT, an, l10, q⟩ := h
    have hr2 : Room 2 (A.deeper (envOfC (Str.ofString "are_places") (defScope sPls) s.heap.objs.size f (.ref c))) := hr.mono (by omega)
    refine ⟨_, (pss_cons (ps_if (PW.pt (pw_or (pt_not (pt_val (pe_callB call_isi (by rfl) T.m_isinstance (by decide +kernel) (pa_cons (pv 0) (pa_cons (pe_bltn (v := .ty "tuple") (by rfl) T.m_tuple (by decide +kernel) rfl) pa_nil))))) (pw_or1 (pt_not (pt_chain op_le op_le pe_int (pe_callB call_len_seq (by rfl) T.m_len (by decide +kernel) (pa_cons (pv 0) pa_nil)) (C8.pe_gc (by rfl) T.g_MOST_PLACES_OF_A_WISH))))))
  (pss_one (ps_ret pe_bl)) pss_nil)
  (pss_one (ps_ret (pe_and (Gx.pe_allX (own := [("place", 2)]) hr (by rfl) T.m_all rfl scPls.nd TB rfl (blkOk_by (own := [("place", 2)]) (N := nPls) (sc := defScope sPls) (by decide +kernel)) ⟨rfl, by decide +kernel, rfl⟩ (pi_tup (pv 0))
   (fun _ _ _ _ _ _ hA => (pg_name (i := 2) scPls.nd rfl (Or.inl rfl))) (fun _ _ _ _ _ _ hA => pts_nil) (fun _ _ _ _ _ _ hA => (pe_cal T.c_is_number (hA.mono (by omega)) (by rfl) (pa_cons (pv 2) (pa_cons pe_int (pa_cons (pe_op op_sub (pv 1) pe_int) pa_nil)))))) (pe_one (pe_cal T.c_is_rising (hr.mono (by omega)) (by rfl) (pa_cons (pv 0) pa_nil))))))), ?_⟩
    have q0 := q H (FrS.refl hT)
    refine ⟨v, rfl, v, .ty "tuple", _, .type "tuple", _, rfl, .ty _, an.ty, kit_ty (kit_self (.inr (.inr (.inl rfl)))), _, rfl, ?_⟩
    cases d with
    | tuple ds =>
      refine iteF ?_
      cases an with
      | dct l => cases l
      | @tup pa xs _ hpa al =>
        have xl := al.len
        refine ⟨.ref pa, rfl, pa, _, rfl, .inr (.inl (.inl hpa)), _, _, rfl, rfl, _, rfl, ?_⟩
        rw [xl]
        by_cases l1 : 1 ≤ ds.length
        · rw [if_pos (decide_eq_true (show (1 : Int) ≤ (ds.length : Int) by omega))]
          refine ⟨_, _, rfl, rfl, _, rfl, ?_⟩
          by_cases l3 : ds.length ≤ 3
          · rw [decide_eq_true (show ((ds.length : Nat) : Int) ≤ 3 by omega)]
            have e1 : plsD many (.tuple ds) = (ds.all (numD 0 (many - 1)) && risI (ds.map intD)) := by
              show (decide (1 ≤ ds.length ∧ ds.length ≤ 3) && _ && _) = _
              rw [decide_eq_true ⟨l1, l3⟩, Bool.true_and]
            rw [e1] at q
            refine iteF ?_
            refine ⟨.ref pa, rfl, pa, rfl, ⟨_, .inl (.inl hpa)⟩, hT _ hP, fun H2 tb => ?_⟩
            have f2 := FrS.one hT hP tb
            refine Gx.all_tup (K := K) (a := pa) (xs := xs) (fun i H3 => FrS Ps H H3 ∧ ∀ d ∈ ds.take i, numD 0 (many - 1) d = true) ⟨f2, fun _ h => nomatch h⟩ (fun i H3 _ p => .inl (.inl (p.1.tups hT _ _ hpa))) (fun i x H3 hx p => ?_) (fun H3 p => ?_)
            · obtain ⟨d, ed, ad⟩ := al.get hx
              obtain ⟨f3, hp⟩ := p
              refine ⟨rfl, ?_⟩
              dsimp only [tYes]
              rw [if_pos rfl]
              refine ⟨x, rfl, .int many, rfl, _, _, rfl, rfl, x, d, 0, many - 1, rfl, ad.up (f3.noTb hT), _, rfl, ?_⟩
              cases hn : numD 0 (many - 1) d with
              | true =>
                rw [if_pos rfl]
                refine ⟨f3, fun y hy => ?_⟩
                rw [take_snoc ed] at hy
                rcases List.mem_append.mp hy with h | h
                · exact hp y h
                · rw [List.mem_singleton.mp h]; exact hn
              | false =>
                rw [if_neg (fun z => nomatch z)]
                rw [all_no (List.mem_of_getElem? ed) hn, Bool.false_and] at q
                exact ⟨false, rfl, iteF (q H3 f3)⟩
            · obtain ⟨f3, hp⟩ := p
              rw [xl, List.take_length] at hp
              have ea : ds.all (numD 0 (many - 1)) = true := List.all_eq_true.mpr hp
              rw [ea, Bool.true_and] at q
              refine ⟨true, rfl, iteT ?_⟩
              have ex : xs = (ds.map intD).map V.int := an_ints (by rw [← num_all ea]; exact al)
              rw [ex] at hpa
              exact ⟨.ref pa, rfl, pa, rfl, f3.2, .inl ⟨ds.map intD, f3.tups hT _ _ hpa, by rw [List.length_map]; omega, fun H4 f4 => q H4 (f3.trans f4)⟩⟩
          · rw [decide_eq_false (show ¬ ((ds.length : Nat) : Int) ≤ 3 by omega)]
            have e1 : plsD many (.tuple ds) = false := by
              show (decide (1 ≤ ds.length ∧ ds.length ≤ 3) && _ && _) = _
              rw [decide_eq_false (fun z => l3 z.2), Bool.false_and, Bool.false_and]
            rw [e1] at q0
            exact iteT q0
        · rw [if_neg (by rw [decide_eq_true_eq]; omega)]
          have e1 : plsD many (.tuple ds) = false := by
            show (decide (1 ≤ ds.length ∧ ds.length ≤ 3) && _ && _) = _
            rw [decide_eq_false (fun z => l1 z.1), Bool.false_and, Bool.false_and]
          rw [e1] at q0
          exact ⟨_, rfl, iteT q0⟩
    | none => exact iteT (iteT q0)
    | bool b => exact iteT (iteT q0)
    | int i => exact iteT (iteT q0)
    | str x => exact iteT (iteT q0)
    | list l => exact iteT (iteT q0)
    | dict l => exact iteT (iteT q0)
theorem ok_husA {f c Ph : Addr} {fd : FuncData} {Ps : List Addr} {k : Nat} (F : FunC K "are_hues" "are_hues" sHus f fd (.ref c)) (TB : GxR.TabB base mg c Ph) (hP : Ph ∈ Ps) (T : TxtIA2 P w K mg base Ps) : FnOk P w K mg base CX0 (k + 3) f fd ["thing", "length", "hues"] (spHusA Ps) := by
  refine F.ok scHus (fun vs H Q E h => ?_) (fun A outer s H vs Q E hr h => ?_)
  · obtain ⟨v, d, n, hues, rfl, _⟩ := h
    rfl
  · obtain ⟨v, d, n, hues, rfl, hT, an, q⟩ := h
    refine ⟨_, (pss_cons (ps_if (PW.pt (pw_or (pt_not (pt_val (pe_callB call_isi (by rfl) T.m_isinstance (by decide +kernel) (pa_cons (pv 0) (pa_cons (pe_bltn (v := .ty "tuple") (by rfl) T.m_tuple (by decide +kernel) rfl) pa_nil))))) (pw_or1 (pt_cmpR op_ne (pe_callB call_len_seq (by rfl) T.m_len (by decide +kernel) (pa_cons (pv 0) pa_nil)) (pv 1) (nomark _)))))
  (pss_one (ps_ret pe_bl)) pss_nil)
  (pss_one (ps_ret (Gx.pe_allX (own := [("hue", 3)]) hr (by rfl) T.m_all rfl scHus.nd TB rfl (blkOk_by (own := [("hue", 3)]) (N := nHus) (sc := defScope sHus) (by decide +kernel)) ⟨rfl, by decide +kernel, rfl⟩ (pi_tup (pv 0))
   (fun _ _ _ _ _ _ hA => (pg_name (i := 3) scHus.nd rfl (Or.inl rfl))) (fun _ _ _ _ _ _ hA => pts_nil) (fun _ _ _ _ _ _ hA => (pe_cal T.c_is_number (hA.mono (by omega)) (by rfl) (pa_cons (pv 3) (pa_cons pe_int (pa_cons (pe_op op_sub (pv 2) pe_int) pa_nil))))))))), ?_⟩
    have q0 := q H (FrS.refl hT)
    refine ⟨v, rfl, v, .ty "tuple", _, .type "tuple", _, rfl, .ty _, an.ty, kit_ty (kit_self (.inr (.inr (.inl rfl)))), _, rfl, ?_⟩
    cases d with
    | tuple ds =>
      refine iteF ?_
      cases an with
      | dct l => cases l
      | @tup pa xs _ hpa al =>
        have xl := al.len
        refine ⟨.ref pa, rfl, pa, _, rfl, .inr (.inl (.inl hpa)), _, rfl, rfl, _, rfl, ?_⟩
        rw [xl]
        by_cases el : ds.length = n
        · refine iteNS (by rw [el]) ?_
          have e1 : husD n hues (.tuple ds) = ds.all (numD 0 (hues - 1)) := by
            show (decide (ds.length = n) && _) = _
            rw [decide_eq_true el, Bool.true_and]
          rw [e1] at q
          refine ⟨.ref pa, rfl, pa, rfl, ⟨_, .inl (.inl hpa)⟩, hT _ hP, fun H2 tb => ?_⟩
          have f2 := FrS.one hT hP tb
          refine Gx.all_tup (K := K) (a := pa) (xs := xs) (fun i H3 => FrS Ps H H3 ∧ ∀ d ∈ ds.take i, numD 0 (hues - 1) d = true) ⟨f2, fun _ h => nomatch h⟩ (fun i H3 _ p => .inl (.inl (p.1.tups hT _ _ hpa))) (fun i x H3 hx p => ?_) (fun H3 p => ?_)
          · obtain ⟨d, ed, ad⟩ := al.get hx
            obtain ⟨f3, hp⟩ := p
            refine ⟨rfl, ?_⟩
            dsimp only [tYes]
            rw [if_pos rfl]
            refine ⟨x, rfl, .int hues, rfl, _, _, rfl, rfl, x, d, 0, hues - 1, rfl, ad.up (f3.noTb hT), _, rfl, ?_⟩
            cases hn : numD 0 (hues - 1) d with
            | true =>
              rw [if_pos rfl]
              refine ⟨f3, fun y hy => ?_⟩
              rw [take_snoc ed] at hy
              rcases List.mem_append.mp hy with h | h
              · exact hp y h
              · rw [List.mem_singleton.mp h]; exact hn
            | false =>
              rw [if_neg (fun z => nomatch z)]
              rw [all_no (List.mem_of_getElem? ed) hn] at q
              exact q H3 f3
          · obtain ⟨f3, hp⟩ := p
            rw [xl, List.take_length] at hp
            rw [List.all_eq_true.mpr hp] at q
            exact q H3 f3
        · have e1 : husD n hues (.tuple ds) = false := by
            show (decide (ds.length = n) && _) = _
            rw [decide_eq_false el, Bool.false_and]
          rw [e1] at q0
          have e2 : (!decide (V.int (ds.length : Int) = V.int (n : Int))) = true := by
            rw [decide_eq_false (fun z => el (by injection z with z; omega))]
            rfl
          rw [e2]
          exact iteT q0
    | none => exact iteT (iteT q0)
    | bool b => exact iteT (iteT q0)
    | int i => exact iteT (iteT q0)
    | str x => exact iteT (iteT q0)
    | list l => exact iteT (iteT q0)
    | dict l => exact iteT (iteT q0)
theorem ok_rwsA {f c Pw : Addr} {fd : FuncData} {Ps : List Addr} {k : Nat} (F : FunC K "are_rows" "are_rows" sRws f fd (.ref c)) (TB : GxR.TabB base mg c Pw) (hP : Pw ∈ Ps) (T : TxtIA3 P w K mg base Ps) : FnOk P w K mg base CX0 (k + 5) f fd ["thing", "length", "hues"] (spRwsA Ps) := by
  refine F.ok scRws (fun vs H Q E h => ?_) (fun A outer s H vs Q E hr h => ?_)
  · obtain ⟨v, d, n, hues, rfl, _⟩ := h
    rfl
  · obtain ⟨v, d, n, hues, rfl, hT, an, l10, q⟩ := h
    have hr2 : Room 2 (A.deeper (envOfC (Str.ofString "are_rows") (defScope sRws) s.heap.objs.size f (.ref c))) := hr.mono (by omega)
    refine ⟨_, (pss_cons (ps_if (PW.pt (pw_or (pt_not (pt_val (pe_callB call_isi (by rfl) T.m_isinstance (by decide +kernel) (pa_cons (pv 0) (pa_cons (pe_bltn (v := .ty "tuple") (by rfl) T.m_tuple (by decide +kernel) rfl) pa_nil))))) (pw_or1 (pt_cmpR op_eq (pe_callB call_len_seq (by rfl) T.m_len (by decide +kernel) (pa_cons (pv 0) pa_nil)) pe_int (nomark _)))))
  (pss_one (ps_ret pe_bl)) pss_nil)
  (pss_one (ps_ret (pe_and (Gx.pe_allX (own := [("row", 3)]) hr (by rfl) T.m_all rfl scRws.nd TB rfl (blkOk_by (own := [("row", 3)]) (N := nRws) (sc := defScope sRws) (by decide +kernel)) ⟨rfl, by decide +kernel, rfl⟩ (pi_tup (pv 0))
   (fun _ _ _ _ _ _ hA => (pg_name (i := 3) scRws.nd rfl (Or.inl rfl))) (fun _ _ _ _ _ _ hA => pts_nil) (fun _ _ _ _ _ _ hA => (pe_cal T.c_are_hues (hA.mono (by omega)) (by rfl) (pa_cons (pv 3) (pa_cons (pv 1) (pa_cons (pv 2) pa_nil)))))) (pe_one (pe_cal T.c_is_rising (hr.mono (by omega)) (by rfl) (pa_cons (pv 0) pa_nil))))))), ?_⟩
    have q0 := q H (FrS.refl hT)
    refine ⟨v, rfl, v, .ty "tuple", _, .type "tuple", _, rfl, .ty _, an.ty, kit_ty (kit_self (.inr (.inr (.inl rfl)))), _, rfl, ?_⟩
    cases d with
    | tuple ds =>
      refine iteF ?_
      cases an with
      | dct l => cases l
      | @tup pa xs _ hpa al =>
        have xl := al.len
        refine ⟨.ref pa, rfl, pa, _, rfl, .inr (.inl (.inl hpa)), rfl, _, rfl, ?_⟩
        rw [xl]
        by_cases el : ds.length = 0
        · have e1 : rwsD n hues (.tuple ds) = false := by
            show (decide (ds.length ≠ 0) && _ && _) = _
            rw [decide_eq_false (fun z => z el), Bool.false_and, Bool.false_and]
          rw [e1] at q0
          rw [decide_eq_true (show V.int (ds.length : Int) = V.int 0 by rw [el]; rfl)]
          exact iteT q0
        · rw [decide_eq_false (show ¬ V.int (ds.length : Int) = V.int 0 from fun z => el (by injection z with z; omega))]
          refine iteF ?_
          have e1 : rwsD n hues (.tuple ds) = (ds.all (husD n hues) && risR (ds.map rowI)) := by
            show (decide (ds.length ≠ 0) && _ && _) = _
            rw [decide_eq_true el, Bool.true_and]
          rw [e1] at q
          refine ⟨.ref pa, rfl, pa, rfl, ⟨_, .inl (.inl hpa)⟩, hT _ hP, fun H2 tb => ?_⟩
          have f2 := FrS.one hT hP tb
          refine Gx.all_tup (K := K) (a := pa) (xs := xs) (fun i H3 => FrS Ps H H3 ∧ ∀ d ∈ ds.take i, husD n hues d = true) ⟨f2, fun _ h => nomatch h⟩ (fun i H3 _ p => .inl (.inl (p.1.tups hT _ _ hpa))) (fun i x H3 hx p => ?_) (fun H3 p => ?_)
          · obtain ⟨d, ed, ad⟩ := al.get hx
            obtain ⟨f3, hp⟩ := p
            refine ⟨rfl, ?_⟩
            dsimp only [tYes]
            rw [if_pos rfl]
            refine ⟨x, rfl, .int n, rfl, .int hues, rfl, x, d, n, hues, rfl, f3.2, ad.up (f3.noTb hT), fun H4 f4 => ⟨_, rfl, ?_⟩⟩
            cases hn : husD n hues d with
            | true =>
              rw [if_pos rfl]
              refine ⟨f3.trans f4, fun y hy => ?_⟩
              rw [take_snoc ed] at hy
              rcases List.mem_append.mp hy with h | h
              · exact hp y h
              · rw [List.mem_singleton.mp h]; exact hn
            | false =>
              rw [if_neg (fun z => nomatch z)]
              rw [all_no (List.mem_of_getElem? ed) hn, Bool.false_and] at q
              exact ⟨false, rfl, iteF (q H4 (f3.trans f4))⟩
          · obtain ⟨f3, hp⟩ := p
            rw [xl, List.take_length] at hp
            have ea := List.all_eq_true.mpr hp
            rw [ea, Bool.true_and] at q
            obtain ⟨rs, e2, prs⟩ := an_rows (al.up (f3.noTb hT)) ea
            rw [e2] at hpa
            refine ⟨true, rfl, iteT ?_⟩
            exact ⟨.ref pa, rfl, pa, rfl, f3.2, .inr ⟨rs, ds.map rowI, f3.tups hT _ _ hpa, prs, by rw [List.length_map]; exact l10, fun H4 f4 => q H4 (f3.trans f4)⟩⟩
    | none => exact iteT (iteT q0)
    | bool b => exact iteT (iteT q0)
    | int i => exact iteT (iteT q0)
    | str x => exact iteT (iteT q0)
    | list l => exact iteT (iteT q0)
    | dict l => exact iteT (iteT q0)
theorem ok_wshA {f : Addr} {fd : FuncData} {Ps : List Addr} {k : Nat} (F : Fun K "is_wish" "is_wish" sWsh f fd) (T : TxtIA4 P w K mg base Ps) : FnOk P w K mg base CX0 (k + 6) f fd ["thing", "many", "hues"] (spWshA Ps) := by
  refine F.ok scWsh (fun vs H Q E h => ?_) (fun cdv A outer s H vs Q E hr h => ?_)
  · obtain ⟨v, d, many, hues, rfl, _⟩ := h
    rfl
  · obtain ⟨v, d, many, hues, rfl, hT, an, short, q⟩ := h
    have hr3 : Room 3 (A.deeper (envOfC (Str.ofString "is_wish") (defScope sWsh) s.heap.objs.size f cdv)) := hr.mono (by omega)
    have hr5 : Room 5 (A.deeper (envOfC (Str.ofString "is_wish") (defScope sWsh) s.heap.objs.size f cdv)) := hr.mono (by omega)
    refine ⟨_, (pss_cons (ps_if (PW.pt (pw_or (pt_not (pt_val (pe_callB call_isi (by rfl) T.m_isinstance (by decide +kernel) (pa_cons (pv 0) (pa_cons (pe_bltn (v := .ty "tuple") (by rfl) T.m_tuple (by decide +kernel) rfl) pa_nil))))) (pw_or1 (pt_cmpR op_ne (pe_callB call_len_seq (by rfl) T.m_len (by decide +kernel) (pa_cons (pv 0) pa_nil)) pe_int (nomark _)))))
  (pss_one (ps_ret pe_bl)) pss_nil)
  (pss_cons (ps_asg (pv 0) (pg_tup rfl (pgs_cons (pg_name (i := 3) scWsh.nd rfl (Or.inl rfl)) (pgs_cons (pg_name (i := 4) scWsh.nd rfl (Or.inl rfl)) pgs_nil))))
  (pss_one (ps_ret (pe_and (pe_cal T.c_are_places (hr.mono (by omega)) (by rfl) (pa_cons (pv 3) (pa_cons (pv 1) pa_nil))) (pe_one (pe_cal T.c_are_rows (hr.mono (by omega)) (by rfl) (pa_cons (pv 4) (pa_cons (pe_callB call_len_seq (by rfl) T.m_len (by decide +kernel) (pa_cons (pv 3) pa_nil)) (pa_cons (pv 2) pa_nil)))))))))), ?_⟩
    have q0 := q H (FrS.refl hT)
    refine ⟨v, rfl, v, .ty "tuple", _, .type "tuple", _, rfl, .ty _, an.ty, kit_ty (kit_self (.inr (.inr (.inl rfl)))), _, rfl, ?_⟩
    cases d with
    | tuple ds =>
      refine iteF ?_
      cases an with
      | dct l => cases l
      | @tup pa xs _ hpa al =>
        have xl := al.len
        refine ⟨.ref pa, rfl, pa, _, rfl, .inr (.inl (.inl hpa)), rfl, _, rfl, ?_⟩
        rw [xl]
        have no2 : ds.length ≠ 2 → wshD many hues (.tuple ds) = false := fun n => by
          match ds, n with
          | [], _ => rfl
          | [_], _ => rfl
          | [_, _], n => exact absurd rfl n
          | _ :: _ :: _ :: _, _ => rfl
        by_cases el : ds.length = 2
        · rw [el]
          refine iteNS rfl ?_
          match ds, el, al, short, q with
          | [dp, dr], _, .cons (v := vp) ap (.cons (v := vr) ar .nil), short, q =>
            obtain ⟨sp1, sr1⟩ := short
            have e1 : wshD many hues (.tuple [dp, dr]) = (plsD many dp && rwsD (lenD dp) hues dr) := rfl
            rw [e1] at q
            refine ⟨.ref pa, rfl, pa, _, rfl, .inl (.inl hpa), rfl, vp, [vr], rfl, vr, [], rfl, rfl, ?_⟩
            refine ⟨vp, rfl, .int many, rfl, vp, dp, many, rfl, hT, ap, sp1, fun H2 f2 => ⟨_, rfl, ?_⟩⟩
            cases hp : plsD many dp with
            | false =>
              rw [hp, Bool.false_and] at q
              exact iteF (q H2 f2)
            | true =>
              rw [hp, Bool.true_and] at q
              refine iteT ?_
              cases dp with
              | tuple lp =>
                cases ap with
                | dct l => cases l
                | @tup pb ys _ hpb alp =>
                  have ll : ((ys.length : Nat) : Int) = ((lenD (.tuple lp) : Nat) : Int) := by rw [alp.len]; rfl
                  refine ⟨vr, rfl, .ref pb, rfl, pb, _, rfl, .inr (.inl (.inl (f2.tups hT _ _ hpb))), .int hues, rfl, vr, dr, lenD (.tuple lp), hues, by rw [ll]; rfl, f2.2, ar.up (f2.noTb hT), sr1, fun H3 f3 => q H3 (f2.trans f3)⟩
              | _ => exact nomatch hp
        · rw [no2 el] at q0
          have e2 : (!decide (V.int (ds.length : Int) = V.int 2)) = true := by
            rw [decide_eq_false (fun z => el (by injection z with z; omega))]
            rfl
          rw [e2]
          exact iteT q0
    | none => exact iteT (iteT q0)
    | bool b => exact iteT (iteT q0)
    | int i => exact iteT (iteT q0)
    | str x => exact iteT (iteT q0)
    | list l => exact iteT (iteT q0)
    | dict l => exact iteT (iteT q0)
/-- not too long -/
def ShortR : PyData → Prop
  | .tuple [_, _, .tuple l] => ∀ x ∈ l, ShortW x
  | _ => True
def spIrdA (Ps : List Addr) : Sp := fun vs H Q _ => ∃ (v : V) (d : PyData), vs = [v] ∧ Tabs Ps H ∧ Any H v d ∧ ShortR d ∧ ∀ H', FrS Ps H H' → Q (.bl (irdD d)) H'
structure TxtIA5 (P : Program) (w : World) (K : PySem.W.Frag) (mg : Str → Option Value) (base : Heap) (Ps : List Addr) : Prop extends TxtI mg where
  c_is_size : Cal P w K mg base 2 "is_size" ["many", "hues"] spSizA
  c_is_wish : Cal P w K mg base 6 "is_wish" ["thing", "many", "hues"] (spWshA Ps)
theorem ok_irdA {f c Pi : Addr} {fd : FuncData} {Ps : List Addr} {k : Nat} (F : FunC K "is_riddle" "is_riddle" sIrd f fd (.ref c)) (TB : GxR.TabB base mg c Pi) (hP : Pi ∈ Ps) (T : TxtIA5 P w K mg base Ps) : FnOk P w K mg base CX0 (k + 8) f fd ["thing"] (spIrdA Ps) := by
  refine F.ok scIrd (fun vs H Q E h => ?_) (fun A outer s H vs Q E hr h => ?_)
  · obtain ⟨v, d, rfl, _⟩ := h
    rfl
  · obtain ⟨v, d, rfl, hT, an, short, q⟩ := h
    have hr2 : Room 2 (A.deeper (envOfC (Str.ofString "is_riddle") (defScope sIrd) s.heap.objs.size f (.ref c))) := hr.mono (by omega)
    refine ⟨_, (pss_cons (ps_if (PW.pt (pw_or (pt_not (pt_val (pe_callB call_isi (by rfl) T.m_isinstance (by decide +kernel) (pa_cons (pv 0) (pa_cons (pe_bltn (v := .ty "tuple") (by rfl) T.m_tuple (by decide +kernel) rfl) pa_nil))))) (pw_or1 (pt_cmpR op_ne (pe_callB call_len_seq (by rfl) T.m_len (by decide +kernel) (pa_cons (pv 0) pa_nil)) pe_int (nomark _)))))
  (pss_one (ps_ret pe_bl)) pss_nil)
  (pss_cons (ps_asg (pv 0) (pg_tup rfl (pgs_cons (pg_name (i := 1) scIrd.nd rfl (Or.inr rfl)) (pgs_cons (pg_name (i := 2) scIrd.nd rfl (Or.inr rfl)) (pgs_cons (pg_name (i := 3) scIrd.nd rfl (Or.inl rfl)) pgs_nil)))))
  (pss_cons (ps_if (pt_not (pt_val (pe_cal T.c_is_size (hr.mono (by omega)) (by rfl) (pa_cons (pv 1) (pa_cons (pv 2) pa_nil)))))
  (pss_one (ps_ret pe_bl)) pss_nil)
  (pss_cons (ps_if (PW.pt (pw_or (pt_not (pt_val (pe_callB call_isi (by rfl) T.m_isinstance (by decide +kernel) (pa_cons (pv 3) (pa_cons (pe_bltn (v := .ty "tuple") (by rfl) T.m_tuple (by decide +kernel) rfl) pa_nil))))) (pw_or1 (pt_cmpR op_gt (pe_callB call_len_seq (by rfl) T.m_len (by decide +kernel) (pa_cons (pv 3) pa_nil)) (C8.pe_gc (by rfl) T.g_MOST_WISHES) (nomark _)))))
  (pss_one (ps_ret pe_bl)) pss_nil)
  (pss_one (ps_ret (Gx.pe_allX (own := [("wish", 4)]) hr (by rfl) T.m_all rfl scIrd.nd TB rfl (blkOk_by (own := [("wish", 4)]) (N := nIrd) (sc := defScope sIrd) (by decide +kernel)) ⟨rfl, by decide +kernel, rfl⟩ (pi_tup (pv 3))
   (fun _ _ _ _ _ _ hA => (pg_name (i := 4) scIrd.nd rfl (Or.inl rfl))) (fun _ _ _ _ _ _ hA => pts_nil) (fun _ _ _ _ _ _ hA => (pe_cal T.c_is_wish (hA.mono (by omega)) (by rfl) (pa_cons (pv 4) (pa_cons (pv 1) (pa_cons (pv 2) pa_nil)))))))))))), ?_⟩
    have q0 := q H (FrS.refl hT)
    refine ⟨v, rfl, v, .ty "tuple", _, .type "tuple", _, rfl, .ty _, an.ty, kit_ty (kit_self (.inr (.inr (.inl rfl)))), _, rfl, ?_⟩
    cases d with
    | tuple ds =>
      refine iteF ?_
      cases an with
      | dct l => cases l
      | @tup pa xs _ hpa al =>
        have xl := al.len
        refine ⟨.ref pa, rfl, pa, _, rfl, .inr (.inl (.inl hpa)), rfl, _, rfl, ?_⟩
        rw [xl]
        have no3 : ds.length ≠ 3 → irdD (.tuple ds) = false := fun n => by
          match ds, n with
          | [], _ => rfl
          | [_], _ => rfl
          | [_, _], _ => rfl
          | [_, _, _], n => exact absurd rfl n
          | _ :: _ :: c :: _ :: _, _ => cases c <;> rfl
        by_cases el : ds.length = 3
        · rw [el]
          refine iteNS rfl ?_
          match ds, el, al, short, q, q0 with
          | [dm, dh, dw], _, .cons (v := vm) am (.cons (v := vh) ah (.cons (v := vw) aw .nil)), short, q, q0 =>
            refine ⟨.ref pa, rfl, pa, _, rfl, .inl (.inl hpa), rfl, vm, [vh, vw], rfl, vh, [vw], rfl, vw, [], rfl, rfl, ?_⟩
            refine ⟨vm, rfl, vh, rfl, vm, vh, dm, dh, rfl, am, ah, _, rfl, ?_⟩
            cases hs : sizD dm dh with
            | false =>
              have e1 : irdD (.tuple [dm, dh, dw]) = false := by
                cases dw with
                | tuple l =>
                  show (sizD dm dh && _ && _) = false
                  rw [hs, Bool.false_and, Bool.false_and]
                | _ => rfl
              rw [e1] at q0
              exact iteT q0
            | true =>
              refine iteF ?_
              refine ⟨vw, rfl, vw, .ty "tuple", _, .type "tuple", _, rfl, .ty _, aw.ty, kit_ty (kit_self (.inr (.inr (.inl rfl)))), _, rfl, ?_⟩
              cases dw with
              | tuple l =>
                refine iteF ?_
                cases aw with
                | dct l => cases l
                | @tup pb ys _ hpb alw =>
                  have yl := alw.len
                  refine ⟨.ref pb, rfl, pb, _, rfl, .inr (.inl (.inl hpb)), _, _, rfl, rfl, _, rfl, ?_⟩
                  rw [yl]
                  by_cases e8 : l.length ≤ 8
                  · rw [decide_eq_false (show ¬ (8 : Int) < (l.length : Int) by omega)]
                    refine iteF ?_
                    cases dm with
                    | int m =>
                      cases dh with
                      | int h =>
                        cases am with
                        | dct l => cases l
                        | int =>
                          cases ah with
                          | dct l => cases l
                          | int =>
                            have e1 : irdD (.tuple [.int m, .int h, .tuple l]) = l.all (wshD m h) := by
                              show (sizD (.int m) (.int h) && decide (l.length ≤ 8) && _) = _
                              rw [hs, decide_eq_true e8, Bool.true_and, Bool.true_and]
                              rfl
                            rw [e1] at q
                            have sl : ∀ x ∈ l, ShortW x := short
                            refine ⟨.ref pb, rfl, pb, rfl, ⟨_, .inl (.inl hpb)⟩, hT _ hP, fun H2 tb => ?_⟩
                            have f2 := FrS.one hT hP tb
                            refine Gx.all_tup (K := K) (a := pb) (xs := ys) (fun i H3 => FrS Ps H H3 ∧ ∀ d ∈ l.take i, wshD m h d = true) ⟨f2, fun _ h => nomatch h⟩ (fun i H3 _ p => .inl (.inl (p.1.tups hT _ _ hpb))) (fun i x H3 hx p => ?_) (fun H3 p => ?_)
                            · obtain ⟨d, ed, ad⟩ := alw.get hx
                              obtain ⟨f3, hp⟩ := p
                              have dm := List.mem_of_getElem? ed
                              refine ⟨rfl, ?_⟩
                              dsimp only [tYes]
                              rw [if_pos rfl]
                              refine ⟨x, rfl, .int m, rfl, .int h, rfl, x, d, m, h, rfl, f3.2, ad.up (f3.noTb hT), sl d dm, fun H4 f4 => ⟨_, rfl, ?_⟩⟩
                              cases hn : wshD m h d with
                              | true =>
                                rw [if_pos rfl]
                                refine ⟨f3.trans f4, fun y hy => ?_⟩
                                rw [take_snoc ed] at hy
                                rcases List.mem_append.mp hy with h | h
                                · exact hp y h
                                · rw [List.mem_singleton.mp h]; exact hn
                              | false =>
                                rw [if_neg (fun z => nomatch z)]
                                rw [all_no dm hn] at q
                                exact q H4 (f3.trans f4)
                            · obtain ⟨f3, hp⟩ := p
                              rw [yl, List.take_length] at hp
                              rw [List.all_eq_true.mpr hp] at q
                              exact q H3 f3
                      | _ => exact nomatch hs
                    | _ => exact nomatch hs
                  · rw [decide_eq_true (show (8 : Int) < (l.length : Int) by omega)]
                    have e1 : irdD (.tuple [dm, dh, .tuple l]) = false := by
                      show (sizD dm dh && decide (l.length ≤ 8) && _) = _
                      rw [decide_eq_false e8, Bool.and_false, Bool.false_and]
                    rw [e1] at q0
                    exact iteT q0
              | none => exact iteT (iteT q0)
              | bool b => exact iteT (iteT q0)
              | int i => exact iteT (iteT q0)
              | str x => exact iteT (iteT q0)
              | list l => exact iteT (iteT q0)
              | dict l => exact iteT (iteT q0)
        · rw [no3 el] at q0
          have e2 : (!decide (V.int (ds.length : Int) = V.int 3)) = true := by
            rw [decide_eq_false (fun z => el (by injection z with z; omega))]
            rfl
          rw [e2]
          exact iteT q0
    | none => exact iteT (iteT q0)
    | bool b => exact iteT (iteT q0)
    | int i => exact iteT (iteT q0)
    | str x => exact iteT (iteT q0)
    | list l => exact iteT (iteT q0)
    | dict l => exact iteT (iteT q0)
end
end Rd

set_option Elab.async false
set_option linter.all false
set_option maxRecDepth 100000
set_option maxHeartbeats 4000000
/-! things drawn: odd ones, lists to choose from -/
namespace Rd
open PySem PySem.Spec PyProof.Rows L2 Dt TL
abbrev sOdd : Stmt := topS 26
abbrev nOdd : List Str := ["well", "high", "way", "some"]
theorem scOdd : FnScope nOdd ["well", "high"] (defScope sOdd) := ⟨rfl, rfl, rfl, by decide +kernel, rfl, by decide +kernel, by decide +kernel⟩
abbrev sLwh : Stmt := topS 22
abbrev nLwh : List Str := ["thing", "low", "high"]
theorem scLwh : FnScope nLwh ["thing", "low", "high"] (defScope sLwh) := ⟨rfl, rfl, rfl, by decide +kernel, rfl, by decide +kernel, by decide +kernel⟩
mutual
theorem An.more {Av Bv : Addr → Prop} {H : Hp} (w : ∀ b, Bv b → Av b ∨ H b = none) : ∀ (d : PyData) (v : V), An Av H v d → An Bv H v d
  | .none, _, h => by
    cases h with
    | non => exact .non
    | dct l => exact .dct l
  | .bool b, _, h => by
    cases h with
    | bl => exact .bl b
    | dct l => exact .dct l
  | .int i, _, h => by
    cases h with
    | int => exact .int i
    | dct l => exact .dct l
  | .str x, _, h => by
    cases h with
    | str => exact .str x
    | dct l => exact .dct l
  | .list ds, _, h => by
    cases h with
    | lst e n t => exact .lst e (fun z => (w _ z).elim n fun y => by rw [e] at y; cases y) (An.moreAll w ds _ t)
    | dct l => exact .dct l
  | .tuple ds, _, h => by
    cases h with
    | tup e t => exact .tup e (An.moreAll w ds _ t)
    | dct l => exact .dct l
  | .dict _, _, h => by
    cases h with
    | dct l => exact .dct l
theorem An.moreAll {Av Bv : Addr → Prop} {H : Hp} (w : ∀ b, Bv b → Av b ∨ H b = none) : ∀ (ds : List PyData) (vs : List V), AnAll Av H vs ds → AnAll Bv H vs ds
  | [], _, h => by
    cases h
    exact .nil
  | d :: ds, _, h => by
    cases h with
    | cons h t => exact .cons (An.more w d _ h) (An.moreAll w ds _ t)
end
/-- few and small -/
structure OddD (d : PyData) : Prop where
  fx : FX d 4 8
  tup : ∀ l, d = .tuple l → l.length ≤ 1
  lst : ∀ l, d = .list l → l.length ≤ 1
def oddL : List PyData := [.bool true, .bool false, .none, .str "0", .str "", .tuple [.int 0], .list [.int 0], .dict [], .tuple [], .list [], .tuple [.tuple [.int 0]]]
theorem odd_int {i : Int} (h : i.natAbs < 10 ^ 55) : OddD (.int i) := ⟨(FX.int h).mono (by decide) (by decide), (fun _ z => nomatch z), (fun _ z => nomatch z)⟩
theorem fx0 : FX (.int 0) 0 0 := FX.int (by decide)
theorem odd_all : ∀ d ∈ oddL, OddD d := by
  intro d hd
  have t0 : FX (.tuple [.int 0]) 1 1 := (FX.tuple (FXA.cons fx0 (FXA.nil _))).mono (Nat.le_refl _) (by decide)
  simp only [oddL, List.mem_cons, List.not_mem_nil, or_false] at hd
  rcases hd with rfl | rfl | rfl | rfl | rfl | rfl | rfl | rfl | rfl | rfl | rfl
  · exact ⟨(FX.bl _).mono (by decide) (by decide), (fun _ z => nomatch z), (fun _ z => nomatch z)⟩
  · exact ⟨(FX.bl _).mono (by decide) (by decide), (fun _ z => nomatch z), (fun _ z => nomatch z)⟩
  · exact ⟨FX.non.mono (by decide) (by decide), (fun _ z => nomatch z), (fun _ z => nomatch z)⟩
  · exact ⟨(FX.str (w := 1) (by decide +kernel) (by decide +kernel)).mono (by decide) (by decide), (fun _ z => nomatch z), (fun _ z => nomatch z)⟩
  · exact ⟨(FX.str (w := 1) (by decide +kernel) (by decide +kernel)).mono (by decide) (by decide), (fun _ z => nomatch z), (fun _ z => nomatch z)⟩
  · exact ⟨t0.mono (by decide) (by decide), (fun l z => by cases z; exact Nat.le_refl _), (fun _ z => nomatch z)⟩
  · exact ⟨(FX.list (FXA.cons fx0 (FXA.nil _))).mono (by decide) (by decide), (fun _ z => nomatch z), (fun l z => by cases z; exact Nat.le_refl _)⟩
  · exact ⟨FX.d0.mono (by decide) (by decide), (fun _ z => nomatch z), (fun _ z => nomatch z)⟩
  · exact ⟨(FX.tuple (FXA.nil 0)).mono (by decide) (by decide), (fun l z => by cases z; exact Nat.zero_le _), (fun _ z => nomatch z)⟩
  · exact ⟨(FX.list (FXA.nil 0)).mono (by decide) (by decide), (fun _ z => nomatch z), (fun l z => by cases z; exact Nat.zero_le _)⟩
  · exact ⟨(FX.tuple (FXA.cons t0 (FXA.nil _))).mono (by decide) (by decide), (fun l z => by cases z; exact Nat.le_refl _), (fun _ z => nomatch z)⟩
def spOdA : Sp := fun vs H Q _ => ∃ (Av : Addr → Prop) (wl cl : Addr) (high : Int), vs = [.ref wl, .int high] ∧ Well H wl cl ∧ 0 ≤ high ∧ high ≤ 20 ∧ (∀ b, Av b → Old H b) ∧ Av wl ∧ Av cl ∧
  ∀ H' v d, Drawn wl cl H H' → An Av H' v d → OddD d → Q v H'
def spLwA : Sp := fun vs H Q _ => ∃ (v : V) (d : PyData) (lo hi : Int), vs = [v, .int lo, .int hi] ∧ Any H v d ∧ Q (.bl (numD lo hi d)) H
structure TxtOa (P : Program) (w : World) (K : PySem.W.Frag) (mg : Str → Option Value) (base : Heap) : Prop where
  c__law_draw : Cal P w K mg base 1 "_law_draw" ["well", "many"] spDraw
structure TxtWh (mg : Str → Option Value) : Prop where
  m_isinstance : mg "isinstance" = none
  m_int : mg "int" = none
  m_bool : mg "bool" = none
theorem seqZ {te : TE} {g : TG} {u : TS} {D : Ends} {σ : L2.St} {H : Hp} (h : te σ H fun x H1 => g x σ H1 (u D)) : tSeq (tAsg te g) u D σ H := h
theorem AnAll.set {Av : Addr → Prop} {H : Hp} {v : V} {d : PyData} (a : An Av H v d) : ∀ {vs : List V} {ds : List PyData} (i : Nat), AnAll Av H vs ds → AnAll Av H (vs.set i v) (ds.set i d)
  | _, _, _, .nil => .nil
  | _, _, 0, .cons _ t => .cons a t
  | _, _, i + 1, .cons h t => .cons h (AnAll.set a i t)
theorem cutI_from (xs : List V) (k : Nat) : cutV xs (some (k : Int)) none = xs.drop k := by
  have z := cut_from (id : V → V) xs k
  rwa [List.map_id, List.map_id] at z
theorem cutI_to (xs : List V) (k : Nat) : cutV xs none (some (k : Int)) = xs.take k := by
  have z := cut_to (id : V → V) xs k
  rwa [List.map_id, List.map_id] at z
theorem NoTb.put {Bv : Addr → Prop} {H : Hp} {fa : Addr} {xs : List V} {o : HO} (e : H fa = some (.lst xs)) (b : Bv fa) : NoTb Bv H (upd H fa o) := fun c o' n m h => by
  by_cases z : c = fa
  · rw [z, e] at h
    exact (m ⟨xs, (Option.some.inj h).symm, by rw [z]; exact b⟩).elim
  · rw [upd_ne z]
    exact h
theorem FXA.all {ds : List PyData} {n w : Nat} (h : ∀ x ∈ ds, FX x n w) : FXA ds n (ds.length * (w + 1)) := by
  have z := FXA.map (f := id) ds h
  rwa [List.map_id] at z
/-- [..][_law_draw(well, m)] -/
theorem pick_ten {K : PySem.W.Frag} {te : TE} {Av : Addr → Prop} {ds : List PyData} {m : Int} {σ : L2.St} {H : Hp} {wl cl : Addr} {Q : VK} (t : TEn Av te σ H (.list ds)) (hw : σ[0]? = some (some (.ref wl))) (W : Well H wl cl) (aw : Av wl) (ac : Av cl) (em : (ds.length : Int) = m) (m1 : 1 ≤ m) (m2 : m ≤ 1000)
    (q : ∀ H' v d, Drawn wl cl H H' → d ∈ ds → An Av H' v d → Q v H') : tOp (rIxL K) te (tCall spDraw [] E0 (tCons (tVar 0) (tCons (tC (.int m)) tNil))) σ H Q := by
  refine t H _ (Same.refl H) fun H1 v s1 an => ?_
  refine ⟨.ref wl, hw, wl, cl, m, rfl, W.same s1, m1, log_small (by omega) (by omega), fun H2 d D2 d0 d1 => ?_⟩
  have D := (Drawn.refl W).same s1 |>.trans D2
  cases an with
  | dct l => cases l
  | @lst b xs _ hb nb al =>
    have lx := al.len
    obtain ⟨x, ex⟩ : ∃ x, xs[d.toNat]? = some x := ⟨_, List.getElem?_eq_getElem (by omega)⟩
    obtain ⟨y, ey, ay⟩ := al.get ex
    have e9 : ((d.toNat : Nat) : Int) = d := by omega
    have hat : atI xs d = some x := by rw [← e9]; exact atI_nat ex
    have hb2 := D2.lst ((Drawn.refl W).same s1 |>.2 |> fun _ => (show b ≠ wl ∧ b ≠ cl from ⟨fun z => nb (by rw [z]; exact aw), fun z => nb (by rw [z]; exact ac)⟩)) hb
    exact ⟨b, xs, d, x, rfl, rfl, .inl (.inl hb2), hat, q _ _ _ D (List.mem_of_getElem? ey) (ay.up (D2.noTb (W.same s1) aw ac))⟩
abbrev AvW (wl cl : Addr) : Addr → Prop := fun b => b = wl ∨ b = cl
theorem old_well {H : Hp} {wl cl : Addr} (W : Well H wl cl) : ∀ b, AvW wl cl b → Old H b := fun b hb => by
  obtain ⟨_, _, _, v1, v2, _⟩ := id W
  rcases hb with z | z
  · rw [z]; intro y; rw [y] at v1; cases v1
  · rw [z]; intro y; rw [y] at v2; cases v2
theorem retZ {te : TE} {D : Ends} {σ : L2.St} {H : Hp} (h : te σ H D.rt) : tRet te D σ H := h
theorem asgZ {te : TE} {g : TG} {D : Ends} {σ : L2.St} {H : Hp} (h : te σ H fun x H1 => g x σ H1 D.nx) : tAsg te g D σ H := h
theorem small2000 {n : Nat} (h : n ≤ 200002) : n ≤ sizeLine := Nat.le_trans h (by decide)
theorem set_mem {α : Type} {l : List α} {i : Nat} {a x : α} (h : x ∈ l.set i a) : x ∈ l ∨ x = a := List.mem_or_eq_of_mem_set h
section
variable {P : Program} {w : World} {K : PySem.W.Frag} {mg : Str → Option Value} {base : Heap}
theorem ok_odA {f : Addr} {fd : FuncData} {k : Nat} (F : Fun K "_law_odd" "_law_odd" sOdd f fd) (T : TxtOa P w K mg base) : FnOk P w K mg base CX0 (k + 2) f fd ["well", "high"] spOdA := by
  refine F.ok scOdd (fun vs H Q E h => ?_) (fun cdv A outer s H vs Q E hr h => ?_)
  · obtain ⟨Av, wl, cl, high, rfl, _⟩ := h
    rfl
  · obtain ⟨Av, wl, cl, high, rfl, hW, h0, h20, hav, aw, ac, q⟩ := h
    refine ⟨_, (pss_cons (ps_set (i := 2) scOdd.nd rfl (Or.inl rfl) (pe_cal T.c__law_draw (hr.mono (by omega)) (by rfl) (pa_cons (pv 0) (pa_cons pe_int pa_nil))))
  (pss_cons (ps_if (pt_cmpR op_lt (pv 2) pe_int (nomark _))
  (pss_one (ps_ret (pe_ix ix_list (pe_lst (pa_cons (pe_op op_add (pv 1) pe_int) (pa_cons (pe_un un_neg pe_int) (pa_cons (pe_op op_add (pe_op op_add (pv 1) pe_int) (pe_cal T.c__law_draw (hr.mono (by omega)) (by rfl) (pa_cons (pv 0) (pa_cons (pe_op op_powW pe_int pe_int) pa_nil)))) (pa_cons (pe_op op_sub (pe_un un_neg pe_int) (pe_cal T.c__law_draw (hr.mono (by omega)) (by rfl) (pa_cons (pv 0) (pa_cons (pe_op op_powW pe_int pe_int) pa_nil)))) pa_nil))))) (pv 2) (fun _ _ => rfl)))) pss_nil)
  (pss_cons (ps_if (pt_cmpR op_eq (pv 2) pe_int (nomark _))
  (pss_one (ps_ret (pe_cal T.c__law_draw (hr.mono (by omega)) (by rfl) (pa_cons (pv 0) (pa_cons (pe_op op_add (pv 1) pe_int) pa_nil))))) pss_nil)
  (pss_cons (ps_set (i := 3) scOdd.nd rfl (Or.inl rfl) (pe_lst (pa_cons pe_bl (pa_cons pe_bl (pa_cons pe_non (pa_cons pe_str (pa_cons pe_str (pa_cons (pe_tup (pa_cons pe_int pa_nil)) (pa_cons (pe_lst (pa_cons pe_int pa_nil)) (pa_cons pe_dnewK (pa_cons (pe_tup pa_nil) (pa_cons (pe_lst pa_nil) (pa_cons (pe_tup (pa_cons (pe_tup (pa_cons pe_int pa_nil)) pa_nil)) pa_nil)))))))))))))
  (pss_one (ps_ret (pe_ix ix_list (pv 3) (pe_op op_sub (pv 2) pe_int) (fun _ _ => rfl)))))))), ?_⟩
    have big : ∀ {i : Int}, -(10 ^ 52) ≤ i → i ≤ 10 ^ 52 → i.natAbs < 10 ^ 55 := fun {i} a b => by omega
    refine ⟨.ref wl, rfl, wl, cl, 16, rfl, hW, by decide, by decide, fun H1 way D1 w0 w1 => ?_⟩
    refine ⟨.int way, rfl, way, 4, rfl, rfl, _, rfl, ite2 (fun e => ?_) (fun e => ?_)⟩
    · have e : way < 4 := by simpa using e
      refine ⟨.int high, rfl, high, 1, rfl, rfl, 1, rfl, .int high, rfl, high, 1, rfl, rfl, .ref wl, rfl, 10, 50, rfl, rfl, ⟨by decide, by decide⟩, wl, cl, _, rfl, D1.2, by decide, by decide, fun H2 d2 D2 d20 d21 => ?_⟩
      have d21 : d2 < 10 ^ 50 := d21
      refine ⟨_, d2, rfl, rfl, 1, rfl, .ref wl, rfl, 10, 50, rfl, rfl, ⟨by decide, by decide⟩, wl, cl, _, rfl, D2.2, by decide, by decide, fun H3 d3 D3 d30 d31 => ?_⟩
      have d31 : d3 < 10 ^ 50 := d31
      refine ⟨_, d3, rfl, rfl, (by show 4 ≤ sizeLine; decide), fun l nl => ?_⟩
      have ws : way = 0 ∨ way = 1 ∨ way = 2 ∨ way = 3 := by omega
      have D4 := ((D1.trans D2).trans D3).same (same_upd (o := .lst [V.int (high + 1), V.int (-1), V.int (high + 1 + d2), V.int (-1 - d3)]) nl)
      refine ⟨.int way, rfl, ?_⟩
      have hl : SqL K (upd H3 l (.lst [V.int (high + 1), V.int (-1), V.int (high + 1 + d2), V.int (-1 - d3)])) l [V.int (high + 1), V.int (-1), V.int (high + 1 + d2), V.int (-1 - d3)] := .inl (.inl upd_same)
      rcases ws with rfl | rfl | rfl | rfl
      · exact ⟨l, _, 0, _, rfl, rfl, hl, atI_nat (j := 0) rfl, q _ _ _ D4 (.int _) (odd_int (big (by omega) (by omega)))⟩
      · exact ⟨l, _, 1, _, rfl, rfl, hl, atI_nat (j := 1) rfl, q _ _ _ D4 (.int _) (odd_int (big (by omega) (by omega)))⟩
      · exact ⟨l, _, 2, _, rfl, rfl, hl, atI_nat (j := 2) rfl, q _ _ _ D4 (.int _) (odd_int (big (by omega) (by omega)))⟩
      · exact ⟨l, _, 3, _, rfl, rfl, hl, atI_nat (j := 3) rfl, q _ _ _ D4 (.int _) (odd_int (big (by omega) (by omega)))⟩
    · have e : ¬ way < 4 := by simpa using e
      refine ⟨.int way, rfl, rfl, _, rfl, ite2 (fun e4 => ?_) (fun e4 => ?_)⟩
      · refine ⟨.ref wl, rfl, .int high, rfl, high, 1, rfl, rfl, wl, cl, _, rfl, D1.2, by omega, log_small (by omega) (by omega), fun H2 d2 D2 d20 d21 => ?_⟩
        exact q _ _ _ (D1.trans D2) (.int _) (odd_int (big (by omega) (by omega)))
      · have e4 : way ≠ 4 := by simpa using e4
        have hav1 : ∀ b, Av b → Old H1 b := fun b hb z => hav b hb (D1.free hW z)
        have tn : ∀ σ, TEn Av (tTup (tCons (tC (.int 0)) tNil)) σ H1 (.tuple [.int 0]) := fun σ => ten_tup (tan_cons (ten_int 0) tan_nil) (by decide)
        have tl : ∀ σ, TEn Av (tLst (tCons (tC (.bl true)) (tCons (tC (.bl false)) (tCons (tC .non) (tCons (tC (.str (Str.ofString "0"))) (tCons (tC (.str (Str.ofString ""))) (tCons (tTup (tCons (tC (.int 0)) tNil)) (tCons (tLst (tCons (tC (.int 0)) tNil)) (tCons tDNewK (tCons (tTup tNil) (tCons (tLst tNil) (tCons (tTup (tCons (tTup (tCons (tC (.int 0)) tNil)) tNil)) tNil)))))))))))) σ H1 (.list oddL) := fun σ =>
          ten_lst hav1 (tan_cons (ten_bl true) <| tan_cons (ten_bl false) <| tan_cons ten_non <| tan_cons (ten_str _) <| tan_cons (ten_str _) <| tan_cons (tn σ) <| tan_cons (ten_lst hav1 (tan_cons (ten_int 0) tan_nil) (by decide)) <| tan_cons ten_d0 <| tan_cons (ten_tup tan_nil (by decide)) <| tan_cons (ten_lst hav1 tan_nil (by decide)) <| tan_cons (ten_tup (tan_cons (tn σ) tan_nil) (by decide)) tan_nil) (by decide)
        refine seqZ (tl _ H1 _ (Same.refl H1) (fun H2 v s2 an => ?_))
        have D2 := D1.same s2
        cases an with
        | dct l => cases l
        | @lst b xs _ hb nb al =>
          have lx : xs.length = 11 := al.len
          obtain ⟨x, ex⟩ : ∃ x, xs[(way - 5).toNat]? = some x := ⟨_, List.getElem?_eq_getElem (by omega)⟩
          obtain ⟨d, ed, ad⟩ := al.get ex
          have e9 : (((way - 5).toNat : Nat) : Int) = way - 5 := by omega
          have hat : atI xs (way - 5) = some x := by rw [← e9]; exact atI_nat ex
          exact ⟨.ref b, rfl, .int way, rfl, way, 5, rfl, rfl, b, xs, way - 5, x, rfl, rfl, .inl (.inl hb), hat, q _ _ _ D2 ad (odd_all d (List.mem_of_getElem? ed))⟩
theorem ok_lwA {f : Addr} {fd : FuncData} {k : Nat} (F : Fun K "_law_whole" "_law_whole" sLwh f fd) (T : TxtWh mg) : FnOk P w K mg base CX0 (k + 1) f fd ["thing", "low", "high"] spLwA := by
  refine F.ok scLwh (fun vs H Q E h => ?_) (fun cdv A outer s H vs Q E hr h => ?_)
  · obtain ⟨v, d, lo, hi, rfl, _⟩ := h
    rfl
  · obtain ⟨v, d, lo, hi, rfl, an, q⟩ := h
    refine ⟨_, (pss_one (ps_ret (pe_and (pe_callB call_isi (by rfl) T.m_isinstance (by decide +kernel) (pa_cons (pv 0) (pa_cons (pe_bltn (v := .ty "int") (by rfl) T.m_int (by decide +kernel) rfl) pa_nil))) (pe_and (pe_not (pe_callB call_isi (by rfl) T.m_isinstance (by decide +kernel) (pa_cons (pv 0) (pa_cons (pe_bltn (v := .ty "bool") (by rfl) T.m_bool (by decide +kernel) rfl) pa_nil)))) (pe_one (pe_chain op_le op_le (pv 1) (pv 0) (pv 2))))))), ?_⟩
    refine ⟨v, rfl, v, .ty "int", _, .type "int", _, rfl, .ty _, an.ty, kit_ty (kit_self (.inl rfl)), _, rfl, ?_⟩
    cases d with
    | int t =>
      cases an with
      | dct l => cases l
      | int =>
        refine iteT ?_
        refine ⟨.int t, rfl, .int t, .ty "bool", _, .type "bool", _, rfl, .ty _, (show Any H (.int t) (.int t) from .int t).ty, kit_ty (kit_self (.inr (.inl rfl))), _, rfl, _, rfl, iteT ?_⟩
        refine ⟨.int lo, rfl, .int t, rfl, lo, t, rfl, rfl, _, rfl, ite2 (fun e => ?_) (fun e => ?_)⟩
        · refine ⟨.int hi, rfl, t, hi, rfl, rfl, ?_⟩
          have e : lo ≤ t := by simpa using e
          have e2 : numD lo hi (.int t) = decide (t ≤ hi) := by simp [numD, e]
          rw [e2] at q
          exact q
        · have e : ¬ lo ≤ t := by simpa using e
          have e2 : numD lo hi (.int t) = false := by simp [numD, e]
          rw [e2] at q
          exact q
    | bool b =>
      refine iteT ?_
      refine ⟨v, rfl, v, .ty "bool", _, .type "bool", _, rfl, .ty _, an.ty, kit_ty (kit_self (.inr (.inl rfl))), _, rfl, _, rfl, ?_⟩
      exact iteF q
    | none => exact iteF q
    | str x => exact iteF q
    | list l => exact iteF q
    | tuple l => exact iteF q
    | dict l => exact iteF q
end
end Rd

set_option Elab.async false
set_option linter.all false
set_option maxRecDepth 100000
set_option maxHeartbeats 4000000
namespace Rd
open PySem PySem.Spec PyProof.Rows L2 Dt TL
abbrev sLri : Stmt := topS 23
abbrev nLri : List Str := ["things", "k"]
theorem scLri : FnScope nLri ["things"] (defScope sLri) := ⟨rfl, rfl, rfl, by decide +kernel, rfl, by decide +kernel, by decide +kernel⟩
abbrev sLiw : Stmt := topS 24
abbrev nLiw : List Str := ["thing", "many", "hues", "places", "rows", "row", "place", "hue"]
theorem scLiw : FnScope nLiw ["thing", "many", "hues"] (defScope sLiw) := ⟨rfl, rfl, rfl, by decide +kernel, rfl, by decide +kernel, by decide +kernel⟩
abbrev sLir : Stmt := topS 25
abbrev nLir : List Str := ["thing", "wish"]
theorem scLir : FnScope nLir ["thing"] (defScope sLir) := ⟨rfl, rfl, rfl, by decide +kernel, rfl, by decide +kernel, by decide +kernel⟩
def spLri : Sp := fun vs H Q _ => ∃ pa : Addr, vs = [.ref pa] ∧ ((∃ ns : List Int, H pa = some (.tup (ns.map V.int)) ∧ ns.length ≤ 200000 ∧ ∀ H', Same H H' → Q (.bl (risI ns)) H') ∨ (∃ (rs : List Addr) (rows : List Dt.Row), H pa = some (.tup (rs.map V.ref)) ∧ Paired (IsRow H) rs rows ∧ rows.length ≤ 200000 ∧ ∀ H', Same H H' → Q (.bl (risR rows)) H'))
structure TxtU1 (mg : Str → Option Value) : Prop where
  m_isinstance : mg "isinstance" = none
  m_int : mg "int" = none
  m_bool : mg "bool" = none
  m_tuple : mg "tuple" = none
  m_len : mg "len" = none
  m_range : mg "range" = none
def spLiwA : Sp := fun vs H Q _ => ∃ (v : V) (d : PyData) (many hues : Int), vs = [v, .int many, .int hues] ∧ Any H v d ∧ ShortW d ∧ ∀ H', Same H H' → Q (.bl (wshD many hues d)) H'
structure TxtU2 (P : Program) (w : World) (K : PySem.W.Frag) (mg : Str → Option Value) (base : Heap) : Prop extends TxtU1 mg where
  c__law_whole : Cal P w K mg base 1 "_law_whole" ["thing", "low", "high"] spLwA
  c__law_rising : Cal P w K mg base 1 "_law_rising" ["things"] spLri
structure TxtU3 (P : Program) (w : World) (K : PySem.W.Frag) (mg : Str → Option Value) (base : Heap) : Prop extends TxtU1 mg where
  c__law_whole : Cal P w K mg base 1 "_law_whole" ["thing", "low", "high"] spLwA
  c__law_power : Cal P w K mg base 1 "_law_power" ["number", "many"] spPow
  c__law_is_wish : Cal P w K mg base 2 "_law_is_wish" ["thing", "many", "hues"] spLiwA
section
variable {P : Program} {w : World} {K : PySem.W.Frag} {mg : Str → Option Value} {base : Heap}
set_option maxHeartbeats 16000000 in
theorem ok_lri {f : Addr} {fd : FuncData} {k : Nat} (F : Fun K "_law_rising" "_law_rising" sLri f fd) (T : TxtU1 mg) : FnOk P w K mg base CX0 (k + 1) f fd ["things"] spLri := by
  refine F.ok scLri (fun vs H Q E h => ?_) (fun cdv A outer s H vs Q E hr h => ?_)
  · obtain ⟨pa, rfl, _⟩ := h
    rfl
  · obtain ⟨pa, rfl, hcase⟩ := h
    refine ⟨_, (pss_one (ps_ret (pe_cmpR (op_eqE hr.units) (pe_lc (tt := tNot (tTest (tOp (rLtU K) (tOp (rIxT K) (tVar 0) (tOp (rI0 fun i j => .int (i - j)) (tVar 1) (tC (.int 1)))) (tOp (rIxT K) (tVar 0) (tVar 1))))) (te := tVar 1) (own := [("k", 1)]) rfl scLri.nd  (pi_range2 (by rfl) T.m_range (pa_cons pe_int (pa_cons (pe_callB call_len_seq (by rfl) T.m_len (by decide +kernel) (pa_cons (pv 0) pa_nil)) pa_nil))) (blkOk_by (own := [("k", 1)]) (N := nLri) (sc := defScope sLri) (by decide +kernel))
   (fun _ _ _ _ _ => (pg_name (i := 1) scLri.nd rfl (Or.inl rfl))) (fun _ _ _ _ _ => pts_one (pt_not (pt_cmpR (OpR.or op_lt (op_ltT (Nat.lt_of_le_of_lt (Nat.le_add_right _ 64) hr.units))) (pe_ix ix_tup (pv 0) (pe_op op_sub (pv 1) pe_int) (fun _ _ => rfl)) (pe_ix ix_tup (pv 0) (pv 1) (fun _ _ => rfl)) (nomark _)))) (fun _ _ _ _ _ => (pv 1))) (pe_lst pa_nil) (nomark _)))), ?_⟩
    rcases hcase with ⟨ns, hpa, hlen, q⟩ | ⟨rs, rows, hpa, prs, hlen, q⟩
    · refine ⟨.ref pa, rfl, pa, _, rfl, .inr (.inl (.inl hpa)), _, _, rfl, ⟨by decide, by decide, ?_, ?_⟩, fun D nD => ?_⟩
      · rw [List.length_map]; omega
      · rw [List.length_map]; omega
      have en : (((ns.map V.int).length : Int) - 1).toNat = ns.length - 1 := by rw [List.length_map]; omega
      rw [en]
      refine lc_range (lo := 1) (n := ns.length - 1) (fun i H3 => Same H H3 ∧ ∃ xs : List V, H3 D = some (.lst xs) ∧ xs.length ≤ i ∧ (xs = [] ↔ ∀ j, j < i → ns.getD j 0 < ns.getD (j + 1) 0)) ⟨same_upd nD, [], upd_same, Nat.le_refl _, ⟨fun _ j hj => absurd hj (Nat.not_lt_zero _), fun _ => rfl⟩⟩ (fun i H3 hi p => ?_) (fun H3 p => ?_)
      · obtain ⟨s3, xs, hD, xl, xe⟩ := p
        have h1 : i < ns.length := by omega
        have h2 : i + 1 < ns.length := by omega
        have ha := getD_get (d := 0) h1
        have hb := getD_get (d := 0) h2
        have e0 : (1 : Int) + (i : Int) - 1 = (i : Nat) := by omega
        have e1 : (1 : Int) + (i : Int) = ((i + 1 : Nat) : Int) := by omega
        refine ⟨rfl, .ref pa, rfl, .int (1 + (i : Int)), rfl, _, _, rfl, rfl, pa, _, _, .int ns[i], rfl, rfl, .inl (.inl (s3 _ _ hpa)), by rw [e0]; exact atI_nat (by rw [List.getElem?_map, List.getElem?_eq_getElem h1]; rfl), .ref pa, rfl, .int (1 + (i : Int)), rfl, pa, _, _, .int ns[i + 1], rfl, rfl, .inl (.inl (s3 _ _ hpa)), by rw [e1]; exact atI_nat (by rw [List.getElem?_map, List.getElem?_eq_getElem h2]; rfl), .inl ⟨ns[i], ns[i + 1], rfl, rfl, _, rfl, ?_⟩⟩
        by_cases hab : ns[i] < ns[i + 1]
        · rw [decide_eq_true hab]
          refine iteF ?_
          refine ⟨s3, xs, hD, by omega, ⟨fun e j hj => ?_, fun a => xe.mpr fun j hj => a j (by omega)⟩⟩
          by_cases ej : j = i
          · rw [ej, ha, hb]
            exact hab
          · exact xe.mp e j (by omega)
        · rw [decide_eq_false hab]
          refine iteT ?_
          refine ⟨.int (1 + (i : Int)), rfl, xs, hD, ?_, same_put s3 nD, _, upd_same, by rw [List.length_append]; exact Nat.succ_le_succ xl, ⟨fun e => by simp at e, fun a => ?_⟩⟩
          · exact Nat.lt_of_le_of_lt (show xs.length ≤ 200000 by omega) (by decide)
          · have z := a i (Nat.lt_succ_self _)
            rw [ha, hb] at z
            exact absurd z hab
      · obtain ⟨s3, xs, hD, xl, xe⟩ := p
        refine ⟨(by show 0 ≤ sizeLine; decide), fun e2 ne2 => ?_⟩
        have se := same_upd (o := .lst []) ne2
        refine ⟨D, e2, xs, rfl, rfl, .inl (.inl (se _ _ hD)), .inl (.inl upd_same), ?_⟩
        have e : xs.isEmpty = risI ns := by
          cases xs with
          | nil =>
            have z := xe.mp rfl
            exact (List.all_eq_true.mpr fun j hj => decide_eq_true (z j (List.mem_range.mp hj)) : risI ns = true).symm
          | cons y r =>
            cases er : risI ns with
            | false => rfl
            | true =>
              have z := xe.mpr fun j hj => of_decide_eq_true (List.all_eq_true.mp er j (List.mem_range.mpr hj))
              cases z
        rw [e]
        exact q _ (s3.trans se)
    · have rl := pairedLen prs
      refine ⟨.ref pa, rfl, pa, _, rfl, .inr (.inl (.inl hpa)), _, _, rfl, ⟨by decide, by decide, ?_, ?_⟩, fun D nD => ?_⟩
      · rw [List.length_map]; omega
      · rw [List.length_map]; omega
      have en : (((rs.map V.ref).length : Int) - 1).toNat = rows.length - 1 := by rw [List.length_map]; omega
      rw [en]
      refine lc_range (lo := 1) (n := rows.length - 1) (fun i H3 => Same H H3 ∧ ∃ xs : List V, H3 D = some (.lst xs) ∧ xs.length ≤ i ∧ (xs = [] ↔ ∀ j, j < i → HT.lexLt (rows.getD j []) (rows.getD (j + 1) []) = true)) ⟨same_upd nD, [], upd_same, Nat.le_refl _, ⟨fun _ j hj => absurd hj (Nat.not_lt_zero _), fun _ => rfl⟩⟩ (fun i H3 hi p => ?_) (fun H3 p => ?_)
      · obtain ⟨s3, xs, hD, xl, xe⟩ := p
        have h1 : i < rows.length := by omega
        have h2 : i + 1 < rows.length := by omega
        have ha := getD_get (d := []) h1
        have hb := getD_get (d := []) h2
        obtain ⟨pa1, ea1, ra1⟩ := pairedGet prs (List.getElem?_eq_getElem h1)
        obtain ⟨pb1, eb1, rb1⟩ := pairedGet prs (List.getElem?_eq_getElem h2)
        have e0 : (1 : Int) + (i : Int) - 1 = (i : Nat) := by omega
        have e1 : (1 : Int) + (i : Int) = ((i + 1 : Nat) : Int) := by omega
        refine ⟨rfl, .ref pa, rfl, .int (1 + (i : Int)), rfl, _, _, rfl, rfl, pa, _, _, .ref pa1, rfl, rfl, .inl (.inl (s3 _ _ hpa)), by rw [e0]; exact atI_nat (by rw [List.getElem?_map, ea1]; rfl), .ref pa, rfl, .int (1 + (i : Int)), rfl, pa, _, _, .ref pb1, rfl, rfl, .inl (.inl (s3 _ _ hpa)), by rw [e1]; exact atI_nat (by rw [List.getElem?_map, eb1]; rfl), .inr ⟨pa1, pb1, rows[i], rows[i + 1], rfl, rfl, .inl (.inl (s3 _ _ ra1)), .inl (.inl (s3 _ _ rb1)), _, rfl, ?_⟩⟩
        by_cases hab : HT.lexLt rows[i] rows[i + 1] = true
        · rw [hab]
          refine iteF ?_
          refine ⟨s3, xs, hD, by omega, ⟨fun e j hj => ?_, fun a => xe.mpr fun j hj => a j (by omega)⟩⟩
          by_cases ej : j = i
          · rw [ej, ha, hb]
            exact hab
          · exact xe.mp e j (by omega)
        · rw [Bool.eq_false_iff.mpr hab]
          refine iteT ?_
          refine ⟨.int (1 + (i : Int)), rfl, xs, hD, ?_, same_put s3 nD, _, upd_same, by rw [List.length_append]; exact Nat.succ_le_succ xl, ⟨fun e => by simp at e, fun a => ?_⟩⟩
          · exact Nat.lt_of_le_of_lt (show xs.length ≤ 200000 by omega) (by decide)
          · have z := a i (Nat.lt_succ_self _)
            rw [ha, hb] at z
            exact absurd z hab
      · obtain ⟨s3, xs, hD, xl, xe⟩ := p
        refine ⟨(by show 0 ≤ sizeLine; decide), fun e2 ne2 => ?_⟩
        have se := same_upd (o := .lst []) ne2
        refine ⟨D, e2, xs, rfl, rfl, .inl (.inl (se _ _ hD)), .inl (.inl upd_same), ?_⟩
        have e : xs.isEmpty = risR rows := by
          cases xs with
          | nil =>
            have z := xe.mp rfl
            exact (List.all_eq_true.mpr fun j hj => z j (List.mem_range.mp hj) : risR rows = true).symm
          | cons y r =>
            cases er : risR rows with
            | false => rfl
            | true =>
              have z := xe.mpr fun j hj => List.all_eq_true.mp er j (List.mem_range.mpr hj)
              cases z
        rw [e]
        exact q _ (s3.trans se)
end
end Rd

set_option Elab.async false
set_option linter.all false
set_option maxRecDepth 100000
set_option maxHeartbeats 4000000
namespace Rd
open PySem PySem.Spec PyProof.Rows L2 Dt TL
section
variable {P : Program} {w : World} {K : PySem.W.Frag} {mg : Str → Option Value} {base : Heap}
set_option maxHeartbeats 32000000 in
theorem ok_liwA {f : Addr} {fd : FuncData} {k : Nat} (F : Fun K "_law_is_wish" "_law_is_wish" sLiw f fd) (T : TxtU2 P w K mg base) : FnOk P w K mg base CX0 (k + 2) f fd ["thing", "many", "hues"] spLiwA := by
  refine F.ok scLiw (fun vs H Q E h => ?_) (fun cdv A outer s H vs Q E hr h => ?_)
  · obtain ⟨v, d, many, hues, rfl, _⟩ := h
    rfl
  · obtain ⟨v, d, many, hues, rfl, an, short, q⟩ := h
    refine ⟨_, (pss_cons (ps_if (PW.pt (pw_or (pt_not (pt_val (pe_callB call_isi (by rfl) T.m_isinstance (by decide +kernel) (pa_cons (pv 0) (pa_cons (pe_bltn (v := .ty "tuple") (by rfl) T.m_tuple (by decide +kernel) rfl) pa_nil))))) (pw_or1 (pt_cmpR op_ne (pe_callB call_len_seq (by rfl) T.m_len (by decide +kernel) (pa_cons (pv 0) pa_nil)) pe_int (nomark _)))))
  (pss_one (ps_ret pe_bl)) pss_nil)
  (pss_cons (ps_asg (pv 0) (pg_tup rfl (pgs_cons (pg_name (i := 3) scLiw.nd rfl (Or.inl rfl)) (pgs_cons (pg_name (i := 4) scLiw.nd rfl (Or.inl rfl)) pgs_nil))))
  (pss_cons (ps_if (PW.pt (pw_or (pt_not (pt_val (pe_callB call_isi (by rfl) T.m_isinstance (by decide +kernel) (pa_cons (pv 3) (pa_cons (pe_bltn (v := .ty "tuple") (by rfl) T.m_tuple (by decide +kernel) rfl) pa_nil))))) (pw_or (pt_not (pt_val (pe_callB call_isi (by rfl) T.m_isinstance (by decide +kernel) (pa_cons (pv 4) (pa_cons (pe_bltn (v := .ty "tuple") (by rfl) T.m_tuple (by decide +kernel) rfl) pa_nil))))) (pw_or (pt_cmpR (op_eqT0 hr.units) (pv 4) (pe_tup pa_nil) (nomark _)) (pw_or1 (pt_not (pt_chain op_lt op_lt pe_int (pe_callB call_len_seq (by rfl) T.m_len (by decide +kernel) (pa_cons (pv 3) pa_nil)) pe_int)))))))
  (pss_one (ps_ret pe_bl)) pss_nil)
  (pss_cons (ps_if (PW.pt (pw_or (pt_cmpR (op_neE hr.units) (pe_lc (tt := tNot (tB (tCall spLwA [] E0 (tCons (tVar 6) (tCons (tC (.int 0)) (tCons (tOp (rI0 fun i j => .int (i - j)) (tVar 1) (tC (.int 1))) tNil)))))) (te := tVar 6) (own := [("place", 6)]) rfl scLiw.nd  (pi_tup (pv 3)) (blkOk_by (own := [("place", 6)]) (N := nLiw) (sc := defScope sLiw) (by decide +kernel))
   (fun _ _ _ _ _ => (pg_name (i := 6) scLiw.nd rfl (Or.inl rfl))) (fun _ _ _ _ _ => pts_one (pt_not (pt_val (pe_cal T.c__law_whole (hr.mono (by omega)) (by rfl) (pa_cons (pv 6) (pa_cons pe_int (pa_cons (pe_op op_sub (pv 1) pe_int) pa_nil))))))) (fun _ _ _ _ _ => (pv 6))) (pe_lst pa_nil) (nomark _)) (pw_or1 (pt_not (pt_val (pe_cal T.c__law_rising (hr.mono (by omega)) (by rfl) (pa_cons (pv 3) pa_nil)))))))
  (pss_one (ps_ret pe_bl)) pss_nil)
  (pss_cons (ps_for PassesOwn.never rfl (pi_tup (pv 4)) (pg_name (i := 5) scLiw.nd rfl (Or.inl rfl))
  (pss_cons (ps_if (PW.pt (pw_or (pt_not (pt_val (pe_callB call_isi (by rfl) T.m_isinstance (by decide +kernel) (pa_cons (pv 5) (pa_cons (pe_bltn (v := .ty "tuple") (by rfl) T.m_tuple (by decide +kernel) rfl) pa_nil))))) (pw_or1 (pt_cmpR op_ne (pe_callB call_len_seq (by rfl) T.m_len (by decide +kernel) (pa_cons (pv 5) pa_nil)) (pe_callB call_len_seq (by rfl) T.m_len (by decide +kernel) (pa_cons (pv 3) pa_nil)) (nomark _)))))
  (pss_one (ps_ret pe_bl)) pss_nil)
  (pss_one (ps_if (pt_cmpR (op_neE hr.units) (pe_lc (tt := tNot (tB (tCall spLwA [] E0 (tCons (tVar 7) (tCons (tC (.int 0)) (tCons (tOp (rI0 fun i j => .int (i - j)) (tVar 2) (tC (.int 1))) tNil)))))) (te := tVar 7) (own := [("hue", 7)]) rfl scLiw.nd  (pi_tup (pv 5)) (blkOk_by (own := [("hue", 7)]) (N := nLiw) (sc := defScope sLiw) (by decide +kernel))
   (fun _ _ _ _ _ => (pg_name (i := 7) scLiw.nd rfl (Or.inl rfl))) (fun _ _ _ _ _ => pts_one (pt_not (pt_val (pe_cal T.c__law_whole (hr.mono (by omega)) (by rfl) (pa_cons (pv 7) (pa_cons pe_int (pa_cons (pe_op op_sub (pv 2) pe_int) pa_nil))))))) (fun _ _ _ _ _ => (pv 7))) (pe_lst pa_nil) (nomark _))
  (pss_one (ps_ret pe_bl)) pss_nil))))
  (pss_one (ps_ret (pe_cal T.c__law_rising (hr.mono (by omega)) (by rfl) (pa_cons (pv 4) pa_nil))))))))), ?_⟩
    have q0 := q H (Same.refl H)
    refine ⟨v, rfl, v, .ty "tuple", _, .type "tuple", _, rfl, .ty _, an.ty, kit_ty (kit_self (by decide)), _, rfl, ?_⟩
    cases d with
    | none => exact iteT (iteT q0)
    | bool b => exact iteT (iteT q0)
    | int i => exact iteT (iteT q0)
    | str x => exact iteT (iteT q0)
    | list l => exact iteT (iteT q0)
    | dict l => exact iteT (iteT q0)
    | tuple ds =>
      cases an with
      | dct l => cases l
      | @tup wa xs _ hwa al =>
        have xl := al.len
        refine iteF ⟨.ref wa, rfl, wa, _, rfl, .inr (.inl (.inl hwa)), rfl, _, rfl, ?_⟩
        rw [xl]
        have no2 : ds.length ≠ 2 → wshD many hues (.tuple ds) = false := fun n => by
          match ds, n with
          | [], _ => rfl
          | [_], _ => rfl
          | [_, _], n => exact absurd rfl n
          | _ :: _ :: _ :: _, _ => rfl
        by_cases el : ds.length = 2
        · rw [el]
          refine iteNS rfl ?_
          match ds, el, al, short, q, q0 with
          | [dp, dr], _, .cons (v := vp) ap (.cons (v := vr) ar .nil), short, q, q0 =>
            have q : ∀ H', Same H H' → Q (.bl (plsD many dp && rwsD (lenD dp) hues dr)) H' := q
            have q0 := q H (Same.refl H)
            refine ⟨.ref wa, rfl, wa, _, rfl, .inl (.inl hwa), rfl, vp, [vr], rfl, vr, [], rfl, rfl, ?_⟩
            refine ⟨vp, rfl, vp, .ty "tuple", _, .type "tuple", _, rfl, .ty _, ap.ty, kit_ty (kit_self (by decide)), _, rfl, ?_⟩
            cases dp with
            | none => exact iteT (iteT q0)
            | bool b => exact iteT (iteT q0)
            | int i => exact iteT (iteT q0)
            | str x => exact iteT (iteT q0)
            | list l => exact iteT (iteT q0)
            | dict l => exact iteT (iteT q0)
            | tuple lp =>
            cases ap with
            | dct l => cases l
            | @tup pa ps _ hpa alp =>
            have pl := alp.len
            have lp1 : lp.length ≤ 200000 := short.1
            refine iteF ⟨vr, rfl, vr, .ty "tuple", _, .type "tuple", _, rfl, .ty _, ar.ty, kit_ty (kit_self (by decide)), _, rfl, ?_⟩
            have qr : rwsD lp.length hues dr = false → ∀ H', Same H H' → Q (.bl false) H' := fun e H' s => by
              have z := q H' s
              rw [show rwsD (lenD (.tuple lp)) hues dr = false from e, Bool.and_false] at z
              exact z
            have qp : plsD many (.tuple lp) = false → ∀ H', Same H H' → Q (.bl false) H' := fun e H' s => by
              have z := q H' s
              rw [e, Bool.false_and] at z
              exact z
            cases dr with
            | none => exact iteT (iteT (qr rfl H (Same.refl H)))
            | bool b => exact iteT (iteT (qr rfl H (Same.refl H)))
            | int i => exact iteT (iteT (qr rfl H (Same.refl H)))
            | str x => exact iteT (iteT (qr rfl H (Same.refl H)))
            | list l => exact iteT (iteT (qr rfl H (Same.refl H)))
            | dict l => exact iteT (iteT (qr rfl H (Same.refl H)))
            | tuple lr =>
            cases ar with
            | dct l => cases l
            | @tup ra rs _ hra alr =>
            have rl := alr.len
            have lr1 : lr.length ≤ 200000 := short.2
            refine iteF ⟨.ref ra, rfl, (by show 0 ≤ sizeLine; decide), fun e0 ne0 => ?_⟩
            have s0 := same_upd (o := .tup []) ne0
            refine ⟨ra, e0, rs, rfl, rfl, .inl (.inl (s0 _ _ hra)), .inl (.inl upd_same), _, rfl, ?_⟩
            cases ez : rs.isEmpty with
            | true =>
              have z : lr = [] := by
                have : rs = [] := by simpa using ez
                rw [this] at rl
                exact List.length_eq_zero_iff.mp rl.symm
              exact iteT (iteT (qr (by rw [z]; rfl) _ s0))
            | false =>
            have lr0 : lr.length ≠ 0 := by
              intro z
              rw [z] at rl
              rw [List.length_eq_zero_iff.mp rl] at ez
              cases ez
            refine iteF ?_
            have hwa0 := s0 _ _ hwa
            have hpa0 := s0 _ _ hpa
            have hra0 := s0 _ _ hra
            generalize upd H e0 (.tup []) = H0 at s0 hwa0 hpa0 hra0
            refine ⟨.ref pa, rfl, pa, _, rfl, .inr (.inl (.inl hpa0)), _, _, rfl, rfl, _, rfl, ?_⟩
            rw [pl]
            by_cases z1 : 1 ≤ lp.length
            · rw [if_pos (decide_eq_true (show (0 : Int) < ((lp.length : Nat) : Int) by omega))]
              refine ⟨_, _, rfl, rfl, _, rfl, ?_⟩
              by_cases z3 : lp.length ≤ 3
              · rw [decide_eq_true (show ((lp.length : Nat) : Int) < 4 by omega)]
                refine iteF ?_
                -- places
                refine ⟨.ref pa, rfl, pa, rfl, ⟨_, .inl (.inl hpa0)⟩, fun D nD => ?_⟩
                refine lc_tup (K := K) (a := pa) (xs := ps) (fun j H5 => Same H0 H5 ∧ ∃ zs : List V, H5 D = some (.lst zs) ∧ zs.length ≤ j ∧ zs.isEmpty = (lp.take j).all (numD 0 (many - 1))) ⟨same_upd nD, [], upd_same, Nat.le_refl _, rfl⟩ (fun j H5 _ p => .inl (.inl (p.1 _ _ hpa0))) (fun j x H5 hx p => ?_) (fun H5 p => ?_)
                · obtain ⟨s5, zs, hD, lz, ze⟩ := p
                  obtain ⟨d, ed, ad⟩ := alp.get hx
                  have ad5 := ad.up (NoTb.same (s0.trans s5))
                  refine ⟨rfl, x, rfl, .int many, rfl, many, 1, rfl, rfl, x, d, 0, many - 1, rfl, ad5, _, rfl, ?_⟩
                  have et : (lp.take (j + 1)).all (numD 0 (many - 1)) = ((lp.take j).all (numD 0 (many - 1)) && numD 0 (many - 1) d) := by
                    rw [take_snoc ed, List.all_append]
                    show (_ && (numD 0 (many - 1) d && true)) = _
                    rw [Bool.and_true]
                  cases eb : numD 0 (many - 1) d with
                  | true =>
                    refine iteF ⟨s5, zs, hD, by omega, ?_⟩
                    rw [et, eb, Bool.and_true, ze]
                  | false =>
                    have jl := (List.getElem?_eq_some_iff.mp ed).1
                    refine iteT ⟨x, rfl, _, hD, ?_, same_put s5 nD, _, upd_same, ?_, ?_⟩
                    · exact Nat.lt_of_le_of_lt (show zs.length ≤ 200000 by omega) (by decide)
                    · rw [List.length_append]
                      exact Nat.succ_le_succ lz
                    · rw [et, eb, Bool.and_false]
                      cases zs <;> rfl
                obtain ⟨s5, zs, hD, lz, ze⟩ := p
                rw [pl, List.take_length] at ze
                refine ⟨(by show 0 ≤ sizeLine; decide), fun e2 ne2 => ⟨D, e2, zs, rfl, rfl, .inl (.inl (same_upd ne2 _ _ hD)), .inl (.inl upd_same), _, rfl, ?_⟩⟩
                have s6 := (s0.trans s5).trans (same_upd (o := .lst []) ne2)
                have s60 := s5.trans (same_upd (o := .lst []) ne2)
                generalize upd H5 e2 (.lst []) = H6 at s6 s60
                have hpa6 := s60 _ _ hpa0
                have hra6 := s60 _ _ hra0
                have epl : plsD many (.tuple lp) = (lp.all (numD 0 (many - 1)) && risI (lp.map intD)) := by
                  show (decide (1 ≤ lp.length ∧ lp.length ≤ 3) && _ && _) = _
                  rw [decide_eq_true ⟨z1, z3⟩, Bool.true_and]
                cases ez2 : zs.isEmpty with
                | false =>
                  rw [ez2] at ze
                  exact iteT (iteT (qp (by rw [epl, ← ze]; rfl) _ s6))
                | true =>
                rw [ez2] at ze
                rw [← ze, Bool.true_and] at epl
                refine iteF ?_
                have elp := num_all ze.symm
                generalize lp.map intD = ns at elp epl
                subst elp
                have eps := an_ints alp
                subst eps
                rw [List.length_map] at lp1 pl z1 z3
                refine ⟨.ref pa, rfl, pa, rfl, .inl ⟨ns, hpa6, lp1, fun H7 s7 => ⟨_, rfl, ?_⟩⟩⟩
                cases er : risI ns with
                | false => exact iteT (qp (by rw [epl, er]) _ (s6.trans s7))
                | true =>
                rw [er] at epl
                refine iteF ?_
                have hra7 := s7 _ _ hra6
                have hpa7 := s7 _ _ hpa6
                have s07 := s6.trans s7
                have q2 : ∀ H', Same H H' → Q (.bl (rwsD ns.length hues (.tuple lr))) H' := fun H' s' => by
                  have z := q H' s'
                  rw [epl, Bool.true_and] at z
                  rw [show lenD (.tuple (ns.map PyData.int)) = ns.length from List.length_map _] at z
                  exact z
                have er2 : rwsD ns.length hues (.tuple lr) = (lr.all (husD ns.length hues) && risR (lr.map rowI)) := by
                  show (decide (lr.length ≠ 0) && _ && _) = _
                  rw [decide_eq_true lr0, Bool.true_and]
                -- rows
                refine ⟨.ref ra, rfl, ra, rfl, ⟨_, .inl (.inl hra7)⟩, ?_⟩
                refine for_tup (K := K) (a := ra) (xs := rs) (fun i σ H8 => Same H7 H8 ∧ (lr.take i).all (husD ns.length hues) = true ∧ ∃ y5, σ = [some (.ref wa), some (.int many), some (.int hues), some (.ref pa), some (.ref ra), y5, none, none]) ⟨fun _ _ e => e, rfl, _, rfl⟩ (fun i σ H8 _ p => .inl (.inl (p.1 _ _ hra7))) (fun i x σ H8 hx p => ?_) (fun σ H8 p => ?_)
                · obtain ⟨s8, ok, y5, rfl⟩ := p
                  obtain ⟨d, ed, ad⟩ := alr.get hx
                  have s08 := s07.trans s8
                  have ad8 := ad.up (NoTb.same s08)
                  have bad : husD ns.length hues d = false → ∀ H', Same H8 H' → Q (.bl false) H' := fun eb H' s' => by
                    have z := q2 H' (s08.trans s')
                    rw [er2, all_no (List.mem_of_getElem? ed) eb, Bool.false_and] at z
                    exact z
                  have bad0 := fun e => bad e H8 (Same.refl H8)
                  refine ⟨x, rfl, x, .ty "tuple", _, .type "tuple", _, rfl, .ty _, ad8.ty, kit_ty (kit_self (by decide)), _, rfl, ?_⟩
                  cases d with
                  | none => exact iteT (iteT (bad0 rfl))
                  | bool b => exact iteT (iteT (bad0 rfl))
                  | int i => exact iteT (iteT (bad0 rfl))
                  | str x => exact iteT (iteT (bad0 rfl))
                  | list l => exact iteT (iteT (bad0 rfl))
                  | dict l => exact iteT (iteT (bad0 rfl))
                  | tuple r =>
                  cases ad with
                  | dct l => cases l
                  | @tup r0 ws _ hr0 alw =>
                  have wl := alw.len
                  have hr8 := s08 _ _ hr0
                  have eh : husD ns.length hues (.tuple r) = (decide (r.length = ns.length) && r.all (numD 0 (hues - 1))) := rfl
                  refine iteF ⟨.ref r0, rfl, r0, _, rfl, .inr (.inl (.inl hr8)), .ref pa, rfl, pa, _, rfl, .inr (.inl (.inl (s8 _ _ hpa7))), rfl, _, rfl, ?_⟩
                  rw [List.length_map, wl]
                  by_cases el2 : r.length = ns.length
                  · rw [decide_eq_true el2, Bool.true_and] at eh
                    refine iteNS (by rw [el2]) ?_
                    refine ⟨.ref r0, rfl, r0, rfl, ⟨_, .inl (.inl hr8)⟩, fun D2 nD2 => ?_⟩
                    refine lc_tup (K := K) (a := r0) (xs := ws) (fun j H9 => Same H8 H9 ∧ ∃ zs : List V, H9 D2 = some (.lst zs) ∧ zs.length ≤ j ∧ zs.isEmpty = (r.take j).all (numD 0 (hues - 1))) ⟨same_upd nD2, [], upd_same, Nat.le_refl _, rfl⟩ (fun j H9 _ p => .inl (.inl (p.1 _ _ hr8))) (fun j x H9 hx p => ?_) (fun H9 p => ?_)
                    · obtain ⟨s9, zs, hD, lz, ze⟩ := p
                      obtain ⟨d, ed, ad⟩ := alw.get hx
                      have ad9 := ad.up (NoTb.same (s08.trans s9))
                      refine ⟨rfl, x, rfl, .int hues, rfl, hues, 1, rfl, rfl, x, d, 0, hues - 1, rfl, ad9, _, rfl, ?_⟩
                      have et : (r.take (j + 1)).all (numD 0 (hues - 1)) = ((r.take j).all (numD 0 (hues - 1)) && numD 0 (hues - 1) d) := by
                        rw [take_snoc ed, List.all_append]
                        show (_ && (numD 0 (hues - 1) d && true)) = _
                        rw [Bool.and_true]
                      cases eb : numD 0 (hues - 1) d with
                      | true =>
                        refine iteF ⟨s9, zs, hD, by omega, ?_⟩
                        rw [et, eb, Bool.and_true, ze]
                      | false =>
                        have jl := (List.getElem?_eq_some_iff.mp ed).1
                        refine iteT ⟨x, rfl, _, hD, ?_, same_put s9 nD2, _, upd_same, ?_, ?_⟩
                        · exact Nat.lt_of_le_of_lt (show zs.length ≤ 200000 by omega) (by decide)
                        · rw [List.length_append]
                          exact Nat.succ_le_succ lz
                        · rw [et, eb, Bool.and_false]
                          cases zs <;> rfl
                    obtain ⟨s9, zs, hD, lz, ze⟩ := p
                    rw [wl, List.take_length] at ze
                    refine ⟨(by show 0 ≤ sizeLine; decide), fun e3 ne3 => ⟨D2, e3, zs, rfl, rfl, .inl (.inl (same_upd ne3 _ _ hD)), .inl (.inl upd_same), _, rfl, ?_⟩⟩
                    have s10 := s9.trans (same_upd (o := .lst []) ne3)
                    cases ez3 : zs.isEmpty with
                    | false =>
                      rw [ez3] at ze
                      exact iteT (bad (by rw [eh, ← ze]) _ s10)
                    | true =>
                      rw [ez3] at ze
                      refine iteF ⟨s8.trans s10, ?_, _, rfl⟩
                      rw [take_snoc ed, List.all_append, ok]
                      show (true && (husD ns.length hues (.tuple r) && true)) = true
                      rw [eh, ← ze]
                      rfl
                  · have e : (!decide (V.int (r.length : Int) = V.int (ns.length : Int))) = true := by
                      rw [decide_eq_false (fun z => el2 (by injection z with z; omega))]
                      rfl
                    rw [e]
                    refine iteT (bad0 ?_)
                    rw [eh, decide_eq_false el2, Bool.false_and]
                · obtain ⟨s8, ok, y5, rfl⟩ := p
                  rw [rl, List.take_length] at ok
                  obtain ⟨rr, e1, pr⟩ := an_rows alr ok
                  subst e1
                  have s08 := s07.trans s8
                  rw [er2, ok, Bool.true_and] at q2
                  refine ⟨.ref ra, rfl, ra, rfl, .inr ⟨rr, lr.map rowI, s8 _ _ hra7, pairedMap (fun _ _ e => s08 _ _ e) pr, by rw [List.length_map]; exact lr1, fun H9 s9 => q2 _ (s08.trans s9)⟩⟩
              · rw [decide_eq_false (show ¬ ((lp.length : Nat) : Int) < 4 by omega)]
                refine iteT (qp ?_ _ s0)
                show (decide (1 ≤ lp.length ∧ lp.length ≤ 3) && _ && _) = false
                rw [decide_eq_false (show ¬ (1 ≤ lp.length ∧ lp.length ≤ 3) by omega)]
                rfl
            · rw [if_neg (by rw [decide_eq_true_eq]; omega)]
              refine ⟨_, rfl, iteT (qp ?_ _ s0)⟩
              show (decide (1 ≤ lp.length ∧ lp.length ≤ 3) && _ && _) = false
              rw [decide_eq_false (show ¬ (1 ≤ lp.length ∧ lp.length ≤ 3) by omega)]
              rfl
        · rw [no2 el] at q0
          have e : (!decide (V.int (ds.length : Int) = V.int 2)) = true := by
            rw [decide_eq_false (fun z => el (by injection z with z; omega))]
            rfl
          rw [e]
          exact iteT q0
end
end Rd

set_option Elab.async false
set_option linter.all false
set_option maxRecDepth 100000
set_option maxHeartbeats 4000000
namespace Rd
open PySem PySem.Spec PyProof.Rows L2 Dt TL
def spLirA : Sp := fun vs H Q _ => ∃ (v : V) (d : PyData), vs = [v] ∧ Any H v d ∧ ShortR d ∧ ∀ H', Same H H' → Q (.bl (irdD d)) H'
section
variable {P : Program} {w : World} {K : PySem.W.Frag} {mg : Str → Option Value} {base : Heap}
set_option maxHeartbeats 32000000 in
theorem ok_lirA {f : Addr} {fd : FuncData} {k : Nat} (F : Fun K "_law_is_riddle" "_law_is_riddle" sLir f fd) (T : TxtU3 P w K mg base) : FnOk P w K mg base CX0 (k + 3) f fd ["thing"] spLirA := by
  refine F.ok scLir (fun vs H Q E h => ?_) (fun cdv A outer s H vs Q E hr h => ?_)
  · obtain ⟨v, d, rfl, _⟩ := h
    rfl
  · obtain ⟨v, d, rfl, an, short, q⟩ := h
    refine ⟨_, (pss_cons (ps_if (PW.pt (pw_or (pt_not (pt_val (pe_callB call_isi (by rfl) T.m_isinstance (by decide +kernel) (pa_cons (pv 0) (pa_cons (pe_bltn (v := .ty "tuple") (by rfl) T.m_tuple (by decide +kernel) rfl) pa_nil))))) (pw_or (pt_cmpR op_ne (pe_callB call_len_seq (by rfl) T.m_len (by decide +kernel) (pa_cons (pv 0) pa_nil)) pe_int (nomark _)) (pw_or (pt_not (pt_val (pe_callB call_isi (by rfl) T.m_isinstance (by decide +kernel) (pa_cons (pe_ix ix_tup (pv 0) pe_int (fun _ _ => rfl)) (pa_cons (pe_bltn (v := .ty "tuple") (by rfl) T.m_tuple (by decide +kernel) rfl) pa_nil))))) (pw_or1 (pt_cmpR op_gt (pe_callB call_len_seq (by rfl) T.m_len (by decide +kernel) (pa_cons (pe_ix ix_tup (pv 0) pe_int (fun _ _ => rfl)) pa_nil)) pe_int (nomark _)))))))
  (pss_one (ps_ret pe_bl)) pss_nil)
  (pss_cons (ps_if (PW.pt (pw_or (pt_not (pt_val (pe_cal T.c__law_whole (hr.mono (by omega)) (by rfl) (pa_cons (pe_ix ix_tup (pv 0) pe_int (fun _ _ => rfl)) (pa_cons pe_int (pa_cons pe_int pa_nil)))))) (pw_or (pt_not (pt_val (pe_cal T.c__law_whole (hr.mono (by omega)) (by rfl) (pa_cons (pe_ix ix_tup (pv 0) pe_int (fun _ _ => rfl)) (pa_cons pe_int (pa_cons pe_int pa_nil)))))) (pw_or1 (pt_cmpR op_gt (pe_cal T.c__law_power (hr.mono (by omega)) (by rfl) (pa_cons (pe_ix ix_tup (pv 0) pe_int (fun _ _ => rfl)) (pa_cons (pe_ix ix_tup (pv 0) pe_int (fun _ _ => rfl)) pa_nil))) pe_int (nomark _))))))
  (pss_one (ps_ret pe_bl)) pss_nil)
  (pss_one (ps_ret (pe_cmpR (op_eqE hr.units) (pe_lc (tt := tNot (tB (tCall spLiwA [] E0 (tCons (tVar 1) (tCons (tOp (rIxT K) (tVar 0) (tC (.int 0))) (tCons (tOp (rIxT K) (tVar 0) (tC (.int 1))) tNil)))))) (te := tVar 1) (own := [("wish", 1)]) rfl scLir.nd  (pi_tup (pe_ix ix_tup (pv 0) pe_int (fun _ _ => rfl))) (blkOk_by (own := [("wish", 1)]) (N := nLir) (sc := defScope sLir) (by decide +kernel))
   (fun _ _ _ _ _ => (pg_name (i := 1) scLir.nd rfl (Or.inl rfl))) (fun _ _ _ _ _ => pts_one (pt_not (pt_val (pe_cal T.c__law_is_wish (hr.mono (by omega)) (by rfl) (pa_cons (pv 1) (pa_cons (pe_ix ix_tup (pv 0) pe_int (fun _ _ => rfl)) (pa_cons (pe_ix ix_tup (pv 0) pe_int (fun _ _ => rfl)) pa_nil))))))) (fun _ _ _ _ _ => (pv 1))) (pe_lst pa_nil) (nomark _)))))), ?_⟩
    have q0 := q H (Same.refl H)
    refine ⟨v, rfl, v, .ty "tuple", _, .type "tuple", _, rfl, .ty _, an.ty, kit_ty (kit_self (by decide)), _, rfl, ?_⟩
    cases d with
    | none => exact iteT (iteT q0)
    | bool b => exact iteT (iteT q0)
    | int i => exact iteT (iteT q0)
    | str x => exact iteT (iteT q0)
    | list l => exact iteT (iteT q0)
    | dict l => exact iteT (iteT q0)
    | tuple ds =>
      cases an with
      | dct l => cases l
      | @tup pa xs _ hpa al =>
        have xl := al.len
        refine iteF ⟨.ref pa, rfl, pa, xs, rfl, .inr (.inl (.inl hpa)), rfl, _, rfl, ?_⟩
        rw [xl]
        have no3 : ds.length ≠ 3 → irdD (.tuple ds) = false := fun n => by
          match ds, n with
          | [], _ => rfl
          | [_], _ => rfl
          | [_, _], _ => rfl
          | [_, _, _], n => exact absurd rfl n
          | _ :: _ :: c :: _ :: _, _ => cases c <;> rfl
        by_cases el : ds.length = 3
        · rw [el]
          refine iteNS rfl ?_
          match ds, el, al, short, q, q0 with
          | [dm, dh, dw], _, .cons (v := vm) am (.cons (v := vh) ah (.cons (v := vw) aw .nil)), short, q, q0 =>
            have x0 : atI [vm, vh, vw] 0 = some vm := atI_nat (j := 0) rfl
            have x1 : atI [vm, vh, vw] 1 = some vh := atI_nat (j := 1) rfl
            have x2 : atI [vm, vh, vw] 2 = some vw := atI_nat (j := 2) rfl
            refine ⟨.ref pa, rfl, pa, _, 2, vw, rfl, rfl, .inl (.inl hpa), x2, vw, .ty "tuple", _, .type "tuple", _, rfl, .ty _, aw.ty, kit_ty (kit_self (by decide)), _, rfl, ?_⟩
            cases dw with
            | none => exact iteT (iteT q0)
            | bool b => exact iteT (iteT q0)
            | int i => exact iteT (iteT q0)
            | str x => exact iteT (iteT q0)
            | list l => exact iteT (iteT q0)
            | dict l => exact iteT (iteT q0)
            | tuple l =>
            cases aw with
            | dct l => cases l
            | @tup wa ws _ hwa alw =>
            have wl := alw.len
            refine iteF ⟨.ref pa, rfl, pa, _, 2, .ref wa, rfl, rfl, .inl (.inl hpa), x2, wa, ws, rfl, .inr (.inl (.inl hwa)), _, _, rfl, rfl, _, rfl, ?_⟩
            rw [wl]
            have ird : irdD (.tuple [dm, dh, .tuple l]) = (sizD dm dh && decide (l.length ≤ 8) && l.all (wshD (intD dm) (intD dh))) := rfl
            by_cases e8 : l.length ≤ 8
            · rw [decide_eq_false (show ¬ ((l.length : Nat) : Int) > 8 by omega)]
              refine iteF ?_
              rw [decide_eq_true e8, Bool.and_true] at ird
              refine ⟨.ref pa, rfl, pa, _, 0, vm, rfl, rfl, .inl (.inl hpa), x0, vm, dm, 1, 6, rfl, am, _, rfl, ?_⟩
              have no : ∀ {d e : PyData}, (numD 1 6 d = false ∨ numD 2 4 e = false) → sizD d e = false := fun {d e} h => by
                cases d with
                | int m =>
                  cases e with
                  | int n =>
                    show sizeOk m n = false
                    unfold sizeOk
                    rcases h with h | h
                    · have h : decide (1 ≤ m ∧ m ≤ 6) = false := h
                      rw [h, Bool.false_and, Bool.false_and]
                    · have h : decide (2 ≤ n ∧ n ≤ 4) = false := h
                      rw [h, Bool.and_false, Bool.false_and]
                  | _ => rfl
                | _ => rfl
              cases h1 : numD 1 6 dm with
              | false =>
                rw [ird, no (.inl h1), Bool.false_and] at q0
                exact iteT (iteT q0)
              | true =>
              refine iteF ⟨.ref pa, rfl, pa, _, 1, vh, rfl, rfl, .inl (.inl hpa), x1, vh, dh, 2, 4, rfl, ah, _, rfl, ?_⟩
              cases h2 : numD 2 4 dh with
              | false =>
                rw [ird, no (.inr h2), Bool.false_and] at q0
                exact iteT (iteT q0)
              | true =>
              cases dm with
              | int m =>
                cases dh with
                | int n =>
                  have h1 : decide (1 ≤ m ∧ m ≤ 6) = true := h1
                  have h2 : decide (2 ≤ n ∧ n ≤ 4) = true := h2
                  have g1 := of_decide_eq_true h1
                  have g2 := of_decide_eq_true h2
                  cases am with
                  | dct l => cases l
                  | int =>
                  cases ah with
                  | dct l => cases l
                  | int =>
                  refine iteF ⟨.ref pa, rfl, pa, _, 1, .int n, rfl, rfl, .inl (.inl hpa), x1, .ref pa, rfl, pa, _, 0, .int m, rfl, rfl, .inl (.inl hpa), x0, n, m, rfl, by omega, by omega, by omega, by omega, _, _, rfl, rfl, _, rfl, ?_⟩
                  have e : sizD (.int m) (.int n) = decide (n ^ m.toNat ≤ 256) := by
                    show sizeOk m n = _
                    unfold sizeOk
                    rw [h1, h2, Bool.true_and, Bool.true_and]
                  rw [e] at ird
                  by_cases c3 : n ^ m.toNat ≤ 256
                  · rw [decide_eq_false (show ¬ n ^ m.toNat > 256 by omega)]
                    refine iteF ?_
                    rw [decide_eq_true c3, Bool.true_and] at ird
                    have ird : irdD (.tuple [.int m, .int n, .tuple l]) = l.all (wshD m n) := ird
                    have sl : ∀ x ∈ l, ShortW x := short
                    refine ⟨.ref pa, rfl, pa, _, 2, .ref wa, rfl, rfl, .inl (.inl hpa), x2, wa, rfl, ⟨_, .inl (.inl hwa)⟩, fun D nD => ?_⟩
                    refine lc_tup (K := K) (a := wa) (xs := ws) (fun j H5 => Same H H5 ∧ ∃ zs : List V, H5 D = some (.lst zs) ∧ zs.length ≤ j ∧ zs.isEmpty = (l.take j).all (wshD m n)) ⟨same_upd nD, [], upd_same, Nat.le_refl _, rfl⟩ (fun j H5 _ p => .inl (.inl (p.1 _ _ hwa))) (fun j x H5 hx p => ?_) (fun H5 p => ?_)
                    · obtain ⟨s5, zs, hD, lz, ze⟩ := p
                      obtain ⟨d, ed, ad⟩ := alw.get hx
                      have ad5 := ad.up (NoTb.same s5)
                      refine ⟨rfl, x, rfl, .ref pa, rfl, pa, _, 0, _, rfl, rfl, .inl (.inl (s5 _ _ hpa)), x0, .ref pa, rfl, pa, _, 1, _, rfl, rfl, .inl (.inl (s5 _ _ hpa)), x1, x, d, m, n, rfl, ad5, sl d (List.mem_of_getElem? ed), fun H6 s6 => ⟨_, rfl, ?_⟩⟩
                      have et : (l.take (j + 1)).all (wshD m n) = ((l.take j).all (wshD m n) && wshD m n d) := by
                        rw [take_snoc ed, List.all_append]
                        show (_ && (wshD m n d && true)) = _
                        rw [Bool.and_true]
                      cases eb : wshD m n d with
                      | true =>
                        refine iteF ⟨s5.trans s6, zs, s6 _ _ hD, by omega, ?_⟩
                        rw [et, eb, Bool.and_true, ze]
                      | false =>
                        have jl := (List.getElem?_eq_some_iff.mp ed).1
                        refine iteT ⟨x, rfl, _, s6 _ _ hD, ?_, same_put (s5.trans s6) nD, _, upd_same, ?_, ?_⟩
                        · exact Nat.lt_of_le_of_lt (show zs.length ≤ 200000 by omega) (by decide)
                        · rw [List.length_append]
                          exact Nat.succ_le_succ lz
                        · rw [et, eb, Bool.and_false]
                          cases zs <;> rfl
                    obtain ⟨s5, zs, hD, lz, ze⟩ := p
                    rw [wl, List.take_length] at ze
                    refine ⟨(by show 0 ≤ sizeLine; decide), fun e2 ne2 => ⟨D, e2, zs, rfl, rfl, .inl (.inl (same_upd ne2 _ _ hD)), .inl (.inl upd_same), ?_⟩⟩
                    rw [ze, ← ird]
                    exact q _ (s5.trans (same_upd ne2))
                  · rw [decide_eq_true (show n ^ m.toNat > 256 by omega)]
                    rw [ird, decide_eq_false c3, Bool.false_and] at q0
                    exact iteT q0
                | _ => exact nomatch h2
              | _ => exact nomatch h1
            · rw [decide_eq_true (show ((l.length : Nat) : Int) > 8 by omega)]
              rw [ird, decide_eq_false e8, Bool.and_false, Bool.false_and] at q0
              exact iteT q0
        · rw [no3 el] at q0
          have e : (!decide (V.int (ds.length : Int) = V.int 3)) = true := by
            rw [decide_eq_false (fun z => el (by injection z with z; omega))]
            rfl
          rw [e]
          exact iteT (iteT q0)
end
end Rd

set_option Elab.async false
set_option linter.all false
set_option maxRecDepth 100000
set_option maxHeartbeats 4000000
namespace Rd
open PySem PySem.Spec PyProof.Rows L2 Dt TL
abbrev sBtu : Stmt := topS 27
abbrev nBtu : List Str := ["well", "things", "odd", "way", "at"]
theorem scBtu : FnScope nBtu ["well", "things", "odd"] (defScope sBtu) := ⟨rfl, rfl, rfl, by decide +kernel, rfl, by decide +kernel, by decide +kernel⟩
section
variable {P : Program} {w : World} {K : PySem.W.Frag} {mg : Str → Option Value} {base : Heap}
def spBtuA : Sp := fun vs H Q _ => ∃ (Av : Addr → Prop) (wl cl ta : Addr) (vo : V) (l : List PyData) (do_ : PyData) (n wd wo : Nat), vs = [.ref wl, .ref ta, vo] ∧ Well H wl cl ∧ (∀ b, Av b → Old H b) ∧ Av wl ∧ Av cl ∧ An Av H (.ref ta) (.tuple l) ∧ An Av H vo do_ ∧ 1 ≤ l.length ∧ l.length ≤ 90000 ∧ FXA l n wd ∧ FX do_ n wo ∧
  ∀ H' v d, Drawn wl cl H H' → An Av H' v d → FX d (n + 1) (2 * wd + wo + 1) → Q v H'
structure TxtBtu (P : Program) (w : World) (K : PySem.W.Frag) (mg : Str → Option Value) (base : Heap) : Prop where
  m_list : mg "list" = none
  m_len : mg "len" = none
  c__law_draw : Cal P w K mg base 1 "_law_draw" ["well", "many"] spDraw
theorem FXA.rev {n : Nat} : ∀ {ds : List PyData} {w : Nat}, FXA ds n w → FXA ds.reverse n w
  | [], _, h => h
  | d :: ds, w, h => by
    obtain ⟨a, b, c⟩ := h.un
    rw [List.reverse_cons]
    exact (b.rev.append (FXA.cons a (FXA.nil n))).mono (Nat.le_refl _) (by omega)
theorem slA_an {K : PySem.W.Frag} {H : Hp} {r : Addr} {xs ys : List V} {lo hi : Option Int} {Q : VK} (h : H r = some (.tup xs)) (e : cutV xs lo hi = ys) (k : ∀ p H', Same H H' → H' p = some (.tup ys) → Q (.ref p) H') : rSlA K (.ref r) lo hi H Q := by
  subst e
  refine ⟨r, xs, rfl, .inl (.inl h), fun hw => ?_, fun _ p np => k p _ (same_upd np) upd_same⟩
  have e : cutV xs lo hi = xs := by
    unfold cutV
    rw [hw.1, hw.2, List.drop_zero, Nat.sub_zero, List.take_length]
  exact k r H (Same.refl H) (by rw [e]; exact h)
theorem catA_an {K : PySem.W.Frag} {H : Hp} {r r' : Addr} {xs ys : List V} {Q : VK} (h : H r = some (.tup xs)) (h' : H r' = some (.tup ys)) (hn : xs.length + ys.length ≤ 200002) (k : ∀ p H', Same H H' → H' p = some (.tup (xs ++ ys)) → Q (.ref p) H') : rCatA K (.ref r) (.ref r') H Q := by
  refine ⟨r, r', xs, ys, rfl, rfl, .inl (.inl h), .inl (.inl h'), small2000 hn, fun e => ?_, fun _ e => ?_, fun _ _ p np => k p _ (same_upd np) upd_same⟩
  · subst e
    exact k r' H (Same.refl H) h'
  · subst e
    exact k r H (Same.refl H) (by rw [List.append_nil]; exact h)
/-- xs[:j] + (mid,) + xs[j + 1:] -/
theorem tup_mid {K : PySem.W.Frag} {ti ai : Nat} {σ : L2.St} {H : Hp} {wl cl ta : Addr} {xs : List V} {j : Nat} {teo : TE} {G : Hp → V → Prop} {Q : VK} (ht : σ[ti]? = some (some (.ref ta))) (ha : σ[ai]? = some (some (.int j))) (W : Well H wl cl) (hta : H ta = some (.tup xs)) (few : xs.length ≤ 100000)
    (mid : ∀ H' (Q' : VK), Same H H' → (∀ H'' v, Drawn wl cl H' H'' → G H'' v → Q' v H'') → teo σ H' Q')
    (q : ∀ H1 H' v p, Drawn wl cl H H1 → G H1 v → Same H1 H' → H' p = some (.tup (xs.take j ++ [v] ++ xs.drop (j + 1))) → Q (.ref p) H') :
    tOp (rCatA K) (tOp (rCatA K) (tSl (rSlA K) (tVar ti) tNoPart (tPart (tVar ai))) (tTup (tCons teo tNil))) (tSl (rSlA K) (tVar ti) (tPart (tOp (rI0 fun i j => .int (i + j)) (tVar ai) (tC (.int 1)))) tNoPart) σ H Q := by
  have ej : ((j : Nat) : Int) + 1 = ((j + 1 : Nat) : Int) := by omega
  refine ⟨.ref ta, ht, .int j, ha, j, rfl, slA_an hta (cutI_to xs j) fun p1 H1 s1 e1 => ?_⟩
  refine mid H1 _ s1 fun H2 v D2 g => ⟨(by show 1 ≤ sizeLine; decide), fun p2 np2 => ?_⟩
  have W1 := W.same s1
  have s3 := same_upd (o := .tup [v]) np2
  have e2 : upd H2 p2 (.tup [v]) p2 = some (.tup [v]) := upd_same
  generalize upd H2 p2 (.tup [v]) = H3 at s3 e2
  have e13 := s3 _ _ (D2.tups W1 _ _ e1)
  refine catA_an e13 e2 (by rw [List.length_take]; show _ + 1 ≤ 200002; omega) fun p4 H4 s4 e4 => ?_
  have hta4 := s4 _ _ (s3 _ _ (D2.tups W1 _ _ (s1 _ _ hta)))
  refine ⟨.ref ta, ht, .int j, ha, j, 1, rfl, rfl, (j : Int) + 1, rfl, ?_⟩
  rw [ej]
  dsimp only [tNoPart]
  refine slA_an hta4 (cutI_from xs (j + 1)) fun p5 H5 s5 e5 => ?_
  refine catA_an (s5 _ _ e4) e5 (by rw [List.length_append, List.length_take, List.length_drop]; show _ + 1 + _ ≤ 200002; omega) fun p6 H6 s6 e6 => ?_
  exact q H2 H6 v p6 (((Drawn.refl W).same s1).trans D2) g ((s3.trans s4).trans (s5.trans s6)) e6
/-- xs[:j] + xs[k:] -/
theorem tup_two {K : PySem.W.Frag} {ti : Nat} {t1 t2 : TO} {σ : L2.St} {H : Hp} {ta : Addr} {xs ys zs : List V} {l1 h1 l2 h2 : Option Int} {Q : VK} {u1 u2 : TO} (ht : σ[ti]? = some (some (.ref ta))) (hta : H ta = some (.tup xs)) (few : ys.length + zs.length ≤ 200002)
    (a1 : ∀ H' (R : Option Int → Hp → Prop), R l1 H' → t1 σ H' R) (b1 : ∀ H' (R : Option Int → Hp → Prop), R h1 H' → u1 σ H' R) (a2 : ∀ H' (R : Option Int → Hp → Prop), R l2 H' → t2 σ H' R) (b2 : ∀ H' (R : Option Int → Hp → Prop), R h2 H' → u2 σ H' R)
    (c1 : cutV xs l1 h1 = ys) (c2 : cutV xs l2 h2 = zs) (q : ∀ H' p, Same H H' → H' p = some (.tup (ys ++ zs)) → Q (.ref p) H') :
    tOp (rCatA K) (tSl (rSlA K) (tVar ti) t1 u1) (tSl (rSlA K) (tVar ti) t2 u2) σ H Q := by
  refine ⟨.ref ta, ht, a1 _ _ (b1 _ _ (slA_an hta c1 fun p1 H1 s1 e1 => ?_))⟩
  refine ⟨.ref ta, ht, a2 _ _ (b2 _ _ (slA_an (s1 _ _ hta) c2 fun p2 H2 s2 e2 => ?_))⟩
  exact catA_an (s2 _ _ e1) e2 few fun p3 H3 s3 e3 => q H3 p3 ((s1.trans s2).trans s3) e3
set_option maxHeartbeats 16000000 in
theorem ok_btuA {f : Addr} {fd : FuncData} {k : Nat} (F : Fun K "_law_bent_tuple" "_law_bent_tuple" sBtu f fd) (T : TxtBtu P w K mg base) : FnOk P w K mg base CX0 (k + 2) f fd ["well", "things", "odd"] spBtuA := by
  refine F.ok scBtu (fun vs H Q E h => ?_) (fun cdv A outer s H vs Q E hr h => ?_)
  · obtain ⟨Av, wl, cl, ta, vo, l, do_, n, wd, wo, rfl, _⟩ := h
    rfl
  · obtain ⟨Av, wl, cl, ta, vo, l, do_, n, wd, wo, rfl, hW, hav, aw, ac, at_, ao, l1, l9, fl, fo, q⟩ := h
    refine ⟨_, (pss_cons (ps_set (i := 3) scBtu.nd rfl (Or.inl rfl) (pe_cal T.c__law_draw (hr.mono (by omega)) (by rfl) (pa_cons (pv 0) (pa_cons pe_int pa_nil))))
  (pss_cons (ps_set (i := 4) scBtu.nd rfl (Or.inl rfl) (pe_cal T.c__law_draw (hr.mono (by omega)) (by rfl) (pa_cons (pv 0) (pa_cons (pe_callB call_len_seq (by rfl) T.m_len (by decide +kernel) (pa_cons (pv 1) pa_nil)) pa_nil))))
  (pss_cons (ps_if (pt_cmpR op_lt (pv 3) pe_int (nomark _))
  (pss_one (ps_ret (pe_op op_catA (pe_op op_catA (pe_slice sl_tupA (pv 1) po_none (po_some (pv 4))) (pe_tup (pa_cons (pv 2) pa_nil))) (pe_slice sl_tupA (pv 1) (po_some (pe_op op_add (pv 4) pe_int)) po_none)))) pss_nil)
  (pss_cons (ps_if (pt_cmpR op_eq (pv 3) pe_int (nomark _))
  (pss_one (ps_ret (pe_op op_catA (pe_slice sl_tupA (pv 1) po_none (po_some (pv 4))) (pe_slice sl_tupA (pv 1) (po_some (pe_op op_add (pv 4) pe_int)) po_none)))) pss_nil)
  (pss_cons (ps_if (pt_cmpR op_eq (pv 3) pe_int (nomark _))
  (pss_one (ps_ret (pe_op op_catA (pe_slice sl_tupA (pv 1) po_none (po_some (pe_op op_add (pv 4) pe_int))) (pe_slice sl_tupA (pv 1) (po_some (pv 4)) po_none)))) pss_nil)
  (pss_cons (ps_if (pt_cmpR op_eq (pv 3) pe_int (nomark _))
  (pss_one (ps_ret (pe_revT (pv 1)))) pss_nil)
  (pss_cons (ps_if (pt_cmpR op_eq (pv 3) pe_int (nomark _))
  (pss_one (ps_ret (pe_op op_catA (pe_slice sl_tupA (pv 1) (po_some (pv 4)) po_none) (pe_slice sl_tupA (pv 1) po_none (po_some (pv 4)))))) pss_nil)
  (pss_cons (ps_if (pt_cmpR op_eq (pv 3) pe_int (nomark _))
  (pss_one (ps_ret (pe_callTy call_list_of (by rfl) T.m_list (by decide +kernel) (pa_cons (pv 1) pa_nil)))) pss_nil)
  (pss_one (ps_ret (pe_op op_catA (pv 1) (pe_tup (pa_cons (pv 2) pa_nil))))))))))))), ?_⟩
    cases at_ with
    | dct l => cases l
    | @tup _ xs _ hta al =>
    have xl := al.len
    refine ⟨.ref wl, rfl, wl, cl, 9, rfl, hW, by decide, by decide, fun H1 way D1 w0 w1 => ?_⟩
    have hta1 := D1.tups hW _ _ hta
    refine ⟨.ref wl, rfl, .ref ta, rfl, ta, xs, rfl, .inr (.inl (.inl hta1)), wl, cl, _, rfl, D1.2, by omega, log_small (by omega) (by omega), fun H2 at2 D2 a0 a1 => ?_⟩
    have D := D1.trans D2
    have hta2 := D2.tups D1.2 _ _ hta1
    have al2 := al.up (D.noTb hW aw ac)
    have ao2 := ao.up (D.noTb hW aw ac)
    obtain ⟨j, rfl⟩ : ∃ j : Nat, at2 = j := ⟨at2.toNat, by omega⟩
    have jl : j < xs.length := by omega
    have ej : ((j : Nat) : Int) + 1 = ((j + 1 : Nat) : Int) := by omega
    have fin : ∀ H' p ys ds, Same H2 H' → H' p = some (.tup ys) → AnAll Av H2 ys ds → FXA ds n (2 * wd + wo + 1) → Q (.ref p) H' := fun H' p ys ds s e a f => q _ _ _ (D.same s) (.tup e (a.up (NoTb.same s))) (FX.tuple f)
    have np : ∀ (σ : L2.St) H' (R : Option Int → Hp → Prop), R none H' → tNoPart σ H' R := fun _ _ _ r => r
    have pj : ∀ (σ : L2.St), σ[4]? = some (some (.int j)) → ∀ H' (R : Option Int → Hp → Prop), R (some (j : Int)) H' → tPart (tVar 4) σ H' R := fun _ e _ _ r => ⟨.int j, e, j, rfl, r⟩
    have pj1 : ∀ (σ : L2.St), σ[4]? = some (some (.int j)) → ∀ H' (R : Option Int → Hp → Prop), R (some ((j + 1 : Nat) : Int)) H' → tPart (tOp (rI0 fun i j => .int (i + j)) (tVar 4) (tC (.int 1))) σ H' R := fun _ e _ _ r => ⟨.int j, e, j, 1, rfl, rfl, (j : Int) + 1, rfl, by rw [ej]; exact r⟩
    have fw : FXA l n wd := fl
    refine ⟨.int way, rfl, way, 3, rfl, rfl, _, rfl, ite2 (fun e => ?_) (fun e => ?_)⟩
    · refine retZ (tup_mid (ti := 1) (ai := 4) (G := fun H' v => An Av H' v do_) rfl rfl D.2 hta2 (by omega) (fun H' Q' s k => ⟨vo, rfl, k H' vo (Drawn.refl (D.2.same s)) (ao2.up (NoTb.same s))⟩) fun H3 H4 v p D3 g s e4 => ?_)
      have D4 := (D.trans D3).same s
      have al4 := al.up (D4.noTb hW aw ac)
      exact q _ _ _ D4 (.tup e4 (((al4.take j).append (.cons (g.up (NoTb.same s)) .nil)).append (al4.drop (j + 1)))) ((FX.tuple (((fw.take j).append (FXA.cons fo (FXA.nil n))).append (fw.drop (j + 1)))).mono (Nat.le_refl _) (by omega))
    refine ⟨.int way, rfl, rfl, _, rfl, ite2 (fun e => ?_) (fun e => ?_)⟩
    · refine retZ (tup_two (ti := 1) rfl hta2 (by rw [List.length_take, List.length_drop]; omega) (np _) (pj _ rfl) (pj1 _ rfl) (np _) (cutI_to xs j) (cutI_from xs (j + 1)) fun H' p s e => ?_)
      exact fin H' p _ _ s e ((al2.take j).append (al2.drop (j + 1))) (((fw.take j).append (fw.drop (j + 1))).mono (Nat.le_refl _) (by omega))
    refine ⟨.int way, rfl, rfl, _, rfl, ite2 (fun e => ?_) (fun e => ?_)⟩
    · refine retZ (tup_two (ti := 1) rfl hta2 (by rw [List.length_take, List.length_drop]; omega) (np _) (pj1 _ rfl) (pj _ rfl) (np _) (cutI_to xs (j + 1)) (cutI_from xs j) fun H' p s e => ?_)
      exact fin H' p _ _ s e ((al2.take (j + 1)).append (al2.drop j)) (((fw.take (j + 1)).append (fw.drop j)).mono (Nat.le_refl _) (by omega))
    refine ⟨.int way, rfl, rfl, _, rfl, ite2 (fun e => ?_) (fun e => ?_)⟩
    · exact ⟨.ref ta, rfl, ta, xs, rfl, .inl (.inl hta2), fun p np' => fin _ p _ _ (same_upd np') upd_same al2.rev (fw.rev.mono (Nat.le_refl _) (by omega))⟩
    refine ⟨.int way, rfl, rfl, _, rfl, ite2 (fun e => ?_) (fun e => ?_)⟩
    · refine retZ (tup_two (ti := 1) rfl hta2 (by rw [List.length_take, List.length_drop]; omega) (pj _ rfl) (np _) (np _) (pj _ rfl) (cutI_from xs j) (cutI_to xs j) fun H' p s e => ?_)
      exact fin H' p _ _ s e ((al2.drop j).append (al2.take j)) (((fw.drop j).append (fw.take j)).mono (Nat.le_refl _) (by omega))
    refine ⟨.int way, rfl, rfl, _, rfl, ite2 (fun e => ?_) (fun e => ?_)⟩
    · exact ⟨.ref ta, rfl, ta, xs, rfl, .inr (.inl (.inl hta2)), fun b nb => q _ _ (.list l) (D.same (same_upd nb)) (.lst upd_same (fun z => hav b z (D.free hW nb)) (al2.up (NoTb.same (same_upd nb)))) ((FX.list fw).mono (Nat.le_refl _) (by omega))⟩
    refine ⟨.ref ta, rfl, vo, rfl, (by show 1 ≤ sizeLine; decide), fun p np' => ?_⟩
    have s1 := same_upd (o := .tup [vo]) np'
    refine catA_an (s1 _ _ hta2) upd_same (by show _ + 1 ≤ 200002; omega) fun p2 H3 s2 e2 => ?_
    exact fin H3 p2 _ _ (s1.trans s2) e2 (al2.append (.cons ao2 .nil)) ((fw.append (FXA.cons fo (FXA.nil n))).mono (Nat.le_refl _) (by omega))
end
end Rd

set_option Elab.async false
set_option linter.all false
set_option maxRecDepth 100000
set_option maxHeartbeats 4000000
namespace Rd
open PySem PySem.Spec PyProof.Rows L2 Dt TL
abbrev sBwi : Stmt := topS 28
abbrev nBwi : List Str := ["well", "wish", "many", "hues", "way", "places", "rows", "at", "row", "odd", "some", "size", "place"]
theorem scBwi : FnScope nBwi ["well", "wish", "many", "hues"] (defScope sBwi) := ⟨rfl, rfl, rfl, by decide +kernel, rfl, by decide +kernel, by decide +kernel⟩
theorem rep1 {α : Type} (x : α) : ∀ n : Nat, (List.replicate n [x]).flatten = List.replicate n x
  | 0 => rfl
  | n + 1 => by rw [List.replicate_succ, List.flatten_cons, rep1 x n]; rfl
theorem FXA.len {n : Nat} : ∀ {ds : List PyData} {w : Nat}, FXA ds n w → ds.length ≤ w
  | [], _, _ => Nat.zero_le _
  | d :: ds, w, h => by
    obtain ⟨a, b, c⟩ := h.un
    have := b.len
    rw [List.length_cons]
    omega
/-- what looks like a wish -/
structure WshS (d : PyData) (lp lr : List PyData) : Prop where
  e : d = .tuple [.tuple lp, .tuple lr]
  p1 : 1 ≤ lp.length
  r1 : 1 ≤ lr.length
  row : ∀ x ∈ lr, ∃ r, x = .tuple r ∧ 1 ≤ r.length
def spBwA : Sp := fun vs H Q _ => ∃ (Av : Addr → Prop) (wl cl : Addr) (v : V) (d : PyData) (lp lr : List PyData) (w : Nat) (many hues : Int), vs = [.ref wl, v, .int many, .int hues] ∧ Wat Av wl cl H ∧ An Av H v d ∧ WshS d lp lr ∧ FX d 7 w ∧ w ≤ 30000 ∧ 1 ≤ many ∧ many ≤ 6 ∧ 2 ≤ hues ∧ hues ≤ 4 ∧
  ∀ H' v' d', Drawn wl cl H H' → An Av H' v' d' → FX d' 7 (4 * w + 300) → Q v' H'
structure TxtBwi (P : Program) (w : World) (K : PySem.W.Frag) (mg : Str → Option Value) (base : Heap) : Prop where
  m_len : mg "len" = none
  m_list : mg "list" = none
  m_tuple : mg "tuple" = none
  m_range : mg "range" = none
  m_min : mg "min" = none
  c__law_draw : Cal P w K mg base 1 "_law_draw" ["well", "many"] spDraw
  c__law_odd : Cal P w K mg base 2 "_law_odd" ["well", "high"] spOdA
  c__law_bent_tuple : Cal P w K mg base 2 "_law_bent_tuple" ["well", "things", "odd"] spBtuA
section
variable {Av : Addr → Prop} {wl cl : Addr} {σ : L2.St} {H0 : Hp}
/-- [..][_law_draw(well, m)] -/
theorem tep_pick {K : PySem.W.Frag} {te : TE} {P : PyData → Prop} {n : Nat} {m : Int} (W : Wat Av wl cl H0) (hw : σ[0]? = some (some (.ref wl))) (a : TEp Av wl cl te σ H0 (IsL n P)) (em : (n : Int) = m) (m1 : 1 ≤ m) (m2 : m ≤ 1000) : TEp Av wl cl (tOp (rIxL K) te (tCall spDraw [] E0 (tCons (tVar 0) (tCons (tC (.int m)) tNil)))) σ H0 P := fun H Q D q => by
  refine a H _ D fun H1 v d D1 an p => ?_
  have W1 := W.dr (D.trans D1)
  refine ⟨.ref wl, hw, wl, cl, m, rfl, W1.w, m1, log_small (by omega) (by omega), fun H2 i D2 d0 d1 => ?_⟩
  obtain ⟨ds, rfl, dl, dp⟩ := p
  cases an with
  | dct l => cases l
  | @lst b xs _ hb nb al =>
    have lx := al.len
    obtain ⟨x, ex⟩ : ∃ x, xs[i.toNat]? = some x := ⟨_, List.getElem?_eq_getElem (by omega)⟩
    obtain ⟨y, ey, ay⟩ := al.get ex
    have e9 : ((i.toNat : Nat) : Int) = i := by omega
    have hat : atI xs i = some x := by rw [← e9]; exact atI_nat ex
    exact ⟨b, xs, i, x, rfl, rfl, .inl (.inl (D2.lst (W1.ne nb) hb)), hat, q _ _ _ (D1.trans D2) (ay.up (W1.noTb D2)) (dp _ (List.mem_of_getElem? ey))⟩
theorem tep_odd {te : TE} {high : Int} (W : Wat Av wl cl H0) (hw : σ[0]? = some (some (.ref wl))) (ht : ∀ H (Q : VK), Q (.int high) H → te σ H Q) (h0 : 0 ≤ high) (h1 : high ≤ 20) : TEp Av wl cl (tCall spOdA [] E0 (tCons (tVar 0) (tCons te tNil))) σ H0 (fun d => FX d 4 8) := fun H Q D q =>
  ⟨.ref wl, hw, ht _ _ ⟨Av, wl, cl, high, rfl, D.2, h0, h1, (W.dr D).av, W.aw, W.ac, fun H' v d D' an o => q H' v d D' an o.fx⟩⟩
theorem tep_btu {te teo : TE} {ta : Addr} {l : List PyData} {n wd wo : Nat} (W : Wat Av wl cl H0) (hw : σ[0]? = some (some (.ref wl))) (ht : ∀ H (Q : VK), Drawn wl cl H0 H → Q (.ref ta) H → te σ H Q) (a : An Av H0 (.ref ta) (.tuple l)) (l1 : 1 ≤ l.length) (l9 : l.length ≤ 90000) (fl : FXA l n wd) (o : TEp Av wl cl teo σ H0 (fun d => FX d n wo)) :
    TEp Av wl cl (tCall spBtuA [] E0 (tCons (tVar 0) (tCons te (tCons teo tNil)))) σ H0 (fun d => FX d (n + 1) (2 * wd + wo + 1)) := fun H Q D q =>
  ⟨.ref wl, hw, ht _ _ D (o _ _ D fun H1 v d D1 an f => ⟨Av, wl, cl, ta, v, l, d, n, wd, wo, rfl, D1.2, (W.dr (D.trans D1)).av, W.aw, W.ac, a.up (W.noTb (D.trans D1)), an, l1, l9, fl, f, fun H' v' d' D' an' f' => q H' v' d' (D1.trans D') an' f'⟩)⟩
/-- the list's thing at a place -/
theorem tep_at {K : PySem.W.Frag} {te ti : TE} {n : Nat} {i : Int} {P : PyData → Prop} (W : Wat Av wl cl H0) (a : TEp Av wl cl te σ H0 (IsL n P)) (ht : ∀ H (Q : VK), Q (.int i) H → ti σ H Q) (i0 : 0 ≤ i) (i1 : i < n) : TEp Av wl cl (tOp (rIxL K) te ti) σ H0 P := fun H Q D q => by
  refine a H _ D fun H1 v d D1 an p => ht _ _ ?_
  obtain ⟨ds, rfl, dl, dp⟩ := p
  cases an with
  | dct l => cases l
  | @lst b xs _ hb nb al =>
    have lx := al.len
    obtain ⟨x, ex⟩ : ∃ x, xs[i.toNat]? = some x := ⟨_, List.getElem?_eq_getElem (by omega)⟩
    obtain ⟨y, ey, ay⟩ := al.get ex
    have e9 : ((i.toNat : Nat) : Int) = i := by omega
    have hat : atI xs i = some x := by rw [← e9]; exact atI_nat ex
    exact ⟨b, xs, i, x, rfl, rfl, .inl (.inl hb), hat, q _ _ _ D1 ay (dp _ (List.mem_of_getElem? ey))⟩
theorem FX.two {a b : PyData} {n u v w : Nat} (ha : FX a n u) (hb : FX b n v) (h : u + v + 2 ≤ w) : FX (.tuple [a, b]) (n + 1) w := (FX.tuple (FXA.cons ha (FXA.cons hb (FXA.nil n)))).mono (Nat.le_refl _) (by omega)
theorem FX.twoL {a b : PyData} {n u v w : Nat} (ha : FX a n u) (hb : FX b n v) (h : u + v + 2 ≤ w) : FX (.list [a, b]) (n + 1) w := (FX.list (FXA.cons ha (FXA.cons hb (FXA.nil n)))).mono (Nat.le_refl _) (by omega)
/-- a tuple display of two -/
theorem tep_two {ta tb : TE} {P1 P2 P : PyData → Prop} (W : Wat Av wl cl H0) (a : TEp Av wl cl ta σ H0 P1) (b : TEp Av wl cl tb σ H0 P2) (f : ∀ x y, P1 x → P2 y → P (.tuple [x, y])) : TEp Av wl cl (tTup (tCons ta (tCons tb tNil))) σ H0 P := fun H Q D q =>
  a _ _ D fun H1 v1 d1 D1 an1 p1 => b _ _ (D.trans D1) fun H2 v2 d2 D2 an2 p2 => ⟨(by show 2 ≤ sizeLine; decide), fun p np => q _ _ (.tuple [d1, d2]) ((D1.trans D2).same (same_upd np)) (.tup upd_same (.cons ((an1.up ((W.dr (D.trans D1)).noTb D2)).up (NoTb.same (same_upd np))) (.cons (an2.up (NoTb.same (same_upd np))) .nil))) (f _ _ p1 p2)⟩
theorem tep_three {ta tb tc : TE} {P1 P2 P3 P : PyData → Prop} (W : Wat Av wl cl H0) (a : TEp Av wl cl ta σ H0 P1) (b : TEp Av wl cl tb σ H0 P2) (c : TEp Av wl cl tc σ H0 P3) (f : ∀ x y z, P1 x → P2 y → P3 z → P (.tuple [x, y, z])) : TEp Av wl cl (tTup (tCons ta (tCons tb (tCons tc tNil)))) σ H0 P := fun H Q D q =>
  a _ _ D fun H1 v1 d1 D1 an1 p1 => b _ _ (D.trans D1) fun H2 v2 d2 D2 an2 p2 => c _ _ ((D.trans D1).trans D2) fun H3 v3 d3 D3 an3 p3 => by
    have W1 := W.dr (D.trans D1)
    have W2 := W1.dr D2
    exact ⟨(by show 3 ≤ sizeLine; decide), fun p np => q _ _ (.tuple [d1, d2, d3]) (((D1.trans D2).trans D3).same (same_upd np)) (.tup upd_same (.cons ((an1.up (W1.noTb (D2.trans D3))).up (NoTb.same (same_upd np))) (.cons ((an2.up (W2.noTb D3)).up (NoTb.same (same_upd np))) (.cons (an3.up (NoTb.same (same_upd np))) .nil)))) (f _ _ _ p1 p2 p3)⟩
theorem tep_one {ta : TE} {P1 P : PyData → Prop} (a : TEp Av wl cl ta σ H0 P1) (f : ∀ x, P1 x → P (.tuple [x])) : TEp Av wl cl (tTup (tCons ta tNil)) σ H0 P := fun H Q D q =>
  a _ _ D fun H1 v1 d1 D1 an1 p1 => ⟨(by show 1 ≤ sizeLine; decide), fun p np => q _ _ (.tuple [d1]) (D1.same (same_upd np)) (.tup upd_same (.cons (an1.up (NoTb.same (same_upd np))) .nil)) (f _ p1)⟩
end
section
variable {P : Program} {w : World} {K : PySem.W.Frag} {mg : Str → Option Value} {base : Heap}
set_option maxHeartbeats 16000000 in
theorem ok_bwA {f : Addr} {fd : FuncData} {k : Nat} (F : Fun K "_law_bent_wish" "_law_bent_wish" sBwi f fd) (T : TxtBwi P w K mg base) : FnOk P w K mg base CX0 (k + 3) f fd ["well", "wish", "many", "hues"] spBwA := by
  refine F.ok scBwi (fun vs H Q E h => ?_) (fun cdv A outer s H vs Q E hr h => ?_)
  · obtain ⟨Av, wl, cl, v, d, lp, lr, w, many, hues, rfl, _⟩ := h
    rfl
  · obtain ⟨Av, wl, cl, v, d, lp, lr, w, many, hues, rfl, W, an, ⟨rfl, p1, r1, row⟩, fx, w9, m1, m6, h2, h4, q⟩ := h
    refine ⟨_, (pss_cons (ps_set (i := 4) scBwi.nd rfl (Or.inl rfl) (pe_cal T.c__law_draw (hr.mono (by omega)) (by rfl) (pa_cons (pv 0) (pa_cons pe_int pa_nil))))
  (pss_cons (ps_asg (pv 1) (pg_tup rfl (pgs_cons (pg_name (i := 5) scBwi.nd rfl (Or.inl rfl)) (pgs_cons (pg_name (i := 6) scBwi.nd rfl (Or.inl rfl)) pgs_nil))))
  (pss_cons (ps_if (pt_cmpR op_lt (pv 4) pe_int (nomark _))
  (pss_one (ps_ret (pe_tup (pa_cons (pe_cal T.c__law_bent_tuple (hr.mono (by omega)) (by rfl) (pa_cons (pv 0) (pa_cons (pv 5) (pa_cons (pe_cal T.c__law_odd (hr.mono (by omega)) (by rfl) (pa_cons (pv 0) (pa_cons (pe_op op_sub (pv 2) pe_int) pa_nil))) pa_nil)))) (pa_cons (pv 6) pa_nil))))) pss_nil)
  (pss_cons (ps_if (pt_cmpR op_lt (pv 4) pe_int (nomark _))
  (pss_cons (ps_set (i := 7) scBwi.nd rfl (Or.inl rfl) (pe_cal T.c__law_draw (hr.mono (by omega)) (by rfl) (pa_cons (pv 0) (pa_cons (pe_callB call_len_seq (by rfl) T.m_len (by decide +kernel) (pa_cons (pv 6) pa_nil)) pa_nil))))
  (pss_cons (ps_set (i := 8) scBwi.nd rfl (Or.inl rfl) (pe_cal T.c__law_bent_tuple (hr.mono (by omega)) (by rfl) (pa_cons (pv 0) (pa_cons (pe_ix ix_tup (pv 6) (pv 7) (fun _ _ => rfl)) (pa_cons (pe_cal T.c__law_odd (hr.mono (by omega)) (by rfl) (pa_cons (pv 0) (pa_cons (pe_op op_sub (pv 3) pe_int) pa_nil))) pa_nil)))))
  (pss_one (ps_ret (pe_tup (pa_cons (pv 5) (pa_cons (pe_op op_catA (pe_op op_catA (pe_slice sl_tupA (pv 6) po_none (po_some (pv 7))) (pe_tup (pa_cons (pv 8) pa_nil))) (pe_slice sl_tupA (pv 6) (po_some (pe_op op_add (pv 7) pe_int)) po_none)) pa_nil))))))) pss_nil)
  (pss_cons (ps_if (pt_cmpR op_lt (pv 4) pe_int (nomark _))
  (pss_cons (ps_set (i := 9) scBwi.nd rfl (Or.inl rfl) (pe_callTy call_tuple_of (by rfl) T.m_tuple (by decide +kernel) (pa_cons (pe_lc (te := tCall spDraw [] E0 (tCons (tVar 0) (tCons (tVar 3) tNil))) (own := [("place", 12)]) rfl scBwi.nd  (pi_tup (pv 5)) (blkOk_by (own := [("place", 12)]) (N := nBwi) (sc := defScope sBwi) (by decide +kernel))
   (fun _ _ _ _ _ => (pg_name (i := 12) scBwi.nd rfl (Or.inl rfl))) (fun _ _ _ _ _ => pts_nil) (fun _ _ _ _ _ => (pe_cal T.c__law_draw (hr.mono (by omega)) (by rfl) (pa_cons (pv 0) (pa_cons (pv 3) pa_nil))))) pa_nil)))
  (pss_one (ps_ret (pe_tup (pa_cons (pv 5) (pa_cons (pe_cal T.c__law_bent_tuple (hr.mono (by omega)) (by rfl) (pa_cons (pv 0) (pa_cons (pv 6) (pa_cons (pe_ix ix_list (pe_lst (pa_cons (pv 9) (pa_cons (pe_cal T.c__law_odd (hr.mono (by omega)) (by rfl) (pa_cons (pv 0) (pa_cons (pv 3) pa_nil))) pa_nil))) (pe_op op_sub (pv 4) pe_int) (fun _ _ => rfl)) pa_nil)))) pa_nil)))))) pss_nil)
  (pss_cons (ps_if (pt_cmpR op_eq (pv 4) pe_int (nomark _))
  (pss_cons (ps_set (i := 9) scBwi.nd rfl (Or.inl rfl) (pe_ix ix_list (pe_lst (pa_cons pe_non (pa_cons pe_int (pa_cons pe_str (pa_cons pe_str (pa_cons pe_dnewK (pa_cons (pe_lst pa_nil) (pa_cons pe_bl (pa_cons (pe_disp (pps_cons pe_int pe_int pps_nil) (by rfl) (by rfl) (fun z => by cases z) (by decide)) (pa_cons (pe_tup pa_nil) (pa_cons pe_str (pa_cons (pe_op op_powW pe_int pe_int) (pa_cons (pe_tup (pa_cons (pe_tup pa_nil) pa_nil)) pa_nil))))))))))))) (pe_cal T.c__law_draw (hr.mono (by omega)) (by rfl) (pa_cons (pv 0) (pa_cons pe_int pa_nil))) (fun _ _ => rfl)))
  (pss_cons (ps_set (i := 10) scBwi.nd rfl (Or.inl rfl) (pe_lst (pa_cons (pe_tup (pa_cons (pv 5) (pa_cons (pv 6) (pa_cons (pv 9) pa_nil)))) (pa_cons (pe_tup (pa_cons (pv 5) pa_nil)) (pa_cons (pe_lst (pa_cons (pv 5) (pa_cons (pv 6) pa_nil))) (pa_cons (pe_tup (pa_cons (pv 6) (pa_cons (pv 5) pa_nil))) (pa_cons (pv 9) (pa_cons (pe_tup (pa_cons (pv 9) (pa_cons (pv 6) pa_nil))) (pa_cons (pe_tup (pa_cons (pv 5) (pa_cons (pv 9) pa_nil))) pa_nil)))))))))
  (pss_one (ps_ret (pe_ix ix_list (pe_op op_cat (pv 10) (pe_lst (pa_cons (pe_tup (pa_cons (pv 9) (pa_cons (pv 6) pa_nil))) (pa_cons (pe_tup (pa_cons (pv 5) (pa_cons (pv 9) pa_nil))) (pa_cons (pe_tup (pa_cons (pe_callTy call_list_of (by rfl) T.m_list (by decide +kernel) (pa_cons (pv 5) pa_nil)) (pa_cons (pv 6) pa_nil))) (pa_cons (pe_tup (pa_cons (pv 5) (pa_cons (pe_callTy call_list_of (by rfl) T.m_list (by decide +kernel) (pa_cons (pv 6) pa_nil)) pa_nil))) pa_nil)))))) (pe_cal T.c__law_draw (hr.mono (by omega)) (by rfl) (pa_cons (pv 0) (pa_cons pe_int pa_nil))) (fun _ _ => rfl)))))) pss_nil)
  (pss_cons (ps_set (i := 11) scBwi.nd rfl (Or.inl rfl) (pe_callB (call_min2 rfl) (by rfl) T.m_min (by decide +kernel) (pa_cons pe_int (pa_cons (pv 2) pa_nil))))
  (pss_one (ps_ret (pe_tup (pa_cons (pe_tupRg rfl (by rfl) T.m_tuple (prg_1 (by rfl) T.m_range (pv 11))) (pa_cons (pe_tup (pa_cons (pe_op op_repU (pe_tup (pa_cons pe_int pa_nil)) (pv 11)) pa_nil)) pa_nil)))))))))))), ?_⟩
    have f0 := FX.tuple1 fx
    obtain ⟨fp, f1, b1⟩ := f0.un
    obtain ⟨fr, _, b2⟩ := f1.un
    generalize ewp : PyData.bulk (.tuple lp) = wp at fp b1
    generalize ewr : PyData.bulk (.tuple lr) = wr at fr b2
    have b3 : wp + wr + 2 ≤ w := by omega
    have flp : FXA lp 5 wp := FX.tuple1 fp
    have flr : FXA lr 5 wr := FX.tuple1 fr
    have lpl := flp.len
    have lrl := flr.len
    cases an with
    | dct l => cases l
    | @tup wa xs _ hwa al =>
    cases al with
    | cons ap al =>
    cases al with
    | cons ar al =>
    cases al
    cases ap with
    | dct l => cases l
    | @tup pa ps _ hpa alp =>
    cases ar with
    | dct l => cases l
    | @tup ra rs _ hra alr =>
    have anp : An Av H (.ref pa) (.tuple lp) := .tup hpa alp
    have anr : An Av H (.ref ra) (.tuple lr) := .tup hra alr
    have fin : ∀ H1, Drawn wl cl H H1 → ∀ H' v d, Drawn wl cl H1 H' → An Av H' v d → FX d 7 (4 * w + 300) → Q v H' := fun H1 D1 H' v d D a b => q H' v d (D1.trans D) a b
    refine ⟨.ref wl, rfl, wl, cl, 8, rfl, W.w, by decide, by decide, fun H1 way D1 w0 w1 => ?_⟩
    refine ⟨.ref wa, rfl, wa, _, rfl, .inl (.inl (D1.tups W.w _ _ hwa)), rfl, .ref pa, [.ref ra], rfl, .ref ra, [], rfl, rfl, ?_⟩
    have W1 := W.dr D1
    have anp1 := anp.up (W.noTb D1)
    have anr1 := anr.up (W.noTb D1)
    have hpa1 := D1.tups W.w _ _ hpa
    have hra1 := D1.tups W.w _ _ hra
    have pl := alp.len
    have rl := alr.len
    clear hwa
    refine ⟨.int way, rfl, way, 2, rfl, rfl, _, rfl, ite2 (fun e => ?_) (fun e => ?_)⟩
    · refine retZ (TEp.run (P := fun d => FX d 7 (4 * w + 300)) (tep_two W1 (tep_btu (n := 5) (wd := wp) (wo := 8) W1 rfl (fun H Q D q => ⟨.ref pa, rfl, q⟩) anp1 p1 (by omega) flp ((tep_odd (high := many - 1) W1 rfl (fun H Q q => ⟨.int many, rfl, many, 1, rfl, rfl, q⟩) (by omega) (by omega)).mono fun d f => f.mono (by decide) (Nat.le_refl _))) (tep_var W1 rfl anr1 (p := (⟨rfl, fr⟩ : PyData.tuple lr = .tuple lr ∧ FX (.tuple lr) 6 wr)) (P := fun d => d = .tuple lr ∧ FX d 6 wr)) (fun x y hx hy => FX.two hx hy.2 (by omega))) W1.w (fin _ D1))
    refine ⟨.int way, rfl, way, 4, rfl, rfl, _, rfl, ite2 (fun e => ?_) (fun e => ?_)⟩
    · -- a row
      refine ⟨.ref wl, rfl, .ref ra, rfl, ra, rs, rfl, .inr (.inl (.inl hra1)), wl, cl, _, rfl, W1.w, by omega, log_small (by omega) (by omega), fun H2 at2 D2 a0 a1 => ?_⟩
      obtain ⟨j, rfl⟩ : ∃ j : Nat, at2 = j := ⟨at2.toNat, by omega⟩
      have jl : j < rs.length := by omega
      have D12 := D1.trans D2
      have W2 := W.dr D12
      obtain ⟨x, ex, ax⟩ := (alr.up (W.noTb D12)).get (List.getElem?_eq_getElem jl)
      obtain ⟨r, rfl, rr1⟩ := row x (List.mem_of_getElem? ex)
      have fx1 : FX (.tuple r) 5 wr := flr.get ex
      have flx : FXA r 4 wr := FX.tuple1 fx1
      have frl := flx.len
      have hra2 := D2.tups W1.w _ _ hra1
      generalize ers : rs[j] = vr at ax
      obtain ⟨xa, rfl⟩ : ∃ xa, vr = .ref xa := by
        cases ax with
        | tup => exact ⟨_, rfl⟩
        | dct => exact ⟨_, rfl⟩
      have tix : ∀ H' (Q' : VK), Drawn wl cl H2 H' → Q' (.ref xa) H' → tOp (rIxT K) (tVar 6) (tVar 7) [some (.ref wl), some (.ref wa), some (.int many), some (.int hues), some (.int way), some (.ref pa), some (.ref ra), some (.int (j : Int)), none, none, none, none, none] H' Q' := fun H' Q' D' q' => ⟨.ref ra, rfl, .int (j : Int), rfl, ra, rs, j, .ref xa, rfl, rfl, .inl (.inl (D'.tups W2.w _ _ hra2)), atI_nat (by rw [List.getElem?_eq_getElem jl, ers]), q'⟩
      refine TEp.run (tep_btu (n := 4) (wd := wr) (wo := 8) W2 rfl tix ax rr1 (by omega) flx (tep_odd (high := hues - 1) W2 rfl (fun H Q q => ⟨.int hues, rfl, hues, 1, rfl, rfl, q⟩) (by omega) (by omega))) W2.w fun H3 v3 d3 D3 an3 f3 => ?_
      have W3 := W2.dr D3
      have D13 := D12.trans D3
      have alr3 := alr.up (W.noTb D13)
      refine ⟨.ref pa, rfl, ?_⟩
      refine tup_mid (ti := 6) (ai := 7) (G := fun H' v => v = v3) rfl rfl W3.w (D3.tups W2.w _ _ hra2) (by omega) (fun H' Q' s k => ⟨v3, rfl, k H' v3 (Drawn.refl (W3.w.same s)) rfl⟩) fun H4 H5 v4 p D4 g s e5 => ?_
      subst g
      have D15 := (D13.trans D4).same s
      have D35 := D4.same s
      refine ⟨(by show 2 ≤ sizeLine; decide), fun p2 np2 => ?_⟩
      have s6 := same_upd (o := .tup [.ref pa, .ref p]) np2
      have D6 := D35.same s6
      have al5 := ((alr3.take j).append (.cons an3 .nil)).append (alr3.drop (j + 1))
      refine fin _ D13 _ _ (.tuple [.tuple lp, .tuple (lr.take j ++ [d3] ++ lr.drop (j + 1))]) D6 (.tup upd_same (.cons (anp.up (W.noTb (D15.same s6))) (.cons (.tup (s6 _ _ e5) (al5.up (W3.noTb D6))) .nil))) ?_
      exact FX.two fp (FX.tuple (((flr.take j).append (FXA.cons (f3.mono (by decide) (Nat.le_refl _)) (FXA.nil 5))).append (flr.drop (j + 1)))) (by omega)
    refine ⟨.int way, rfl, way, 6, rfl, rfl, _, rfl, ite2 (fun e6 => ?_) (fun e6 => ?_)⟩
    · -- rows
      have e : ¬ way < 4 := by simpa using e
      have e6 : way < 6 := by simpa using e6
      refine ⟨.ref pa, rfl, pa, rfl, ⟨_, .inl (.inl hpa1)⟩, fun D nD => ?_⟩
      have nDw := W1.w.new nD
      refine lc_tup (K := K) (a := pa) (xs := ps) (fun j H3 => Drawn wl cl H1 H3 ∧ ∃ ns : List Int, H3 D = some (.lst (ns.map V.int)) ∧ ns.length = j ∧ ∀ z ∈ ns, 0 ≤ z ∧ z < hues) ⟨Drawn.of W1.w (same_upd nD), [], upd_same, rfl, fun _ z => nomatch z⟩ (fun j H3 _ p => .inl (.inl (p.1.tups W1.w _ _ hpa1))) (fun j x H3 hx p => ?_) (fun H3 p => ?_)
      · obtain ⟨D3, ns, hD, nl, nb⟩ := p
        have jl := (List.getElem?_eq_some_iff.mp hx).1
        refine ⟨rfl, yes_if ⟨.ref wl, rfl, .int hues, rfl, wl, cl, hues, rfl, D3.2, by omega, log_small (by omega) (by omega), fun H4 d4 D4 o0 o1 => ?_⟩⟩
        have hD4 := D4.1 D _ nDw.1 nDw.2 hD
        refine ⟨_, hD4, Nat.lt_of_le_of_lt (show (ns.map V.int).length ≤ 200000 by rw [List.length_map]; omega) (by decide), (D3.trans D4).put nD nDw, ns ++ [d4], ?_, by rw [List.length_append, nl]; rfl, fun z hz => ?_⟩
        · rw [upd_same, List.map_append]
          rfl
        · rcases List.mem_append.mp hz with h | h
          · exact nb z h
          · rw [List.mem_singleton.mp h]; exact ⟨o0, o1⟩
      obtain ⟨D3, ns, hD, nl, nb⟩ := p
      refine ⟨D, _, rfl, .inl ⟨.inl (.inl hD), fun t nt => ?_⟩⟩
      have D4 := D3.same (same_upd (o := .tup (ns.map V.int)) nt)
      have ht4 : upd H3 t (.tup (ns.map V.int)) t = some (.tup (ns.map V.int)) := upd_same
      generalize upd H3 t (.tup (ns.map V.int)) = H4 at D4 ht4
      have W4 := W1.dr D4
      have ant : An Av H4 (.ref t) (.tuple (ns.map .int)) := .tup ht4 (AnAll.ints _)
      have ft : FX (.tuple (ns.map .int)) 5 (wp + 8) := (FX.tuple (FX.ints fun z hz => by have := nb z hz; omega)).mono (by decide) (by omega)
      refine retZ (TEp.run (P := fun d => FX d 7 (4 * w + 300)) (tep_two W4 (tep_var W4 rfl (anp1.up (W1.noTb D4)) (P := fun d => FX d 6 wp) fp) (tep_btu (n := 5) (wd := wr) (wo := wp + 8) W4 rfl (fun H Q D q => ⟨.ref ra, rfl, q⟩) (anr1.up (W1.noTb D4)) r1 (by omega) flr (tep_at (n := 2) (i := way - 4) W4 (tep_lst W4 (tap_cons W4 (tep_var W4 rfl ant ft) (tap_cons W4 ((tep_odd (high := hues) W4 rfl (fun H Q q => ⟨.int hues, rfl, q⟩) (by omega) (by omega)).mono fun d f => f.mono (by decide) (by omega)) (tap_nil W4))) (by decide)) (fun H Q q => ⟨.int way, rfl, way, 4, rfl, rfl, q⟩) (by omega) (by omega))) (fun x y hx hy => FX.two hx hy (by omega))) W4.w (fin _ (D1.trans D4)))
    refine ⟨.int way, rfl, rfl, _, rfl, ite2 (fun e7 => ?_) (fun e7 => ?_)⟩
    · -- parts
      have c0 : FX (.int 0) 0 0 := fx0
      have i30 : FX (.int (10 ^ 30)) 6 8 := (FX.int (by decide)).mono (by decide) (by decide)
      refine seqZ (TEp.run (P := fun d => FX d 4 8) (tep_pick W1 rfl (tep_lst W1 (tap_cons W1 (tep_non W1 (FX.non.mono (by decide) (by decide))) <| tap_cons W1 (tep_int W1 (fx0.mono (by decide) (by decide))) <| tap_cons W1 (tep_str W1 ((FX.str (w := 2) (by decide +kernel) (by decide +kernel)).mono (by decide) (by decide))) <| tap_cons W1 (tep_str W1 ((FX.str (w := 2) (by decide +kernel) (by decide +kernel)).mono (by decide) (by decide))) <| tap_cons W1 (tep_d0 W1 (FX.d0.mono (by decide) (by decide))) <| tap_cons W1 ((tep_lst W1 (tap_nil (P := fun d => FX d 3 0) W1) (by decide)).mono fun d h => by obtain ⟨ds, rfl, l, _⟩ := h; rw [List.length_eq_zero_iff.mp l]; exact (FX.list (FXA.nil 0)).mono (by decide) (by decide)) <| tap_cons W1 (tep_bl W1 ((FX.bl _).mono (by decide) (by decide))) <| tap_cons W1 (tep_d1 W1 (FX.d1.mono (by decide) (by decide))) <| tap_cons W1 (tep_tup W1 (tap_nil (P := fun d => FX d 3 0) W1) (by decide) fun ds l _ => by rw [List.length_eq_zero_iff.mp l]; exact (FX.tuple (FXA.nil 0)).mono (by decide) (by decide)) <| tap_cons W1 (tep_str W1 ((FX.str (w := 2) (by decide +kernel) (by decide +kernel)).mono (by decide) (by decide))) <| tap_cons W1 (fun H Q D q => ⟨10, 30, rfl, rfl, ⟨by decide, by decide⟩, q H _ (.int (10 ^ 30)) (Drawn.refl D.2) (.int _) ((FX.int (by decide)).mono (by decide) (by decide))⟩) <| tap_cons W1 (tep_one (tep_tup W1 (tap_nil (P := fun d => FX d 3 0) W1) (by decide) (P' := fun d => FX d 1 0) fun ds l _ => by rw [List.length_eq_zero_iff.mp l]; exact FX.tuple (FXA.nil 0)) fun x hx => (FX.tuple (FXA.cons hx (FXA.nil 1))).mono (by decide) (by decide)) <| tap_nil W1) (by decide)) rfl (by decide) (by decide)) W1.w fun H2 v9 d9 D2 an9 f9 => ?_)
      have W2 := W1.dr D2
      have anp2 := anp1.up (W1.noTb D2)
      have anr2 := anr1.up (W1.noTb D2)
      have f9 : FX d9 6 8 := f9.mono (by decide) (Nat.le_refl _)
      -- any state with places, rows and the odd one at their slots
      have parts : ∀ {σ : L2.St} {H2' : Hp} (W2 : Wat Av wl cl H2'), An Av H2' (.ref pa) (.tuple lp) → An Av H2' (.ref ra) (.tuple lr) → An Av H2' v9 d9 → σ[5]? = some (some (.ref pa)) → σ[6]? = some (some (.ref ra)) → σ[9]? = some (some v9) →
          TEp Av wl cl (tVar 5) σ H2' (fun d => FX d 6 wp) ∧ TEp Av wl cl (tVar 6) σ H2' (fun d => FX d 6 wr) ∧ TEp Av wl cl (tVar 9) σ H2' (fun d => FX d 6 8) := fun W a b c e5 e6 e9 => ⟨tep_var W e5 a fp, tep_var W e6 b fr, tep_var W e9 c f9⟩
      obtain ⟨t5, t6, t9⟩ := parts (σ := [some (.ref wl), some (.ref wa), some (.int many), some (.int hues), some (.int way), some (.ref pa), some (.ref ra), none, none, some v9, none, none, none]) W2 anp2 anr2 an9 rfl rfl rfl
      refine seqZ (TEp.run (P := IsL 7 fun d => FX d 7 (4 * w + 300)) (tep_lst W2 (tap_cons W2 (tep_three W2 t5 t6 t9 fun x y z hx hy hz => (FX.tuple (FXA.cons hx (FXA.cons hy (FXA.cons hz (FXA.nil 6))))).mono (by decide) (by omega)) <| tap_cons W2 (tep_one t5 fun x hx => (FX.tuple (FXA.cons hx (FXA.nil 6))).mono (by decide) (by omega)) <| tap_cons W2 ((tep_lst W2 (tap_cons W2 (t5.mono (P' := fun d => FX d 6 (wp + wr)) fun d h => h.mono (by decide) (by omega)) (tap_cons W2 (t6.mono fun d h => h.mono (by decide) (by omega)) (tap_nil W2))) (by decide)).mono fun d h => by obtain ⟨ds, rfl, l, p⟩ := h; exact (FX.list (FXA.all p)).mono (Nat.le_refl _) (by rw [l]; omega)) <| tap_cons W2 (tep_two W2 t6 t5 fun x y hx hy => FX.two hx hy (by omega)) <| tap_cons W2 (t9.mono fun d h => h.mono (by decide) (by omega)) <| tap_cons W2 (tep_two W2 t9 t6 fun x y hx hy => FX.two hx hy (by omega)) <| tap_cons W2 (tep_two W2 t5 t9 fun x y hx hy => FX.two hx hy (by omega)) <| tap_nil W2) (by decide)) W2.w fun H3 vs ds D3 anS pS => ?_)
      have W3 := W2.dr D3
      obtain ⟨t5, t6, t9⟩ := parts (σ := [some (.ref wl), some (.ref wa), some (.int many), some (.int hues), some (.int way), some (.ref pa), some (.ref ra), none, none, some v9, some vs, none, none]) W3 (anp2.up (W2.noTb D3)) (anr2.up (W2.noTb D3)) (an9.up (W2.noTb D3)) rfl rfl rfl
      refine retZ (TEp.run (P := fun d => FX d 7 (4 * w + 300)) (tep_pick W3 rfl (tep_cat (n := 7) (m := 4) W3 (tep_var W3 rfl anS pS) (tep_lst W3 (tap_cons W3 (tep_two W3 t9 t6 fun x y hx hy => FX.two hx hy (by omega)) <| tap_cons W3 (tep_two W3 t5 t9 fun x y hx hy => FX.two hx hy (by omega)) <| tap_cons W3 (tep_two W3 (tep_listOf W3 rfl (anp2.up (W2.noTb D3)) (P := fun d => FX d 6 wp) (FX.list flp)) t6 fun x y hx hy => FX.two hx hy (by omega)) <| tap_cons W3 (tep_two W3 t5 (tep_listOf W3 rfl (anr2.up (W2.noTb D3)) (P := fun d => FX d 6 wr) (FX.list flr)) fun x y hx hy => FX.two hx hy (by omega)) <| tap_nil W3) (by decide)) (by decide)) rfl (by decide) (by decide)) W3.w (fin _ ((D1.trans D2).trans D3)))
    · -- another one
      refine ⟨.int many, rfl, 4, many, rfl, ?_⟩
      obtain ⟨sz, esz, s1, s4⟩ : ∃ sz : Int, (if many < 4 then many else 4) = sz ∧ 1 ≤ sz ∧ sz ≤ 4 := ⟨_, rfl, by split <;> omega, by split <;> omega⟩
      rw [esz]
      refine ⟨.int sz, rfl, sz, rfl, RgOk.of_le (by omega) (by omega) (by omega) (by omega), fun p np => ?_⟩
      have s5 := same_upd (o := .tup (rgV 0 sz)) np
      have hp5 : upd H1 p (.tup (rgV 0 sz)) p = some (.tup (rgV 0 sz)) := upd_same
      generalize upd H1 p (.tup (rgV 0 sz)) = H5 at s5 hp5
      refine ⟨(by show 1 ≤ sizeLine; decide), fun z nz => ?_⟩
      have s6 := same_upd (o := .tup [V.int 0]) nz
      have hz6 : upd H5 z (.tup [V.int 0]) z = some (.tup [V.int 0]) := upd_same
      generalize upd H5 z (.tup [V.int 0]) = H6 at s6 hz6
      have rep : ∀ (Q' : VK), (∀ H' r, Same H6 H' → H' r = some (.tup ((List.replicate sz.toNat (0 : Int)).map V.int)) → Q' (.ref r) H') → rRepU K (.ref z) (.int sz) H6 Q' := fun Q' k => by
        by_cases e1 : sz = 1
        · subst e1
          exact .inr ⟨z, _, rfl, rfl, .inl (.inl hz6), k H6 z (Same.refl _) hz6⟩
        · refine .inl ⟨z, sz, _, rfl, rfl, .inl (.inl hz6), (fun z => nomatch z), by omega, by omega, by decide, fun r nr => k _ r (same_upd nr) ?_⟩
          rw [rep1, upd_same, List.map_replicate]
      refine ⟨.int sz, rfl, rep _ fun H7 r s7 hr7 => ⟨(by show 1 ≤ sizeLine; decide), fun t nt => ?_⟩⟩
      have s8 := same_upd (o := .tup [.ref r]) nt
      have ht8 : upd H7 t (.tup [.ref r]) t = some (.tup [.ref r]) := upd_same
      have hr8 := s8 _ _ hr7
      generalize upd H7 t (.tup [.ref r]) = H8 at s8 ht8 hr8
      have hp8 := ((s6.trans s7).trans s8) _ _ hp5
      refine ⟨(by show 2 ≤ sizeLine; decide), fun o no => ?_⟩
      have s9 := same_upd (o := .tup [.ref p, .ref t]) no
      rw [rgV_eq] at hp8
      have fa : FX (.tuple ((rngI sz).map .int)) 6 4 := (FX.tuple (FX.ints fun z hz => by have := rngI_mem hz; omega)).mono (by decide) (by rw [rngI_len]; omega)
      have fb : FX (.tuple ((List.replicate sz.toNat (0 : Int)).map .int)) 5 4 := (FX.tuple (FX.ints fun z hz => by rw [(List.mem_replicate.mp hz).2]; decide)).mono (by decide) (by rw [List.length_replicate]; omega)
      refine fin _ D1 _ _ (.tuple [.tuple ((rngI sz).map .int), .tuple [.tuple ((List.replicate sz.toNat (0 : Int)).map .int)]]) (Drawn.of W1.w ((((s5.trans s6).trans s7).trans s8).trans s9)) (.tup upd_same (.cons (.tup (s9 _ _ hp8) (AnAll.ints _)) (.cons (.tup (s9 _ _ ht8) (.cons (.tup (s9 _ _ hr8) (AnAll.ints _)) .nil)) .nil))) ?_
      exact FX.two fa (FX.tuple (FXA.cons fb (FXA.nil 5))) (by omega)
end
end Rd

set_option Elab.async false
set_option linter.all false
set_option maxRecDepth 100000
set_option maxHeartbeats 4000000
namespace Rd
open PySem PySem.Spec PyProof.Rows L2 Dt TL
abbrev sBmo : Stmt := topS 29
abbrev nBmo : List Str := ["well", "riddle", "many", "hues", "wishes", "found", "places", "rows", "odd", "other"]
theorem scBmo : FnScope nBmo ["well", "riddle"] (defScope sBmo) := ⟨rfl, rfl, rfl, by decide +kernel, rfl, by decide +kernel, by decide +kernel⟩
def spBmA : Sp := fun vs H Q _ => ∃ (Av : Addr → Prop) (wl cl ri : Addr) (many hues : Int) (wds : List WD), vs = [.ref wl, .ref ri] ∧ Wat Av wl cl H ∧ IsRid H ri many hues wds ∧ GoodR many hues wds ∧
  ∀ H' v' d', Drawn wl cl H H' → An Av H' v' d' → FX d' 9 6000 → Q v' H'
structure TxtBmo (P : Program) (w : World) (K : PySem.W.Frag) (mg : Str → Option Value) (base : Heap) : Prop where
  m_tuple : mg "tuple" = none
  m_int : mg "int" = none
  c__law_draw : Cal P w K mg base 1 "_law_draw" ["well", "many"] spDraw
  c__law_odd : Cal P w K mg base 2 "_law_odd" ["well", "high"] spOdA
  c__law_bent_tuple : Cal P w K mg base 2 "_law_bent_tuple" ["well", "things", "odd"] spBtuA
section
variable {Av : Addr → Prop} {wl cl : Addr} {σ : L2.St} {H0 : Hp}
/-- the list's thing at a place that is drawn -/
theorem tep_ix {K : PySem.W.Frag} {te ti : TE} {n : Nat} {P : PyData → Prop} (W : Wat Av wl cl H0) (a : TEp Av wl cl te σ H0 (IsL n P)) (ht : ∀ H (Q : VK), Drawn wl cl H0 H → (∀ H' (i : Int), Drawn wl cl H H' → 0 ≤ i → i < (n : Int) → Q (.int i) H') → ti σ H Q) : TEp Av wl cl (tOp (rIxL K) te ti) σ H0 P := fun H Q D q => by
  refine a H _ D fun H1 v d D1 an p => ht _ _ (D.trans D1) fun H2 i D2 i0 i1 => ?_
  have W1 := W.dr (D.trans D1)
  obtain ⟨ds, rfl, dl, dp⟩ := p
  cases an with
  | dct l => cases l
  | @lst b xs _ hb nb al =>
    have lx := al.len
    obtain ⟨x, ex⟩ : ∃ x, xs[i.toNat]? = some x := ⟨_, List.getElem?_eq_getElem (by omega)⟩
    obtain ⟨y, ey, ay⟩ := al.get ex
    have e9 : ((i.toNat : Nat) : Int) = i := by omega
    have hat : atI xs i = some x := by rw [← e9]; exact atI_nat ex
    exact ⟨b, xs, i, x, rfl, rfl, .inl (.inl (D2.lst (W1.ne nb) hb)), hat, q _ _ _ (D1.trans D2) (ay.up (W1.noTb D2)) (dp _ (List.mem_of_getElem? ey))⟩
/-- a list display of two -/
theorem tep_twoL {ta tb : TE} {P1 P2 P : PyData → Prop} (W : Wat Av wl cl H0) (a : TEp Av wl cl ta σ H0 P1) (b : TEp Av wl cl tb σ H0 P2) (f : ∀ x y, P1 x → P2 y → P (.list [x, y])) : TEp Av wl cl (tLst (tCons ta (tCons tb tNil))) σ H0 P := fun H Q D q =>
  a _ _ D fun H1 v1 d1 D1 an1 p1 => b _ _ (D.trans D1) fun H2 v2 d2 D2 an2 p2 => ⟨(by show 2 ≤ sizeLine; decide), fun p np => q _ _ (.list [d1, d2]) ((D1.trans D2).same (same_upd np)) (.lst upd_same (fun z => (W.dr ((D.trans D1).trans D2)).av p z np) (.cons ((an1.up ((W.dr (D.trans D1)).noTb D2)).up (NoTb.same (same_upd np))) (.cons (an2.up (NoTb.same (same_upd np))) .nil))) (f _ _ p1 p2)⟩
def rTupOf (K : PySem.W.Frag) : List V → Hp → VK → Prop := fun xs H Q => ∃ p ys, xs = [.ref p] ∧ ((SqL K H p ys ∧ ∀ l, H l = none → Q (.ref l) (upd H l (.tup ys))) ∨ (SqT K H p ys ∧ Q (.ref p) H))
theorem tep_tupOf {K : PySem.W.Frag} {i : Nat} {a : Addr} {ds : List PyData} {P : PyData → Prop} (W : Wat Av wl cl H0) (e : σ[i]? = some (some (.ref a))) (an : An Av H0 (.ref a) (.list ds)) (p : P (.tuple ds)) : TEp Av wl cl (tCB (rTupOf K) (tCons (tVar i) tNil)) σ H0 P := fun H Q D q => by
  have an2 := an.up (W.noTb D)
  cases an2 with
  | dct l => cases l
  | @lst _ xs _ ha na al => exact ⟨.ref a, e, a, xs, rfl, .inl ⟨.inl (.inl ha), fun l nl => q _ _ _ (Drawn.of (W.dr D).w (same_upd nl)) (.tup upd_same (al.up (NoTb.same (same_upd nl)))) p⟩⟩
end
section
variable {P : Program} {w : World} {K : PySem.W.Frag} {mg : Str → Option Value} {base : Heap}
structure Sm (Av : Addr → Prop) (wl cl fo : Addr) (i : Nat) (H H' : Hp) : Prop where
  D : Drawn wl cl H H'
  W : Wat (fun b => Av b ∨ b = fo) wl cl H'
  L : ∃ vs ds, H' fo = some (.lst vs) ∧ AnAll (fun b => Av b ∨ b = fo) H' vs ds ∧ ds.length = i ∧ ∀ d ∈ ds, FX d 6 600
theorem Sm.dr {Av : Addr → Prop} {wl cl fo : Addr} {i : Nat} {H H1 H2 : Hp} (s : Sm Av wl cl fo i H H1) (n : fo ≠ wl ∧ fo ≠ cl) (D : Drawn wl cl H1 H2) : Sm Av wl cl fo i H H2 := by
  obtain ⟨vs, ds, h1, h2, h3, h4⟩ := s.L
  exact ⟨s.D.trans D, s.W.dr D, vs, ds, D.lst n h1, h2.up (s.W.noTb D), h3, h4⟩
set_option maxHeartbeats 16000000 in
theorem ok_bmA {f : Addr} {fd : FuncData} {k : Nat} (F : Fun K "_law_bent_more" "_law_bent_more" sBmo f fd) (T : TxtBmo P w K mg base) : FnOk P w K mg base CX0 (k + 3) f fd ["well", "riddle"] spBmA := by
  refine F.ok scBmo (fun vs H Q E h => ?_) (fun cdv A outer s H vs Q E hr h => ?_)
  · obtain ⟨Av, wl, cl, ri, many, hues, wds, rfl, _⟩ := h
    rfl
  · obtain ⟨Av, wl, cl, ri, many, hues, wds, rfl, W, isr, gr, q⟩ := h
    refine ⟨_, (pss_cons (ps_asg (pv 1) (pg_tup rfl (pgs_cons (pg_name (i := 2) scBmo.nd rfl (Or.inl rfl)) (pgs_cons (pg_name (i := 3) scBmo.nd rfl (Or.inl rfl)) (pgs_cons (pg_name (i := 4) scBmo.nd rfl (Or.inl rfl)) pgs_nil)))))
  (pss_cons (ps_set (i := 5) scBmo.nd rfl (Or.inl rfl) (pe_lst pa_nil))
  (pss_cons (ps_for PassesOwn.never rfl (pi_tup (pv 4)) (pg_tup rfl (pgs_cons (pg_name (i := 6) scBmo.nd rfl (Or.inl rfl)) (pgs_cons (pg_name (i := 7) scBmo.nd rfl (Or.inl rfl)) pgs_nil)))
  (C8.pss_cut (ps_if (pt_cmpR op_eq (pe_cal T.c__law_draw (hr.mono (by omega)) (by rfl) (pa_cons (pv 0) (pa_cons pe_int pa_nil))) pe_int (nomark _))
  (pss_one (ps_set (i := 6) scBmo.nd rfl (Or.inl rfl) (pe_ix ix_list (pe_lst (pa_cons (pe_cal T.c__law_bent_tuple (hr.mono (by omega)) (by rfl) (pa_cons (pv 0) (pa_cons (pv 6) (pa_cons (pe_cal T.c__law_odd (hr.mono (by omega)) (by rfl) (pa_cons (pv 0) (pa_cons (pe_op op_sub (pv 2) pe_int) pa_nil))) pa_nil)))) (pa_cons (pe_tup pa_nil) pa_nil))) (pe_cal T.c__law_draw (hr.mono (by omega)) (by rfl) (pa_cons (pv 0) (pa_cons pe_int pa_nil))) (fun _ _ => rfl)))) pss_nil)
  (C8.pss_cut (ps_if (pt_cmpR op_eq (pe_cal T.c__law_draw (hr.mono (by omega)) (by rfl) (pa_cons (pv 0) (pa_cons pe_int pa_nil))) pe_int (nomark _))
  (pss_one (ps_set (i := 7) scBmo.nd rfl (Or.inl rfl) (pe_ix ix_list (pe_lst (pa_cons (pe_cal T.c__law_bent_tuple (hr.mono (by omega)) (by rfl) (pa_cons (pv 0) (pa_cons (pv 7) (pa_cons (pe_cal T.c__law_odd (hr.mono (by omega)) (by rfl) (pa_cons (pv 0) (pa_cons (pv 3) pa_nil))) pa_nil)))) (pa_cons (pe_tup pa_nil) pa_nil))) (pe_cal T.c__law_draw (hr.mono (by omega)) (by rfl) (pa_cons (pv 0) (pa_cons pe_int pa_nil))) (fun _ _ => rfl)))) pss_nil)
  (pss_one (ps_expr (pe_bm PySem.F.plainAttrs_list PySem.F.slot_list_append PySem.F.type_list_append mt_append (pv 5) (pa_cons (pe_ix ix_list (pe_lst (pa_cons (pe_tup (pa_cons (pv 6) (pa_cons (pv 7) pa_nil))) (pa_cons (pe_lst (pa_cons (pv 6) (pa_cons (pv 7) pa_nil))) pa_nil))) (pe_callTy call_int1 (by rfl) T.m_int (by decide +kernel) (pa_cons (pe_cmpR op_eq (pe_cal T.c__law_draw (hr.mono (by omega)) (by rfl) (pa_cons (pv 0) (pa_cons pe_int pa_nil))) pe_int (nomark _)) pa_nil)) (fun _ _ => rfl)) pa_nil)))))))
  (pss_cons (ps_set (i := 8) scBmo.nd rfl (Or.inl rfl) (pe_ix ix_list (pe_lst (pa_cons (pv 2) (pa_cons (pv 2) (pa_cons (pv 2) (pa_cons pe_int (pa_cons (pe_cal T.c__law_odd (hr.mono (by omega)) (by rfl) (pa_cons (pv 0) (pa_cons pe_int pa_nil))) pa_nil)))))) (pe_cal T.c__law_draw (hr.mono (by omega)) (by rfl) (pa_cons (pv 0) (pa_cons pe_int pa_nil))) (fun _ _ => rfl)))
  (pss_cons (ps_set (i := 9) scBmo.nd rfl (Or.inl rfl) (pe_ix ix_list (pe_lst (pa_cons (pv 3) (pa_cons (pv 3) (pa_cons (pv 3) (pa_cons pe_int (pa_cons (pe_cal T.c__law_odd (hr.mono (by omega)) (by rfl) (pa_cons (pv 0) (pa_cons pe_int pa_nil))) pa_nil)))))) (pe_cal T.c__law_draw (hr.mono (by omega)) (by rfl) (pa_cons (pv 0) (pa_cons pe_int pa_nil))) (fun _ _ => rfl)))
  (pss_one (ps_ret (pe_tup (pa_cons (pv 8) (pa_cons (pv 9) (pa_cons (pe_ix ix_list (pe_lst (pa_cons (pe_callTy call_tuple_of (by rfl) T.m_tuple (by decide +kernel) (pa_cons (pv 5) pa_nil)) (pa_cons (pe_callTy call_tuple_of (by rfl) T.m_tuple (by decide +kernel) (pa_cons (pv 5) pa_nil)) (pa_cons (pe_callTy call_tuple_of (by rfl) T.m_tuple (by decide +kernel) (pa_cons (pv 5) pa_nil)) (pa_cons (pv 5) (pa_cons pe_non (pa_cons pe_str pa_nil))))))) (pe_cal T.c__law_draw (hr.mono (by omega)) (by rfl) (pa_cons (pv 0) (pa_cons pe_int pa_nil))) (fun _ _ => rfl)) pa_nil))))))))))), ?_⟩
    obtain ⟨wt, was, hri, hwt, pw⟩ := isr
    have m1 := gr.m1
    have m6 := gr.m6
    have h2 := gr.h2
    have h4 := gr.h4
    have e8 := gr.eight
    refine ⟨.ref ri, rfl, ri, _, rfl, .inl (.inl hri), rfl, .int many, [.int hues, .ref wt], rfl, .int hues, [.ref wt], rfl, .ref wt, [], rfl, rfl, ?_⟩
    refine ⟨(by show 0 ≤ sizeLine; decide), fun fo nfo => ?_⟩
    have nfw := W.w.new nfo
    have naf : ¬ Av fo := fun z => W.av fo z nfo
    have s0 := same_upd (o := .lst []) nfo
    have S0 : Sm Av wl cl fo 0 H (upd H fo (.lst [])) := by
      have W0 := W.same s0
      refine ⟨Drawn.of W.w s0, ⟨W0.w, fun b hb => ?_, .inl W.aw, .inl W.ac⟩, [], [], upd_same, .nil, rfl, fun _ z => nomatch z⟩
      rcases hb with z | z
      · exact W0.av b z
      · intro y
        rw [z, upd_same] at y
        cases y
    generalize upd H fo (.lst []) = H0 at s0 S0
    refine ⟨.ref wt, rfl, wt, rfl, ⟨_, .inl (.inl (s0 _ _ hwt))⟩, ?_⟩
    refine for_tup (K := K) (a := wt) (xs := was.map V.ref) (fun i σ H' => Sm Av wl cl fo i H H' ∧ ∃ y6 y7, σ = [some (.ref wl), some (.ref ri), some (.int many), some (.int hues), some (.ref wt), some (.ref fo), y6, y7, none, none]) ⟨S0, none, none, rfl⟩ (fun i σ H' _ p => .inl (.inl (p.1.D.tups W.w _ _ hwt))) (fun i x σ H1 hx p => ?_) (fun σ H1 p => ?_)
    · obtain ⟨S1, y6, y7, rfl⟩ := p
      obtain ⟨wa, ew, rfl⟩ := map_get hx
      obtain ⟨wd, ewd, isw⟩ := pairedGetL pw ew
      have il : i < wds.length := (List.getElem?_eq_some_iff.mp ewd).1
      have gw := gr.each wd (List.mem_of_getElem? ewd)
      have g1 := gw.one
      have g3 := gw.three
      have g64 := gw.few
      have gs := gw.some_
      obtain ⟨pa, ra, rs, hwa, hpa, hra, prs⟩ := isw.mono (S1.D.tups W.w)
      have hpa : H1 pa = some (.tup (wd.1.map V.int)) := hpa
      refine ⟨wa, _, rfl, .inl (.inl hwa), rfl, .ref pa, [.ref ra], rfl, .ref ra, [], rfl, rfl, ?_⟩
      have anp : An (fun b => Av b ∨ b = fo) H1 (.ref pa) (.tuple (wd.1.map .int)) := .tup hpa (AnAll.ints _)
      have anr : An (fun b => Av b ∨ b = fo) H1 (.ref ra) (.tuple (wd.2.map rowD)) := .tup hra (an_rowsT prs)
      have fip : FXA (wd.1.map PyData.int) 4 3 := (FX.ints fun z hz => by have := gw.pl z hz; omega).mono (by decide) g3
      have fir : FXA (wd.2.map rowD) 4 256 := (FXA.map (n := 1) (w := 3) wd.2 fun r hr => fx_row (by rw [(gw.row r hr).1]; exact g3) fun z hz => by have := (gw.row r hr).2 z hz; omega).mono (by decide) (by omega)
      have fp : FX (.tuple (wd.1.map .int)) 5 15 := (FX.tuple fip).mono (Nat.le_refl _) (by decide)
      have fr : FX (.tuple (wd.2.map rowD)) 5 521 := (FX.tuple fir).mono (Nat.le_refl _) (by decide)
      have nilT : ∀ {σ : L2.St} {H' : Hp} {n w : Nat}, Wat (fun b => Av b ∨ b = fo) wl cl H' → TEp (fun b => Av b ∨ b = fo) wl cl (tTup tNil) σ H' (fun d => FX d (n + 1) w) := fun {σ H' n w} W' => tep_tup W' (tap_nil (P := fun d => FX d 3 0) W') (by decide) fun ds l _ => by rw [List.length_eq_zero_iff.mp l]; exact (FX.tuple (FXA.nil 0)).mono (by omega) (by omega)
      refine ⟨fun σ H' => Sm Av wl cl fo i H H' ∧ An (fun b => Av b ∨ b = fo) H' (.ref ra) (.tuple (wd.2.map rowD)) ∧ ∃ vp dp, An (fun b => Av b ∨ b = fo) H' vp dp ∧ FX dp 5 15 ∧ σ = [some (.ref wl), some (.ref ri), some (.int many), some (.int hues), some (.ref wt), some (.ref fo), some vp, some (.ref ra), none, none], ?_, ?_⟩
      · refine ⟨.ref wl, rfl, wl, cl, 3, rfl, S1.W.w, by decide, by decide, fun H2 d D2 _ _ => ⟨rfl, _, rfl, ite2 (fun e => ?_) (fun e => ?_)⟩⟩
        · have S2 := S1.dr nfw D2
          refine asgZ (TEp.run (tep_pick S2.W rfl (tep_lst S2.W (tap_cons S2.W (tep_btu (n := 4) (wd := 3) (wo := 8) S2.W rfl (fun H Q D q => ⟨.ref pa, rfl, q⟩) (anp.up (S1.W.noTb D2)) (by rw [List.length_map]; exact g1) (by rw [List.length_map]; omega) fip (tep_odd (high := many - 1) S2.W rfl (fun H Q q => ⟨.int many, rfl, many, 1, rfl, rfl, q⟩) (by omega) (by omega))) (tap_cons S2.W (nilT S2.W) (tap_nil S2.W))) (by decide)) rfl (by decide) (by decide)) S2.W.w fun H3 v3 d3 D3 an3 f3 => ?_)
          exact ⟨S2.dr nfw D3, anr.up (S1.W.noTb (D2.trans D3)), v3, d3, an3, f3, rfl⟩
        · exact ⟨S1.dr nfw D2, anr.up (S1.W.noTb D2), .ref pa, _, anp.up (S1.W.noTb D2), fp, rfl⟩
      rintro σ H4 ⟨S4, anr4, vp, dp, anp4, fp4, rfl⟩
      refine ⟨fun σ H' => Sm Av wl cl fo i H H' ∧ ∃ vr dr, An (fun b => Av b ∨ b = fo) H' vp dp ∧ An (fun b => Av b ∨ b = fo) H' vr dr ∧ FX dr 5 521 ∧ σ = [some (.ref wl), some (.ref ri), some (.int many), some (.int hues), some (.ref wt), some (.ref fo), some vp, some vr, none, none], ?_, ?_⟩
      · refine ⟨.ref wl, rfl, wl, cl, 3, rfl, S4.W.w, by decide, by decide, fun H2 d D2 _ _ => ⟨rfl, _, rfl, ite2 (fun e => ?_) (fun e => ?_)⟩⟩
        · have S2 := S4.dr nfw D2
          refine asgZ (TEp.run (tep_pick S2.W rfl (tep_lst S2.W (tap_cons S2.W (tep_btu (n := 4) (wd := 256) (wo := 8) S2.W rfl (fun H Q D q => ⟨.ref ra, rfl, q⟩) (anr4.up (S4.W.noTb D2)) (by rw [List.length_map]; exact gs) (by rw [List.length_map]; omega) fir (tep_odd (high := hues) S2.W rfl (fun H Q q => ⟨.int hues, rfl, q⟩) (by omega) (by omega))) (tap_cons S2.W (nilT S2.W) (tap_nil S2.W))) (by decide)) rfl (by decide) (by decide)) S2.W.w fun H3 v3 d3 D3 an3 f3 => ?_)
          exact ⟨S2.dr nfw D3, v3, d3, anp4.up (S4.W.noTb (D2.trans D3)), an3, f3, rfl⟩
        · exact ⟨S4.dr nfw D2, .ref ra, _, anp4.up (S4.W.noTb D2), anr4.up (S4.W.noTb D2), fr, rfl⟩
      rintro σ H5 ⟨S5, vr, dr, anp5, anr5, fr5, rfl⟩
      obtain ⟨vs5, ds5, hfo5, _, _, _⟩ := S5.L
      refine ⟨.ref fo, rfl, .inl ⟨rfl, _, .inl (.inl hfo5)⟩, ?_⟩
      have tp : TEp (fun b => Av b ∨ b = fo) wl cl (tVar 6) [some (.ref wl), some (.ref ri), some (.int many), some (.int hues), some (.ref wt), some (.ref fo), some vp, some vr, none, none] H5 (fun d => FX d 5 15) := tep_var S5.W rfl anp5 fp4
      have tr : TEp (fun b => Av b ∨ b = fo) wl cl (tVar 7) [some (.ref wl), some (.ref ri), some (.int many), some (.int hues), some (.ref wt), some (.ref fo), some vp, some vr, none, none] H5 (fun d => FX d 5 521) := tep_var S5.W rfl anr5 fr5
      refine TEp.run (P := fun d => FX d 6 600) (tep_ix (n := 2) S5.W (tep_lst S5.W (tap_cons S5.W (tep_two S5.W tp tr fun x y hx hy => FX.two hx hy (by decide)) (tap_cons S5.W (tep_twoL S5.W tp tr fun x y hx hy => FX.twoL hx hy (by decide)) (tap_nil S5.W))) (by decide)) (fun H' Q' D' q' => ?_)) S5.W.w fun H6 v6 d6 D6 an6 f6 => ?_
      · refine ⟨.ref wl, rfl, wl, cl, 12, rfl, (S5.W.dr D').w, by decide, by decide, fun H2 d D2 _ _ => ⟨rfl, .inr ⟨_, rfl, ?_⟩⟩⟩
        cases decide (V.int d = V.int 0)
        · exact q' _ _ D2 (by decide) (by decide)
        · exact q' _ _ D2 (by decide) (by decide)
      · have S6 := S5.dr nfw D6
        obtain ⟨vs, ds, hfo, al, dl, df⟩ := S6.L
        have lx := al.len
        refine ⟨fo, vs, v6, rfl, rfl, hfo, small1000 (by omega), ?_⟩
        have nt : NoTb (fun b => Av b ∨ b = fo) H6 (upd H6 fo (.lst (vs ++ [v6]))) := NoTb.put hfo (.inr rfl)
        refine ⟨⟨S6.D.put nfo nfw, ⟨S6.W.w.put nfw, fun b hb z => ?_, .inl W.aw, .inl W.ac⟩, vs ++ [v6], ds ++ [d6], upd_same, (al.up nt).append (.cons (an6.up nt) .nil), by rw [List.length_append, dl]; rfl, fun d hd => ?_⟩, _, _, rfl⟩
        · by_cases y : b = fo
          · rw [y, upd_same] at z; cases z
          · rw [upd_ne y] at z
            exact S6.W.av b hb z
        · rcases List.mem_append.mp hd with h | h
          · exact df d h
          · rw [List.mem_singleton.mp h]; exact f6
    · obtain ⟨S1, y6, y7, rfl⟩ := p
      have Wb := S1.W
      obtain ⟨vs, ds, hfo, al, dl, df⟩ := S1.L
      have al := An.weakAll (Bv := Av) (fun b hb => .inl hb) ds _ al
      have W1 := W.dr S1.D
      rw [List.length_map, pairedLen pw] at dl
      have anf : An Av H1 (.ref fo) (.list ds) := .lst hfo naf al
      have fds : FXA ds 6 4808 := (FXA.all df).mono (Nat.le_refl _) (by omega)
      have num : ∀ {i : Int}, 0 ≤ i → i ≤ 9 → FX (.int i) 4 8 := fun {i} a b => (FX.int (by omega)).mono (by decide) (by decide)
      refine seqZ (TEp.run (P := fun d => FX d 4 8) (tep_pick W1 rfl (tep_lst W1 (tap_cons W1 (tep_var W1 rfl (.int many) (num (by omega) (by omega))) <| tap_cons W1 (tep_var W1 rfl (.int many) (num (by omega) (by omega))) <| tap_cons W1 (tep_var W1 rfl (.int many) (num (by omega) (by omega))) <| tap_cons W1 (tep_int W1 (num (by decide) (by decide))) <| tap_cons W1 (tep_odd (high := 6) W1 rfl (fun H Q q => q) (by decide) (by decide)) <| tap_nil W1) (by decide)) rfl (by decide) (by decide)) W1.w fun H2 v2 d2 D2 an2 f2 => ?_)
      have W2 := W1.dr D2
      refine seqZ (TEp.run (P := fun d => FX d 4 8) (tep_pick W2 rfl (tep_lst W2 (tap_cons W2 (tep_var W2 rfl (.int hues) (num (by omega) (by omega))) <| tap_cons W2 (tep_var W2 rfl (.int hues) (num (by omega) (by omega))) <| tap_cons W2 (tep_var W2 rfl (.int hues) (num (by omega) (by omega))) <| tap_cons W2 (tep_int W2 (num (by decide) (by decide))) <| tap_cons W2 (tep_odd (high := 4) W2 rfl (fun H Q q => q) (by decide) (by decide)) <| tap_nil W2) (by decide)) rfl (by decide) (by decide)) W2.w fun H3 v3 d3 D3 an3 f3 => ?_)
      have W3 := W2.dr D3
      have anf3 := anf.up (W1.noTb (D2.trans D3))
      have ft : FX (.tuple ds) 8 4810 := (FX.tuple fds).mono (by decide) (by decide)
      have fl : FX (.list ds) 8 4810 := (FX.list fds).mono (by decide) (by decide)
      refine retZ (TEp.run (P := fun d => FX d 9 6000) (tep_three (P1 := fun d => FX d 4 8) (P2 := fun d => FX d 4 8) (P3 := fun d => FX d 8 4810) W3 (tep_var W3 rfl (an2.up (W2.noTb D3)) f2) (tep_var W3 rfl an3 f3) (tep_pick (P := fun d => FX d 8 4810) W3 rfl (tep_lst W3 (tap_cons W3 (tep_tupOf W3 rfl anf3 ft) <| tap_cons W3 (tep_tupOf W3 rfl anf3 ft) <| tap_cons W3 (tep_tupOf W3 rfl anf3 ft) <| tap_cons W3 (tep_var W3 rfl anf3 fl) <| tap_cons W3 (tep_non W3 (FX.non.mono (by decide) (by decide))) <| tap_cons W3 (tep_str W3 ((FX.str (w := 2) (by decide +kernel) (by decide +kernel)).mono (by decide) (by decide))) <| tap_nil W3) (by decide)) rfl (by decide) (by decide)) fun x y z hx hy hz => ?_) W3.w fun H' v d D' an' f' => q _ _ _ (((S1.D.trans D2).trans D3).trans D') an' f')
      exact (FX.tuple (FXA.cons (hx.mono (by decide) (Nat.le_refl _)) (FXA.cons (hy.mono (by decide) (Nat.le_refl _)) (FXA.cons hz (FXA.nil 8))))).mono (by decide) (by decide)
end
end Rd

set_option Elab.async false
set_option linter.all false
set_option maxRecDepth 100000
set_option maxHeartbeats 4000000
namespace Rd
open PySem PySem.Spec PyProof.Rows L2 Dt TL
abbrev sLst : Stmt := topS 30
abbrev nLst : List Str := ["thing", "one"]
theorem scLst : FnScope nLst ["thing"] (defScope sLst) := ⟨rfl, rfl, rfl, by decide +kernel, rfl, by decide +kernel, by decide +kernel⟩
mutual
/-- each tuple a list -/
def lstD : PyData → PyData
  | .tuple l => .list (lstA l)
  | .none => .none
  | .bool b => .bool b
  | .int i => .int i
  | .str x => .str x
  | .list l => .list l
  | .dict l => .dict l
def lstA : List PyData → List PyData
  | [] => []
  | d :: r => lstD d :: lstA r
end
theorem lstA_eq : ∀ l : List PyData, lstA l = l.map lstD
  | [] => by simp [lstA]
  | d :: r => by rw [lstA, lstA_eq r]; rfl
mutual
theorem lst_same : ∀ d : PyData, (lstD d).depth = d.depth ∧ (lstD d).showable = d.showable ∧ (lstD d).leavesShort 60 = d.leavesShort 60 ∧ (lstD d).bulk = d.bulk
  | .tuple l => by
    obtain ⟨a, b, c, e⟩ := lst_sameA l
    simp only [lstD, PyData.depth, PyData.showable, PyData.leavesShort, PyData.bulk]
    exact ⟨by rw [a], b, c, e⟩
  | .none => by simp [lstD]
  | .bool b => by simp [lstD]
  | .int i => by simp [lstD]
  | .str x => by simp [lstD]
  | .list l => by simp [lstD]
  | .dict l => by simp [lstD]
theorem lst_sameA : ∀ l : List PyData, PyData.depthAll (lstA l) = PyData.depthAll l ∧ PyData.showableAll (lstA l) = PyData.showableAll l ∧ PyData.leavesShortAll 60 (lstA l) = PyData.leavesShortAll 60 l ∧ PyData.bulkAll (lstA l) = PyData.bulkAll l
  | [] => by simp [lstA]
  | d :: r => by
    obtain ⟨a, b, c, e⟩ := lst_same d
    obtain ⟨a', b', c', e'⟩ := lst_sameA r
    simp only [lstA, PyData.depthAll, PyData.showableAll, PyData.leavesShortAll, PyData.bulkAll]
    exact ⟨by rw [a, a'], by rw [b, b'], by rw [c, c'], by rw [e, e']⟩
end
theorem FX.lstd {d : PyData} {n w : Nat} (h : FX d n w) : FX (lstD d) n w := by
  obtain ⟨a, b, c, e⟩ := lst_same d
  exact ⟨by rw [a]; exact h.dep, by rw [b]; exact h.sho, by rw [c]; exact h.sh, by rw [e]; exact h.blk⟩
theorem dep_mem : ∀ {l : List PyData} {d : PyData}, d ∈ l → d.depth ≤ PyData.depthAll l
  | x :: r, d, h => by
    simp only [PyData.depthAll]
    rcases List.mem_cons.mp h with z | z
    · rw [z]; exact Nat.le_max_left _ _
    · exact Nat.le_trans (dep_mem z) (Nat.le_max_right _ _)
theorem bulk_mem : ∀ {l : List PyData} {d : PyData}, d ∈ l → d.bulk ≤ PyData.bulkAll l
  | x :: r, d, h => by
    simp only [PyData.bulkAll]
    rcases List.mem_cons.mp h with z | z
    · rw [z]; omega
    · have := bulk_mem z; omega
theorem bulk_len : ∀ l : List PyData, l.length ≤ PyData.bulkAll l
  | [] => Nat.zero_le _
  | x :: r => by
    have := bulk_len r
    simp only [PyData.bulkAll, List.length_cons]
    omega
def spLsA (n : Nat) : Sp := fun vs H Q _ => ∃ (Av : Addr → Prop) (v : V) (d : PyData), vs = [v] ∧ (∀ b, Av b → Old H b) ∧ An Av H v d ∧ d.depth < n ∧ d.bulk ≤ 200000 ∧ ∀ H' v', Same H H' → An Av H' v' (lstD d) → Q v' H'
structure TxtLs (P : Program) (w : World) (K : PySem.W.Frag) (mg : Str → Option Value) (base : Heap) (n : Nat) : Prop where
  m_isinstance : mg "isinstance" = none
  m_tuple : mg "tuple" = none
  c__law_listed : Cal P w K mg base (n + 1) "_law_listed" ["thing"] (spLsA n)
section
variable {P : Program} {w : World} {K : PySem.W.Frag} {mg : Str → Option Value} {base : Heap}
set_option maxHeartbeats 16000000 in
theorem ok_lsS {f : Addr} {fd : FuncData} {n : Nat} (F : Fun K "_law_listed" "_law_listed" sLst f fd) (T : TxtLs P w K mg base n) : FnOk P w K mg base CX0 (n + 1 + 1) f fd ["thing"] (spLsA (n + 1)) := by
  refine F.ok scLst (fun vs H Q E h => ?_) (fun cdv A outer s H vs Q E hr h => ?_)
  · obtain ⟨Av, v, d, rfl, _⟩ := h
    rfl
  · obtain ⟨Av, v, d, rfl, hav, an, dep, blk, q⟩ := h
    refine ⟨_, (pss_cons (ps_if (pt_not (pt_val (pe_callB call_isi (by rfl) T.m_isinstance (by decide +kernel) (pa_cons (pv 0) (pa_cons (pe_bltn (v := .ty "tuple") (by rfl) T.m_tuple (by decide +kernel) rfl) pa_nil)))))
  (pss_one (ps_ret (pv 0))) pss_nil)
  (pss_one (ps_ret (pe_lc (own := [("one", 1)]) rfl scLst.nd  (pi_tup (pv 0)) (blkOk_by (own := [("one", 1)]) (N := nLst) (sc := defScope sLst) (by decide +kernel))
   (fun _ _ _ _ _ => (pg_name (i := 1) scLst.nd rfl (Or.inl rfl))) (fun _ _ _ _ _ => pts_nil) (fun _ _ _ _ _ => (pe_cal T.c__law_listed (hr.mono (by omega)) (by rfl) (pa_cons (pv 1) pa_nil))))))), ?_⟩
    refine ⟨v, rfl, v, .ty "tuple", _, .type "tuple", _, rfl, .ty _, an.ty, kit_ty (kit_self (by decide)), _, rfl, ?_⟩
    cases d with
    | none => exact iteT ⟨v, rfl, q H v (Same.refl H) an⟩
    | bool b => exact iteT ⟨v, rfl, q H v (Same.refl H) an⟩
    | int i => exact iteT ⟨v, rfl, q H v (Same.refl H) an⟩
    | str x => exact iteT ⟨v, rfl, q H v (Same.refl H) an⟩
    | list l => exact iteT ⟨v, rfl, q H v (Same.refl H) an⟩
    | dict l => exact iteT ⟨v, rfl, q H v (Same.refl H) an⟩
    | tuple l =>
    simp only [PyData.depth] at dep
    simp only [PyData.bulk] at blk
    have ll := bulk_len l
    cases an with
    | dct l => cases l
    | @tup ta xs _ hta al =>
    have xl := al.len
    refine iteF ⟨.ref ta, rfl, ta, rfl, ⟨_, .inl (.inl hta)⟩, fun D nD => ?_⟩
    have alB : AnAll (fun b => Av b ∨ b = D) H xs l := An.moreAll (fun b hb => by
      rcases hb with z | z
      · exact .inl z
      · rw [z]; exact .inr nD) l xs al
    refine lc_tup (K := K) (a := ta) (xs := xs) (fun j H3 => Same H H3 ∧ ∃ us, H3 D = some (.lst us) ∧ us.length = j ∧ AnAll (fun b => Av b ∨ b = D) H3 us ((l.take j).map lstD)) ⟨same_upd nD, [], upd_same, rfl, .nil⟩ (fun j H3 _ p => .inl (.inl (p.1 _ _ hta))) (fun j x H3 hx p => ?_) (fun H3 p => ?_)
    · obtain ⟨s3, us, hD, ul, ua⟩ := p
      obtain ⟨d, ed, ad⟩ := alB.get hx
      have dm := List.mem_of_getElem? ed
      have jl := (List.getElem?_eq_some_iff.mp hx).1
      have d1 := dep_mem dm
      have b1 := bulk_mem dm
      refine ⟨rfl, yes_if ⟨x, rfl, (fun b => Av b ∨ b = D), x, d, rfl, fun b hb z => ?_, ad.up (NoTb.same s3), by omega, by omega, fun H4 v4 s4 an4 => ?_⟩⟩
      · rcases hb with y | y
        · exact hav b y (s3.free z)
        · rw [y, hD] at z; cases z
      · have hD4 := s4 _ _ hD
        have nt : NoTb (fun b => Av b ∨ b = D) H4 (upd H4 D (.lst (us ++ [v4]))) := NoTb.put hD4 (.inr rfl)
        refine ⟨us, hD4, Nat.lt_of_le_of_lt (show us.length ≤ 200000 by omega) (by decide), same_put (s3.trans s4) nD, us ++ [v4], upd_same, by rw [List.length_append, ul]; rfl, ?_⟩
        rw [take_snoc ed, List.map_append]
        exact ((ua.up (NoTb.same s4)).up nt).append (.cons (an4.up nt) .nil)
    · obtain ⟨s3, us, hD, ul, ua⟩ := p
      rw [xl, List.take_length] at ua
      refine q H3 _ s3 ?_
      have ua := An.weakAll (Bv := Av) (fun b hb => .inl hb) _ _ ua
      show An Av H3 (.ref D) (.list (lstA l))
      rw [lstA_eq]
      exact .lst hD (fun z => hav D z nD) ua
theorem ok_ls {f : Addr} {fd : FuncData} (F : Fun K "_law_listed" "_law_listed" sLst f fd) (m1 : mg "isinstance" = none) (m2 : mg "tuple" = none) (g : mg "_law_listed" = some (.ref f)) (kp : PySem.W.keepIn K (.ref f) = true) (b : Binds K fd ["thing"] []) : ∀ n : Nat, FnOk P w K mg base CX0 (n + 1) f fd ["thing"] (spLsA n)
  | 0 => by
    refine ⟨fun vs H Q E h => ?_, fun A outer s H args us vs Q E _ _ _ _ h => ?_⟩
    · obtain ⟨Av, v, d, rfl, _⟩ := h
      rfl
    · obtain ⟨Av, v, d, rfl, _, _, dep, _⟩ := h
      exact absurd dep (Nat.not_lt_zero _)
  | n + 1 => ok_lsS F { m_isinstance := m1, m_tuple := m2, c__law_listed := ⟨_, _, ok_ls F m1 m2 g kp b n, g, kp, b⟩ }
end
end Rd

set_option Elab.async false
set_option linter.all false
set_option maxRecDepth 100000
set_option maxHeartbeats 4000000
namespace Rd
open PySem PySem.Spec PyProof.Rows L2 Dt TL
abbrev sBnt : Stmt := topS 31
abbrev nBnt : List Str := ["well", "riddle", "way", "some", "many", "hues", "wishes", "nine", "at"]
theorem scBnt : FnScope nBnt ["well", "riddle"] (defScope sBnt) := ⟨rfl, rfl, rfl, by decide +kernel, rfl, by decide +kernel, by decide +kernel⟩
def spBnA : Sp := fun vs H Q _ => ∃ (Av : Addr → Prop) (wl cl : Addr) (v : V) (d : PyData) (w : Nat), vs = [.ref wl, v] ∧ Wat Av wl cl H ∧ An Av H v d ∧ FX d 9 w ∧ w ≤ 20000 ∧
  ∀ H' v' d', Drawn wl cl H H' → An Av H' v' d' → FX d' 9 (6 * w + 6000) → Q v' H'
structure TxtBnt (P : Program) (w : World) (K : PySem.W.Frag) (mg : Str → Option Value) (base : Heap) : Prop where
  m_isinstance : mg "isinstance" = none
  m_tuple : mg "tuple" = none
  m_list : mg "list" = none
  m_len : mg "len" = none
  c__law_draw : Cal P w K mg base 1 "_law_draw" ["well", "many"] spDraw
  c__law_odd : Cal P w K mg base 2 "_law_odd" ["well", "high"] spOdA
  c__law_wish : Cal P w K mg base 2 "_law_wish" ["well", "many", "hues"] spWis
  c__law_is_riddle : Cal P w K mg base 3 "_law_is_riddle" ["thing"] spLirA
  c__law_bent_wish : Cal P w K mg base 3 "_law_bent_wish" ["well", "wish", "many", "hues"] spBwA
  c__law_listed : Cal P w K mg base 11 "_law_listed" ["thing"] (spLsA 10)
theorem len_bulk (d : PyData) : lenD d ≤ d.bulk := by
  cases d with
  | tuple l => simp only [PyData.bulk]; exact bulk_len l
  | _ => exact Nat.zero_le _
theorem shortW_of {d : PyData} (h : d.bulk ≤ 200000) : ShortW d := by
  cases d with
  | tuple l =>
    match l, h with
    | [p, r], h =>
      simp only [PyData.bulk, PyData.bulkAll] at h
      have a := len_bulk p
      have b := len_bulk r
      exact ⟨by omega, by omega⟩
    | [], _ => exact trivial
    | [_], _ => exact trivial
    | _ :: _ :: _ :: _, _ => exact trivial
  | _ => exact trivial
theorem shortR_of {d : PyData} (h : d.bulk ≤ 200000) : ShortR d := by
  cases d with
  | tuple l =>
    match l, h with
    | [a, b, .tuple l], h =>
      simp only [PyData.bulk, PyData.bulkAll] at h
      intro x hx
      have := bulk_mem hx
      exact shortW_of (by omega)
    | [], _ => exact trivial
    | [_], _ => exact trivial
    | [_, _], _ => exact trivial
    | [_, _, .none], _ => exact trivial
    | [_, _, .bool _], _ => exact trivial
    | [_, _, .int _], _ => exact trivial
    | [_, _, .str _], _ => exact trivial
    | [_, _, .list _], _ => exact trivial
    | [_, _, .dict _], _ => exact trivial
    | _ :: _ :: a :: _ :: _, _ => cases a <;> exact trivial
  | _ => exact trivial
/-- what a riddle's data are -/
theorem ird_shape {d : PyData} (h : irdD d = true) : ∃ (m n : Int) (l : List PyData), d = .tuple [.int m, .int n, .tuple l] ∧ 1 ≤ m ∧ m ≤ 6 ∧ 2 ≤ n ∧ n ≤ 4 ∧ ∀ x ∈ l, wshD m n x = true := by
  unfold irdD at h
  split at h
  · rename_i dm dh l
    simp only [Bool.and_eq_true] at h
    obtain ⟨⟨h1, _⟩, h3⟩ := h
    cases dm with
    | int m =>
      cases dh with
      | int n =>
        have h1 : sizeOk m n = true := h1
        unfold sizeOk at h1
        simp only [Bool.and_eq_true, decide_eq_true_eq] at h1
        exact ⟨m, n, l, rfl, h1.1.1.1, h1.1.1.2, h1.1.2.1, h1.1.2.2, List.all_eq_true.mp h3⟩
      | _ => exact nomatch h1
    | _ => exact nomatch h1
  · cases h
theorem wsh_shape {m n : Int} {d : PyData} (h : wshD m n d = true) : ∃ lp lr, WshS d lp lr := by
  unfold wshD at h
  split at h
  · rename_i dp dr
    simp only [Bool.and_eq_true] at h
    obtain ⟨h1, h2⟩ := h
    cases dp with
    | tuple lp =>
      cases dr with
      | tuple lr =>
        have h1 : (decide (1 ≤ lp.length ∧ lp.length ≤ 3) && _ && _) = true := h1
        have h2 : (decide (lr.length ≠ 0) && lr.all (husD lp.length n) && _) = true := h2
        simp only [Bool.and_eq_true, decide_eq_true_eq] at h1 h2
        have p1 := h1.1.1.1
        refine ⟨lp, lr, rfl, p1, by have := h2.1.1; omega, fun x hx => ?_⟩
        have z := List.all_eq_true.mp h2.1.2 x hx
        cases x with
        | tuple r =>
          have z : (decide (r.length = lp.length) && _) = true := z
          simp only [Bool.and_eq_true, decide_eq_true_eq] at z
          exact ⟨r, rfl, by omega⟩
        | _ => exact nomatch z
      | _ => exact nomatch h2
    | _ => exact nomatch h1
  · cases h
theorem good_shape {many hues : Int} {wd : WD} (g : Good many hues wd) : WshS (wishD wd) (wd.1.map .int) (wd.2.map rowD) := by
  have g1 := g.one
  refine ⟨rfl, by rw [List.length_map]; exact g1, by rw [List.length_map]; exact g.some_, fun x hx => ?_⟩
  obtain ⟨r, hr, rfl⟩ := List.mem_map.mp hx
  exact ⟨r.map .int, rfl, by rw [List.length_map, (g.row r hr).1]; exact g1⟩
section
variable {Av : Addr → Prop} {wl cl : Addr} {σ : L2.St} {H0 : Hp}
abbrev Fa : PyData → Prop := fun d => FX d 2 6
abbrev Fb : PyData → Prop := fun d => FX d 4 100
theorem tep_tA {t : TA} {n : Nat} (W : Wat Av wl cl H0) (b : TAp Av wl cl t σ H0 n Fa) (l : n ≤ 10) : TEp Av wl cl (tTup t) σ H0 Fb := tep_tup W b (by omega) fun ds e p => (FX.tuple (FXA.all p)).mono (by decide) (by rw [e]; omega)
theorem tep_lA {t : TA} {n : Nat} (W : Wat Av wl cl H0) (b : TAp Av wl cl t σ H0 n Fa) (l : n ≤ 10) : TEp Av wl cl (tLst t) σ H0 Fb := (tep_lst W b (by omega)).mono fun d h => by
  obtain ⟨ds, rfl, e, p⟩ := h
  exact (FX.list (FXA.all p)).mono (by decide) (by rw [e]; omega)
theorem tep_e {n w : Nat} (W : Wat Av wl cl H0) : TEp Av wl cl (tTup tNil) σ H0 (fun d => FX d (n + 1) w) := tep_tup W (tap_nil (P := fun d => FX d 3 0) W) (by decide) fun ds l _ => by rw [List.length_eq_zero_iff.mp l]; exact (FX.tuple (FXA.nil 0)).mono (by omega) (by omega)
theorem tep_le {n w : Nat} (W : Wat Av wl cl H0) : TEp Av wl cl (tLst tNil) σ H0 (fun d => FX d (n + 1) w) := (tep_lst W (tap_nil (P := fun d => FX d 3 0) W) (by decide)).mono fun d h => by obtain ⟨ds, rfl, l, _⟩ := h; rw [List.length_eq_zero_iff.mp l]; exact (FX.list (FXA.nil 0)).mono (by omega) (by omega)
theorem tep_2 {i : Int} {n w : Nat} (W : Wat Av wl cl H0) (a : i.natAbs < 10 ^ 20) : TEp Av wl cl (tC (.int i)) σ H0 (fun d => FX d n w) := tep_int W ((FX.int (by omega)).mono (Nat.zero_le _) (Nat.zero_le _))
theorem tep_s {z : Str} {n w : Nat} (W : Wat Av wl cl H0) (h : z.cps.size ≤ w) (c : ∀ x ∈ z.cps.toList, x < 1114112) : TEp Av wl cl (tC (.str z)) σ H0 (fun d => FX d n w) := tep_str W ((FX.str h c).mono (Nat.zero_le _) (Nat.le_refl _))
theorem tep_n {n w : Nat} (W : Wat Av wl cl H0) : TEp Av wl cl (tC .non) σ H0 (fun d => FX d n w) := tep_non W (FX.non.mono (Nat.zero_le _) (Nat.zero_le _))
theorem tep_b {b : Bool} {n w : Nat} (W : Wat Av wl cl H0) : TEp Av wl cl (tC (.bl b)) σ H0 (fun d => FX d n w) := tep_bl W ((FX.bl b).mono (Nat.zero_le _) (Nat.zero_le _))
theorem tep_D0 {n w : Nat} (W : Wat Av wl cl H0) : TEp Av wl cl tDNewK σ H0 (fun d => FX d (n + 2) w) := tep_d0 W (FX.d0.mono (by omega) (Nat.zero_le _))
theorem tep_D1 {n w : Nat} (W : Wat Av wl cl H0) (h : 2 ≤ w) : TEp Av wl cl (tDisp [(tC (.int 0), tC (.int 0))]) σ H0 (fun d => FX d (n + 3) w) := tep_d1 W (FX.d1.mono (by omega) h)
/-- c + a draw -/
theorem tep_cd {c m : Int} {n w : Nat} (W : Wat Av wl cl H0) (hw : σ[0]? = some (some (.ref wl))) (c0 : 0 ≤ c) (c1 : c ≤ 100) (m1 : 1 ≤ m) (m2 : m ≤ 100) : TEp Av wl cl (tOp (rI0 fun i j => .int (i + j)) (tC (.int c)) (tCall spDraw [] E0 (tCons (tVar 0) (tCons (tC (.int m)) tNil)))) σ H0 (fun d => FX d n w) := fun H Q D q =>
  ⟨.ref wl, hw, wl, cl, m, rfl, D.2, m1, log_small (by omega) (by omega), fun H5 d5 D5 c0 c1 => ⟨c, d5, rfl, rfl, q _ _ (.int _) D5 (.int _) ((FX.int (by omega)).mono (Nat.zero_le _) (Nat.zero_le _))⟩⟩
/-- a piece of a tuple -/
theorem tep_piece {K : PySem.W.Frag} {i : Nat} {a : Addr} {ds : List PyData} {lo hi : TO} {l h : Option Int} {ys : List V → List V} {es : List PyData} {P : PyData → Prop} (W : Wat Av wl cl H0) (e : σ[i]? = some (some (.ref a))) (an : An Av H0 (.ref a) (.tuple ds))
    (lo_ : ∀ H (R : Option Int → Hp → Prop), R l H → lo σ H R) (hi_ : ∀ H (R : Option Int → Hp → Prop), R h H → hi σ H R) (c : ∀ xs : List V, cutV xs l h = ys xs) (al : ∀ {H : Hp} {xs : List V}, AnAll Av H xs ds → AnAll Av H (ys xs) es) (p : P (.tuple es)) : TEp Av wl cl (tSl (rSlA K) (tVar i) lo hi) σ H0 P := fun H Q D q => by
  have an2 := an.up (W.noTb D)
  cases an2 with
  | dct l => cases l
  | @tup _ xs _ ha ax =>
    refine ⟨.ref a, e, lo_ _ _ (hi_ _ _ (slA_an ha (c xs) fun p' H' s e' => ?_))⟩
    exact q H' (.ref p') (.tuple es) (Drawn.of (W.dr D).w s) (.tup e' (al (ax.up (NoTb.same s)))) p
def PT (n u L : Nat) : PyData → Prop := fun d => ∃ l, d = .tuple l ∧ FXA l n u ∧ l.length ≤ L
theorem tep_catT {K : PySem.W.Frag} {ta tb : TE} {n u v L M : Nat} (W : Wat Av wl cl H0) (a : TEp Av wl cl ta σ H0 (PT n u L)) (b : TEp Av wl cl tb σ H0 (PT n v M)) (few : L + M ≤ 200002) : TEp Av wl cl (tOp (rCatA K) ta tb) σ H0 (PT n (u + v) (L + M)) := fun H Q D q => by
  refine a H _ D fun H1 x d D1 an p => b H1 _ (D.trans D1) fun H2 y e D2 bn r => ?_
  have W1 := W.dr (D.trans D1)
  obtain ⟨l, rfl, fl, ll⟩ := p
  obtain ⟨m, rfl, fm, lm⟩ := r
  have an := an.up (W1.noTb D2)
  cases an with
  | dct l => cases l
  | @tup a1 xs _ hx ax =>
    cases bn with
    | dct l => cases l
    | @tup b1 ys _ hy ay =>
      have e1 := ax.len
      have e2 := ay.len
      exact catA_an hx hy (by omega) fun p' H' s e' => q H' (.ref p') (.tuple (l ++ m)) ((D1.trans D2).same s) (.tup e' ((ax.append ay).up (NoTb.same s))) ⟨_, rfl, fl.append fm, by rw [List.length_append]; omega⟩
/-- a tuple's thing at a place -/
theorem tep_ixT {K : PySem.W.Frag} {i j : Nat} {a : Addr} {ds : List PyData} {at_ : Nat} {P : PyData → Prop} (W : Wat Av wl cl H0) (e : σ[i]? = some (some (.ref a))) (ej : σ[j]? = some (some (.int at_))) (an : An Av H0 (.ref a) (.tuple ds)) (h : at_ < ds.length) (p : ∀ d ∈ ds, P d) : TEp Av wl cl (tOp (rIxT K) (tVar i) (tVar j)) σ H0 P := fun H Q D q => by
  have an2 := an.up (W.noTb D)
  cases an2 with
  | dct l => cases l
  | @tup _ xs _ ha ax =>
    have lx := ax.len
    obtain ⟨x, ex⟩ : ∃ x, xs[at_]? = some x := ⟨_, List.getElem?_eq_getElem (by omega)⟩
    obtain ⟨d, ed, ad⟩ := ax.get ex
    exact ⟨.ref a, e, .int at_, ej, a, xs, at_, x, rfl, rfl, .inl (.inl ha), atI_nat ex, q H x d (Drawn.refl (W.dr D).w) ad (p d (List.mem_of_getElem? ed))⟩
theorem tep_wis {m n : Int} {i j : Nat} (W : Wat Av wl cl H0) (hw : σ[0]? = some (some (.ref wl))) (hm : σ[i]? = some (some (.int m))) (hn : σ[j]? = some (some (.int n))) (m1 : 1 ≤ m) (m6 : m ≤ 6) (n2 : 2 ≤ n) (n4 : n ≤ 4) : TEp Av wl cl (tCall spWis [] E0 (tCons (tVar 0) (tCons (tVar i) (tCons (tVar j) tNil)))) σ H0 (fun d => FX d 3 270 ∧ ∃ lp lr, WshS d lp lr) := fun H Q D q =>
  ⟨.ref wl, hw, .int m, hm, .int n, hn, wl, cl, m, n, rfl, D.2, m1, m6, n2, n4, fun H' wa wd D' isw gw nt => q H' _ _ D' (an_wishD isw) ⟨fx_wish m6 n4 gw, _, _, good_shape gw⟩⟩
theorem tep_bw {te : TE} {m n : Int} {i j w : Nat} (W : Wat Av wl cl H0) (hw : σ[0]? = some (some (.ref wl))) (hm : σ[i]? = some (some (.int m))) (hn : σ[j]? = some (some (.int n))) (m1 : 1 ≤ m) (m6 : m ≤ 6) (n2 : 2 ≤ n) (n4 : n ≤ 4) (w3 : w ≤ 30000) (a : TEp Av wl cl te σ H0 (fun d => FX d 7 w ∧ ∃ lp lr, WshS d lp lr)) : TEp Av wl cl (tCall spBwA [] E0 (tCons (tVar 0) (tCons te (tCons (tVar i) (tCons (tVar j) tNil))))) σ H0 (fun d => FX d 7 (4 * w + 300)) := fun H Q D q =>
  ⟨.ref wl, hw, a _ _ D fun H1 v d D1 an p => ⟨.int m, hm, .int n, hn, by
    obtain ⟨f, lp, lr, sh⟩ := p
    exact ⟨Av, wl, cl, v, d, lp, lr, w, m, n, rfl, W.dr (D.trans D1), an, sh, f, w3, m1, m6, n2, n4, fun H' v' d' D' an' f' => q H' v' d' (D1.trans D') an' f'⟩⟩⟩
end
section
variable {P : Program} {w : World} {K : PySem.W.Frag} {mg : Str → Option Value} {base : Heap}
set_option maxHeartbeats 32000000 in
theorem ok_bnA {f : Addr} {fd : FuncData} {k : Nat} (F : Fun K "_law_bent" "_law_bent" sBnt f fd) (T : TxtBnt P w K mg base) : FnOk P w K mg base CX0 (k + 12) f fd ["well", "riddle"] spBnA := by
  refine F.ok scBnt (fun vs H Q E h => ?_) (fun cdv A outer s H vs Q E hr h => ?_)
  · obtain ⟨Av, wl, cl, v, d, w, rfl, _⟩ := h
    rfl
  · obtain ⟨Av, wl, cl, v, d, w, rfl, W, an, fx, w2, q⟩ := h
    have hr1 : Room 1 (A.deeper (envOfC (Str.ofString "_law_bent") (defScope sBnt) s.heap.objs.size f cdv)) := hr.mono (by omega)
    refine ⟨_, (pss_cons (ps_set (i := 2) scBnt.nd rfl (Or.inl rfl) (pe_cal T.c__law_draw (hr.mono (by omega)) (by rfl) (pa_cons (pv 0) (pa_cons pe_int pa_nil))))
  (C8.pss_cut (ps_if (PW.pt (pw_and (pt_not (pt_val (pe_cal T.c__law_is_riddle (hr.mono (by omega)) (by rfl) (pa_cons (pv 1) pa_nil)))) (pw_and (pt_val (pe_callB call_isi (by rfl) T.m_isinstance (by decide +kernel) (pa_cons (pv 1) (pa_cons (pe_bltn (v := .ty "tuple") (by rfl) T.m_tuple (by decide +kernel) rfl) pa_nil)))) (pw_and1 (pt_cmpR op_lt (pv 2) pe_int (nomark _))))))
  (pss_one (ps_ret (pe_callTy call_list_of (by rfl) T.m_list (by decide +kernel) (pa_cons (pv 1) pa_nil)))) pss_nil)
  (C8.pss_cut (ps_if (PW.pt (pw_or (pt_not (pt_val (pe_cal T.c__law_is_riddle (hr.mono (by omega)) (by rfl) (pa_cons (pv 1) pa_nil)))) (pw_or1 (pt_cmpR op_eq (pv 2) pe_int (nomark _)))))
  (pss_cons (ps_set (i := 3) scBnt.nd rfl (Or.inl rfl) (pe_lst (pa_cons pe_non (pa_cons pe_bl (pa_cons pe_int (pa_cons pe_str (pa_cons (pe_tup pa_nil) (pa_cons (pe_lst pa_nil) (pa_cons pe_dnewK (pa_cons (pe_tup (pa_cons pe_int (pa_cons pe_int pa_nil))) (pa_cons (pe_tup (pa_cons pe_int (pa_cons pe_int (pa_cons (pe_lst pa_nil) pa_nil)))) (pa_cons (pe_lst (pa_cons pe_int (pa_cons pe_int (pa_cons (pe_tup pa_nil) pa_nil)))) (pa_cons (pe_tup (pa_cons pe_int (pa_cons pe_int (pa_cons (pe_tup pa_nil) (pa_cons (pe_tup pa_nil) pa_nil))))) (pa_cons (pe_tup (pa_cons pe_int (pa_cons pe_int (pa_cons pe_non pa_nil)))) pa_nil))))))))))))))
  (pss_one (ps_ret (pe_ix ix_list (pe_op op_cat (pv 3) (pe_lst (pa_cons (pe_tup (pa_cons pe_int (pa_cons pe_int (pa_cons pe_str pa_nil)))) (pa_cons (pe_tup (pa_cons pe_int (pa_cons pe_int (pa_cons pe_dnewK pa_nil)))) (pa_cons (pe_tup (pa_cons pe_int (pa_cons pe_int (pa_cons pe_int pa_nil)))) (pa_cons pe_str (pa_cons (pe_disp (pps_cons pe_int pe_int pps_nil) (by rfl) (by rfl) (fun z => by cases z) (by decide)) (pa_cons (pe_tup (pa_cons (pe_tup pa_nil) (pa_cons (pe_tup pa_nil) (pa_cons (pe_tup pa_nil) pa_nil)))) pa_nil)))))))) (pe_cal T.c__law_draw (hr.mono (by omega)) (by rfl) (pa_cons (pv 0) (pa_cons pe_int pa_nil))) (fun _ _ => rfl))))) pss_nil)
  (pss_cons (ps_asg (pv 1) (pg_tup rfl (pgs_cons (pg_name (i := 4) scBnt.nd rfl (Or.inl rfl)) (pgs_cons (pg_name (i := 5) scBnt.nd rfl (Or.inl rfl)) (pgs_cons (pg_name (i := 6) scBnt.nd rfl (Or.inl rfl)) pgs_nil)))))
  (C8.pss_cut (ps_if (PW.pt (pw_and (pt_cmpR op_eq (pv 2) pe_int (nomark _)) (pw_and1 (pt_cmpR (op_neT0 hr.units) (pv 6) (pe_tup pa_nil) (nomark _)))))
  (pss_one (ps_ret (pe_cal T.c__law_listed (hr.mono (by omega)) (by rfl) (pa_cons (pv 1) pa_nil)))) pss_nil)
  (pss_cons (ps_if (pt_cmpR op_eq (pv 2) pe_int (nomark _))
  (pss_one (ps_ret (pe_tup (pa_cons (pe_ix ix_list (pe_lst (pa_cons (pe_cal T.c__law_odd (hr.mono (by omega)) (by rfl) (pa_cons (pv 0) (pa_cons pe_int pa_nil))) (pa_cons pe_int (pa_cons (pe_op op_add pe_int (pe_cal T.c__law_draw (hr.mono (by omega)) (by rfl) (pa_cons (pv 0) (pa_cons pe_int pa_nil)))) pa_nil)))) (pe_cal T.c__law_draw (hr.mono (by omega)) (by rfl) (pa_cons (pv 0) (pa_cons pe_int pa_nil))) (fun _ _ => rfl)) (pa_cons (pv 5) (pa_cons (pv 6) pa_nil)))))) pss_nil)
  (pss_cons (ps_if (pt_cmpR op_eq (pv 2) pe_int (nomark _))
  (pss_one (ps_ret (pe_tup (pa_cons (pv 4) (pa_cons (pe_ix ix_list (pe_lst (pa_cons (pe_cal T.c__law_odd (hr.mono (by omega)) (by rfl) (pa_cons (pv 0) (pa_cons pe_int pa_nil))) (pa_cons pe_int (pa_cons (pe_op op_add pe_int (pe_cal T.c__law_draw (hr.mono (by omega)) (by rfl) (pa_cons (pv 0) (pa_cons pe_int pa_nil)))) pa_nil)))) (pe_cal T.c__law_draw (hr.mono (by omega)) (by rfl) (pa_cons (pv 0) (pa_cons pe_int pa_nil))) (fun _ _ => rfl)) (pa_cons (pv 6) pa_nil)))))) pss_nil)
  (pss_cons (ps_if (pt_cmpR op_eq (pv 2) pe_int (nomark _))
  (pss_cons (ps_set (i := 7) scBnt.nd rfl (Or.inl rfl) (pe_op op_catA (pv 6) (pe_op op_repU (pe_tup (pa_cons (pe_cal T.c__law_wish (hr.mono (by omega)) (by rfl) (pa_cons (pv 0) (pa_cons (pv 4) (pa_cons (pv 5) pa_nil)))) pa_nil)) pe_int)))
  (pss_cons (ps_set (i := 3) scBnt.nd rfl (Or.inl rfl) (pe_lst (pa_cons (pe_callTy call_list_of (by rfl) T.m_list (by decide +kernel) (pa_cons (pv 6) pa_nil)) (pa_cons (pe_slice sl_tupA (pv 7) po_none (po_some pe_int)) (pa_cons (pv 7) (pa_cons (pe_slice sl_tupA (pv 6) po_none (po_some pe_int)) (pa_cons pe_str (pa_cons pe_dnewK (pa_cons pe_non (pa_cons pe_int (pa_cons pe_bl (pa_cons pe_str (pa_cons (pe_tup (pa_cons pe_non pa_nil)) (pa_cons (pe_tup (pa_cons (pe_tup pa_nil) pa_nil)) (pa_cons (pe_tup (pa_cons pe_str pa_nil)) (pa_cons (pe_disp (pps_cons pe_int pe_int pps_nil) (by rfl) (by rfl) (fun z => by cases z) (by decide)) pa_nil))))))))))))))))
  (pss_one (ps_ret (pe_tup (pa_cons (pv 4) (pa_cons (pv 5) (pa_cons (pe_ix ix_list (pv 3) (pe_cal T.c__law_draw (hr.mono (by omega)) (by rfl) (pa_cons (pv 0) (pa_cons pe_int pa_nil))) (fun _ _ => rfl)) pa_nil)))))))) pss_nil)
  (pss_cons (ps_if (pt_cmpR (op_eqT0 hr.units) (pv 6) (pe_tup pa_nil) (nomark _))
  (pss_one (ps_ret (pe_tup (pa_cons (pv 4) (pa_cons (pv 5) (pa_cons (pe_tup (pa_cons (pe_cal T.c__law_bent_wish (hr.mono (by omega)) (by rfl) (pa_cons (pv 0) (pa_cons (pe_cal T.c__law_wish (hr.mono (by omega)) (by rfl) (pa_cons (pv 0) (pa_cons (pv 4) (pa_cons (pv 5) pa_nil)))) (pa_cons (pv 4) (pa_cons (pv 5) pa_nil))))) pa_nil)) pa_nil)))))) pss_nil)
  (pss_cons (ps_set (i := 8) scBnt.nd rfl (Or.inl rfl) (pe_cal T.c__law_draw (hr.mono (by omega)) (by rfl) (pa_cons (pv 0) (pa_cons (pe_callB call_len_seq (by rfl) T.m_len (by decide +kernel) (pa_cons (pv 6) pa_nil)) pa_nil))))
  (pss_cons (ps_if (pt_cmpR op_eq (pv 2) pe_int (nomark _))
  (pss_one (ps_ret (pe_tup (pa_cons (pv 4) (pa_cons (pv 5) (pa_cons (pe_op op_catA (pe_slice sl_tupA (pv 6) po_none (po_some (pv 8))) (pe_slice sl_tupA (pv 6) (po_some (pe_op op_add (pv 8) pe_int)) po_none)) pa_nil)))))) pss_nil)
  (pss_cons (ps_if (pt_cmpR op_eq (pv 2) pe_int (nomark _))
  (pss_one (ps_ret (pe_tup (pa_cons (pv 4) (pa_cons (pv 5) (pa_cons (pe_op op_catA (pe_slice sl_tupA (pv 6) (po_some (pv 8)) po_none) (pe_slice sl_tupA (pv 6) po_none (po_some (pe_op op_add (pv 8) pe_int)))) pa_nil)))))) pss_nil)
  (pss_one (ps_ret (pe_tup (pa_cons (pv 4) (pa_cons (pv 5) (pa_cons (pe_op op_catA (pe_op op_catA (pe_slice sl_tupA (pv 6) po_none (po_some (pv 8))) (pe_tup (pa_cons (pe_cal T.c__law_bent_wish (hr.mono (by omega)) (by rfl) (pa_cons (pv 0) (pa_cons (pe_ix ix_tup (pv 6) (pv 8) (fun _ _ => rfl)) (pa_cons (pv 4) (pa_cons (pv 5) pa_nil))))) pa_nil))) (pe_slice sl_tupA (pv 6) (po_some (pe_op op_add (pv 8) pe_int)) po_none)) pa_nil)))))))))))))))))), ?_⟩
    have blk := fx.blk
    have shr : ShortR d := shortR_of (by omega)
    have fin : ∀ H1, Drawn wl cl H H1 → ∀ H' v d, Drawn wl cl H1 H' → An Av H' v d → FX d 9 (6 * w + 6000) → Q v H' := fun H1 D1 H' v d D a b => q H' v d (D1.trans D) a b
    refine ⟨.ref wl, rfl, wl, cl, 10, rfl, W.w, by decide, by decide, fun H1 way D1 w0 w1 => ?_⟩
    have W1 := W.dr D1
    have an1 := an.up (W.noTb D1)
    -- one of the others
    have other : ∀ {H3 : Hp} (W3 : Wat Av wl cl H3) (D3 : Drawn wl cl H H3) {D : Ends}, D.rt = Q → (tSeq (tAsg (tLst (tCons (tC .non) <| tCons (tC (.bl true)) <| tCons (tC (.int 2)) <| tCons (tC (.str (Str.ofString "riddle"))) <| tCons (tTup tNil) <| tCons (tLst tNil) <| tCons tDNewK <| tCons (tTup (tCons (tC (.int 2)) (tCons (tC (.int 2)) tNil))) <| tCons (tTup (tCons (tC (.int 2)) (tCons (tC (.int 2)) (tCons (tLst tNil) tNil)))) <| tCons (tLst (tCons (tC (.int 2)) (tCons (tC (.int 2)) (tCons (tTup tNil) tNil)))) <| tCons (tTup (tCons (tC (.int 2)) (tCons (tC (.int 2)) (tCons (tTup tNil) (tCons (tTup tNil) tNil))))) <| tCons (tTup (tCons (tC (.int 2)) (tCons (tC (.int 2)) (tCons (tC .non) tNil)))) tNil)) (gName 3))
        (tRet (tOp (rIxL K) (tOp rCat (tVar 3) (tLst (tCons (tTup (tCons (tC (.int 2)) (tCons (tC (.int 2)) (tCons (tC (.str (Str.ofString ""))) tNil)))) <| tCons (tTup (tCons (tC (.int 2)) (tCons (tC (.int 2)) (tCons tDNewK tNil)))) <| tCons (tTup (tCons (tC (.int 2)) (tCons (tC (.int 2)) (tCons (tC (.int 0)) tNil)))) <| tCons (tC (.str (Str.ofString ""))) <| tCons (tDisp [(tC (.int 0), tC (.int 0))]) <| tCons (tTup (tCons (tTup tNil) (tCons (tTup tNil) (tCons (tTup tNil) tNil)))) tNil))) (tCall spDraw [] E0 (tCons (tVar 0) (tCons (tC (.int 18)) tNil)))))) D [some (.ref wl), some v, some (.int way), none, none, none, none, none, none] H3 := fun {H3} W3 D3 {D} eD => by
      refine seqZ (TEp.run (P := IsL 12 Fb) (tep_lst W3 (tap_cons W3 (tep_n W3) <| tap_cons W3 (tep_b W3) <| tap_cons W3 (tep_2 W3 (by decide)) <| tap_cons W3 (tep_s W3 (by decide +kernel) (by decide +kernel)) <| tap_cons W3 (tep_e W3) <| tap_cons W3 (tep_le W3) <| tap_cons W3 (tep_D0 W3) <| tap_cons W3 (tep_tA W3 (tap_cons W3 (tep_2 W3 (by decide)) <| tap_cons W3 (tep_2 W3 (by decide)) <| tap_nil W3) (by decide)) <| tap_cons W3 (tep_tA W3 (tap_cons W3 (tep_2 W3 (by decide)) <| tap_cons W3 (tep_2 W3 (by decide)) <| tap_cons W3 (tep_le W3) <| tap_nil W3) (by decide)) <| tap_cons W3 (tep_lA W3 (tap_cons W3 (tep_2 W3 (by decide)) <| tap_cons W3 (tep_2 W3 (by decide)) <| tap_cons W3 (tep_e W3) <| tap_nil W3) (by decide)) <| tap_cons W3 (tep_tA W3 (tap_cons W3 (tep_2 W3 (by decide)) <| tap_cons W3 (tep_2 W3 (by decide)) <| tap_cons W3 (tep_e W3) <| tap_cons W3 (tep_e W3) <| tap_nil W3) (by decide)) <| tap_cons W3 (tep_tA W3 (tap_cons W3 (tep_2 W3 (by decide)) <| tap_cons W3 (tep_2 W3 (by decide)) <| tap_cons W3 (tep_n W3) <| tap_nil W3) (by decide)) <| tap_nil W3) (by decide)) W3.w fun H4 v4 d4 D4 an4 p4 => ?_)
      have W4 := W3.dr D4
      refine retZ (TEp.run (P := Fb) (tep_pick W4 rfl (tep_cat (n := 12) (m := 6) W4 (tep_var W4 rfl an4 p4) (tep_lst W4 (tap_cons W4 (tep_tA W4 (tap_cons W4 (tep_2 W4 (by decide)) <| tap_cons W4 (tep_2 W4 (by decide)) <| tap_cons W4 (tep_s W4 (by decide +kernel) (by decide +kernel)) <| tap_nil W4) (by decide)) <| tap_cons W4 (tep_tA W4 (tap_cons W4 (tep_2 W4 (by decide)) <| tap_cons W4 (tep_2 W4 (by decide)) <| tap_cons W4 (tep_D0 W4) <| tap_nil W4) (by decide)) <| tap_cons W4 (tep_tA W4 (tap_cons W4 (tep_2 W4 (by decide)) <| tap_cons W4 (tep_2 W4 (by decide)) <| tap_cons W4 (tep_2 W4 (by decide)) <| tap_nil W4) (by decide)) <| tap_cons W4 (tep_s W4 (by decide +kernel) (by decide +kernel)) <| tap_cons W4 (tep_D1 W4 (by decide)) <| tap_cons W4 (tep_tA W4 (tap_cons W4 (tep_e W4) <| tap_cons W4 (tep_e W4) <| tap_cons W4 (tep_e W4) <| tap_nil W4) (by decide)) <| tap_nil W4) (by decide)) (by decide)) rfl (by decide) (by decide)) W4.w fun H' v d D' an' f' => ?_)
      rw [eD]
      exact fin _ (D3.trans D4) _ _ _ D' an' (f'.mono (by decide) (by omega))
    refine ⟨fun σ H' => Drawn wl cl H H' ∧ σ = [some (.ref wl), some v, some (.int way), none, none, none, none, none, none], ?_, ?_⟩
    · refine ⟨v, rfl, v, d, rfl, an1.any, shr, fun H2 s2 => ⟨_, rfl, ?_⟩⟩
      have D2 := D1.same s2
      have W2 := W.dr D2
      have an2 := an.up (W.noTb D2)
      cases hd : irdD d with
      | false =>
        refine iteT ⟨v, rfl, v, .ty "tuple", _, .type "tuple", _, rfl, .ty _, an2.ty, kit_ty (kit_self (by decide)), _, rfl, ?_⟩
        cases d with
        | tuple l =>
          cases an2 with
          | dct l => cases l
          | @tup a xs _ ha al =>
            refine iteT ⟨.int way, rfl, way, 5, rfl, rfl, _, rfl, ite2 (fun e => ?_) (fun e => ?_)⟩
            · refine retZ (TEp.run (P := fun d => FX d 9 (6 * w + 6000)) (tep_listOf W2 rfl (.tup ha al) ?_) W2.w (fin _ D2))
              exact (FX.list (FX.tuple1 fx)).mono (Nat.le_refl _) (by omega)
            · exact ⟨D2, rfl⟩
        | none => exact iteF (iteF ⟨D2, rfl⟩)
        | bool b => exact iteF (iteF ⟨D2, rfl⟩)
        | int i => exact iteF (iteF ⟨D2, rfl⟩)
        | str x => exact iteF (iteF ⟨D2, rfl⟩)
        | list l => exact iteF (iteF ⟨D2, rfl⟩)
        | dict l => exact iteF (iteF ⟨D2, rfl⟩)
      | true => exact iteF (iteF ⟨D2, rfl⟩)
    rintro σ H3 ⟨D3, rfl⟩
    have W3 := W.dr D3
    have an3 := an.up (W.noTb D3)
    refine ⟨fun σ H' => Drawn wl cl H H' ∧ irdD d = true ∧ way ≠ 0 ∧ σ = [some (.ref wl), some v, some (.int way), none, none, none, none, none, none], ?_, ?_⟩
    · refine ⟨v, rfl, v, d, rfl, an3.any, shr, fun H4 s4 => ⟨_, rfl, ?_⟩⟩
      have D4 := D3.same s4
      cases hd : irdD d with
      | false => exact iteT (iteT (other (W.dr D4) D4 rfl))
      | true =>
        refine iteF ⟨.int way, rfl, rfl, _, rfl, ite2 (fun e => ?_) (fun e => ?_)⟩
        · exact other (W.dr D4) D4 rfl
        · exact ⟨D4, rfl, by simpa using e, rfl⟩
    rintro σ H4 ⟨D4, hd, way0, rfl⟩
    have W4 := W.dr D4
    have an4 := an.up (W.noTb D4)
    obtain ⟨m, n, l, ed, m1, m6, n2, n4, wsh⟩ := ird_shape hd
    subst ed
    have dfx : FX (lstD (.tuple [.int m, .int n, .tuple l])) 9 w := fx.lstd
    have dep := fx.dep
    obtain ⟨fm, fz, b1⟩ := (FX.tuple1 fx).un
    obtain ⟨fn, fz2, b2⟩ := fz.un
    obtain ⟨fl, _, b3⟩ := fz2.un
    clear fz fz2
    generalize ewl : PyData.bulk (.tuple l) = wl' at fl b3
    have b4 : wl' + 3 ≤ w := by omega
    have fll : FXA l 7 wl' := FX.tuple1 fl
    have lll := fll.len
    cases an4 with
    | dct l => cases l
    | @tup ra xs0 _ hra al0 =>
    cases al0 with
    | cons am al0 =>
    cases al0 with
    | cons an0 al0 =>
    cases al0 with
    | cons al al0 =>
    cases al0
    cases am with
    | dct l => cases l
    | int =>
    cases an0 with
    | dct l => cases l
    | int =>
    cases al with
    | dct l => cases l
    | @tup wt ws _ hwt al =>
    have wsl := al.len
    have anr : An Av H4 (.ref ra) (.tuple [.int m, .int n, .tuple l]) := .tup hra (.cons (.int _) (.cons (.int _) (.cons (.tup hwt al) .nil)))
    have anw : An Av H4 (.ref wt) (.tuple l) := .tup hwt al
    refine ⟨.ref ra, rfl, ra, _, rfl, .inl (.inl hra), rfl, .int m, [.int n, .ref wt], rfl, .int n, [.ref wt], rfl, .ref wt, [], rfl, rfl, ?_⟩
    refine ⟨fun σ H' => Same H4 H' ∧ σ = [some (.ref wl), some (.ref ra), some (.int way), none, some (.int m), some (.int n), some (.ref wt), none, none], ?_, ?_⟩
    · refine ⟨.int way, rfl, rfl, _, rfl, ite2 (fun e => ?_) (fun e => ?_)⟩
      · refine ⟨.ref wt, rfl, (by show 0 ≤ sizeLine; decide), fun e0 ne0 => ?_⟩
        have s0 := same_upd (o := .tup []) ne0
        refine ⟨wt, e0, ws, rfl, rfl, .inl (.inl (s0 _ _ hwt)), .inl (.inl upd_same), _, rfl, ite2 (fun e => ?_) (fun e => ?_)⟩
        · refine ⟨.ref ra, rfl, Av, .ref ra, _, rfl, (W4.same s0).av, anr.up (NoTb.same s0), by omega, by omega, fun H' v' s' an' => fin _ (D4.same s0) _ _ _ (Drawn.of (W4.same s0).w s') an' (dfx.mono (Nat.le_refl _) (by omega))⟩
        · exact ⟨s0, rfl⟩
      · exact ⟨Same.refl _, rfl⟩
    rintro σ H5 ⟨s5, rfl⟩
    have D5 := D4.same s5
    have W5 := W.dr D5
    have anw5 := anw.up (NoTb.same s5)
    have hwt5 := s5 _ _ hwt
    clear hra anr other
    have c3 : ∀ {x y z : PyData} {u : Nat}, FX x 4 8 → FX y 4 8 → FX z 8 u → u + 19 ≤ 6 * w + 6000 → FX (.tuple [x, y, z]) 9 (6 * w + 6000) := fun {x y z u} hx hy hz h => (FX.tuple (FXA.cons (hx.mono (by decide) (Nat.le_refl _)) (FXA.cons (hy.mono (by decide) (Nat.le_refl _)) (FXA.cons hz (FXA.nil 8))))).mono (by decide) (by omega)
    have fim : FX (.int m) 4 8 := (FX.int (by omega)).mono (by decide) (by decide)
    have fin' : FX (.int n) 4 8 := (FX.int (by omega)).mono (by decide) (by decide)
    refine ⟨.int way, rfl, rfl, _, rfl, ite2 (fun e => ?_) (fun e => ?_)⟩
    · refine retZ (TEp.run (P := fun d => FX d 9 (6 * w + 6000)) (tep_three (P1 := fun d => FX d 4 8) (P2 := fun d => FX d 4 8) (P3 := fun d => FX d 8 wl') W5 (tep_pick W5 rfl (tep_lst W5 (tap_cons W5 (tep_odd (high := 6) W5 rfl (fun H Q q => q) (by decide) (by decide)) <| tap_cons W5 (tep_2 W5 (by decide)) <| tap_cons W5 (tep_cd W5 rfl (by decide) (by decide) (by decide) (by decide)) <| tap_nil W5) (by decide)) rfl (by decide) (by decide)) (tep_var W5 rfl (.int n) fin') (tep_var W5 rfl anw5 fl) fun x y z hx hy hz => c3 hx hy hz (by omega)) W5.w (fin _ D5))
    refine ⟨.int way, rfl, rfl, _, rfl, ite2 (fun e => ?_) (fun e => ?_)⟩
    · refine retZ (TEp.run (P := fun d => FX d 9 (6 * w + 6000)) (tep_three (P1 := fun d => FX d 4 8) (P2 := fun d => FX d 4 8) (P3 := fun d => FX d 8 wl') W5 (tep_var W5 rfl (.int m) fim) (tep_pick W5 rfl (tep_lst W5 (tap_cons W5 (tep_odd (high := 4) W5 rfl (fun H Q q => q) (by decide) (by decide)) <| tap_cons W5 (tep_2 W5 (by decide)) <| tap_cons W5 (tep_cd W5 rfl (by decide) (by decide) (by decide) (by decide)) <| tap_nil W5) (by decide)) rfl (by decide) (by decide)) (tep_var W5 rfl anw5 fl) fun x y z hx hy hz => c3 hx hy hz (by omega)) W5.w (fin _ D5))
    refine ⟨.int way, rfl, rfl, _, rfl, ite2 (fun e => ?_) (fun e => ?_)⟩
    · -- nine
      refine ⟨.ref wt, rfl, ?_⟩
      show tCall spWis [] E0 (tCons (tVar 0) (tCons (tVar 4) (tCons (tVar 5) tNil))) _ H5 _
      refine TEp.run (tep_wis (i := 4) (j := 5) W5 rfl rfl rfl m1 m6 n2 n4) W5.w fun H6 v6 d6 D6 an6 p6 => ⟨(by show 1 ≤ sizeLine; decide), fun p np => ?_⟩
      have W6 := W5.dr D6
      have s7 := same_upd (o := .tup [v6]) np
      refine .inl ⟨p, 9, [v6], rfl, rfl, .inl (.inl upd_same), (fun z => nomatch z), by decide, by decide, (by show 1 ≤ 1000; decide), fun r nr => ?_⟩
      have s8 := s7.trans (same_upd (o := .tup (List.replicate (9 : Int).toNat [v6]).flatten) nr)
      have hr8 : upd (upd H6 p (.tup [v6])) r (.tup (List.replicate (9 : Int).toNat [v6]).flatten) r = some (.tup (List.replicate 9 v6)) := by rw [upd_same, rep1]; rfl
      generalize upd (upd H6 p (.tup [v6])) r (.tup (List.replicate (9 : Int).toNat [v6]).flatten) = H8 at s8 hr8
      have hwt8 := s8 _ _ (D6.tups W5.w _ _ hwt5)
      refine catA_an hwt8 hr8 (by rw [List.length_replicate]; omega) fun c H9 s9 e9 => ?_
      have D9 := D6.same (s8.trans s9)
      have W9 := W5.dr D9
      have anw9 := anw5.up (W5.noTb D9)
      have an69 := an6.up (NoTb.same (s8.trans s9))
      have repA : ∀ k : Nat, AnAll Av H9 (List.replicate k v6) (List.replicate k d6) := fun k => by
        induction k with
        | zero => exact .nil
        | succ k ih => exact .cons an69 ih
      have anc : An Av H9 (.ref c) (.tuple (l ++ List.replicate 9 d6)) := .tup e9 ((al.up (NoTb.same s5) |>.up (W5.noTb D9)).append (repA 9))
      have f9 : FXA (l ++ List.replicate 9 d6) 7 (wl' + 2439) := (fll.append (FXA.all (n := 7) (w := 270) fun x hx => by rw [(List.mem_replicate.mp hx).2]; exact p6.1.mono (by decide) (Nat.le_refl _))).mono (Nat.le_refl _) (by rw [List.length_replicate]; omega)
      have tk : ∀ {σ : L2.St} {j : Nat} {i : Int}, i = j → ∀ H' (R : Option Int → Hp → Prop), R (some (j : Int)) H' → tPart (tC (.int i)) σ H' R := fun {σ j i} e H' R r => ⟨i, rfl, by rw [e]; exact r⟩
      have np' : ∀ {σ : L2.St} H' (R : Option Int → Hp → Prop), R none H' → tNoPart σ H' R := fun {σ} _ _ r => r
      refine seqZ (TEp.run (P := IsL 14 fun d => FX d 8 (wl' + 2450)) (tep_lst W9 (tap_cons W9 (tep_listOf W9 rfl anw9 ((FX.list fll).mono (Nat.le_refl _) (by omega))) <| tap_cons W9 (tep_piece W9 rfl anc np' (tk (j := 9) rfl) (fun xs => cutI_to xs 9) (fun a => a.take 9) ((FX.tuple (f9.take 9)).mono (Nat.le_refl _) (by omega))) <| tap_cons W9 (tep_var W9 rfl anc ((FX.tuple f9).mono (Nat.le_refl _) (by omega))) <| tap_cons W9 (tep_piece W9 rfl anw9 np' (tk (j := 1) rfl) (fun xs => cutI_to xs 1) (fun a => a.take 1) ((FX.tuple (fll.take 1)).mono (Nat.le_refl _) (by omega))) <| tap_cons W9 (tep_s W9 (Nat.zero_le _) (by decide +kernel)) <| tap_cons W9 (tep_D0 W9) <| tap_cons W9 (tep_n W9) <| tap_cons W9 (tep_2 W9 (by decide)) <| tap_cons W9 (tep_b W9) <| tap_cons W9 ((tep_s (n := 8) (w := 4) W9 (by decide +kernel) (by decide +kernel)).mono fun d h => h.mono (Nat.le_refl _) (by omega)) <| tap_cons W9 ((tep_tA W9 (tap_cons W9 (tep_n W9) <| tap_nil W9) (by decide)).mono fun d h => h.mono (by decide) (by omega)) <| tap_cons W9 ((tep_tA W9 (tap_cons W9 (tep_e W9) <| tap_nil W9) (by decide)).mono fun d h => h.mono (by decide) (by omega)) <| tap_cons W9 ((tep_tA W9 (tap_cons W9 (tep_s W9 (by decide +kernel) (by decide +kernel)) <| tap_nil W9) (by decide)).mono fun d h => h.mono (by decide) (by omega)) <| tap_cons W9 (tep_D1 W9 (by omega)) <| tap_nil W9) (by decide)) W9.w fun H10 v10 d10 D10 an10 p10 => ?_)
      have W10 := W9.dr D10
      refine retZ (TEp.run (P := fun d => FX d 9 (6 * w + 6000)) (tep_three (P1 := fun d => FX d 4 8) (P2 := fun d => FX d 4 8) (P3 := fun d => FX d 8 (wl' + 2450)) W10 (tep_var W10 rfl (.int m) fim) (tep_var W10 rfl (.int n) fin') (tep_pick W10 rfl (tep_var W10 rfl an10 p10) rfl (by decide) (by decide)) fun x y z hx hy hz => c3 hx hy hz (by omega)) W10.w (fin _ ((D5.trans D9).trans D10)))
    refine ⟨.ref wt, rfl, (by show 0 ≤ sizeLine; decide), fun e0 ne0 => ?_⟩
    have s6 := same_upd (o := .tup []) ne0
    refine ⟨wt, e0, ws, rfl, rfl, .inl (.inl (s6 _ _ hwt5)), .inl (.inl upd_same), _, rfl, ?_⟩
    have hwt6 := s6 _ _ hwt5
    generalize upd H5 e0 (.tup []) = H6 at s6 hwt6
    have D6 := D5.same s6
    have W6 := W.dr D6
    have anw6 := anw5.up (NoTb.same s6)
    have vm : TEp Av wl cl (tVar 4) [some (.ref wl), some (.ref ra), some (.int way), none, some (.int m), some (.int n), some (.ref wt), none, none] H6 (fun d => FX d 4 8) := tep_var W6 rfl (.int m) fim
    cases ez : ws.isEmpty with
    | true =>
      refine iteT (retZ (TEp.run (P := fun d => FX d 9 (6 * w + 6000)) (tep_three (P1 := fun d => FX d 4 8) (P2 := fun d => FX d 4 8) (P3 := fun d => FX d 8 1400) W6 vm (tep_var W6 rfl (.int n) fin') (tep_one (tep_bw (w := 270) W6 rfl rfl rfl m1 m6 n2 n4 (by decide) ((tep_wis W6 rfl rfl rfl m1 m6 n2 n4).mono fun d h => ⟨h.1.mono (by decide) (Nat.le_refl _), h.2⟩)) fun x hx => (FX.tuple (FXA.cons hx (FXA.nil 7))).mono (Nat.le_refl _) (by decide)) fun x y z hx hy hz => c3 hx hy hz (by omega)) W6.w (fin _ D6)))
    | false =>
    have wpos : 1 ≤ ws.length := by
      cases ws with
      | nil => cases ez
      | cons => exact Nat.succ_le_succ (Nat.zero_le _)
    refine iteF ⟨.ref wl, rfl, .ref wt, rfl, wt, ws, rfl, .inr (.inl (.inl hwt6)), wl, cl, _, rfl, W6.w, by omega, log_small (by omega) (by omega), fun H7 at7 D7 a0 a1 => ?_⟩
    obtain ⟨j, rfl⟩ : ∃ j : Nat, at7 = j := ⟨at7.toNat, by omega⟩
    have jl : j < l.length := by omega
    have ej : ((j : Nat) : Int) + 1 = ((j + 1 : Nat) : Int) := by omega
    have D7' := D6.trans D7
    have W7 := W.dr D7'
    have anw7 := anw6.up (W6.noTb D7)
    have np' : ∀ {σ : L2.St} H' (R : Option Int → Hp → Prop), R none H' → tNoPart σ H' R := fun {σ} _ _ r => r
    have pj : ∀ {σ : L2.St}, σ[8]? = some (some (.int j)) → ∀ H' (R : Option Int → Hp → Prop), R (some (j : Int)) H' → tPart (tVar 8) σ H' R := fun {σ} e _ _ r => ⟨.int j, e, j, rfl, r⟩
    have pj1 : ∀ {σ : L2.St}, σ[8]? = some (some (.int j)) → ∀ H' (R : Option Int → Hp → Prop), R (some ((j + 1 : Nat) : Int)) H' → tPart (tOp (rI0 fun i j => .int (i + j)) (tVar 8) (tC (.int 1))) σ H' R := fun {σ} e _ _ r => ⟨.int j, e, j, 1, rfl, rfl, (j : Int) + 1, rfl, by rw [ej]; exact r⟩
    have pA : TEp Av wl cl (tSl (rSlA K) (tVar 6) tNoPart (tPart (tVar 8))) [some (.ref wl), some (.ref ra), some (.int way), none, some (.int m), some (.int n), some (.ref wt), none, some (.int j)] H7 (PT 7 wl' 20000) := tep_piece W7 rfl anw7 np' (pj rfl) (fun xs => cutI_to xs j) (fun a => a.take j) ⟨_, rfl, fll.take j, by rw [List.length_take]; omega⟩
    have pB : TEp Av wl cl (tSl (rSlA K) (tVar 6) (tPart (tOp (rI0 fun i j => .int (i + j)) (tVar 8) (tC (.int 1)))) tNoPart) [some (.ref wl), some (.ref ra), some (.int way), none, some (.int m), some (.int n), some (.ref wt), none, some (.int j)] H7 (PT 7 wl' 20000) := tep_piece W7 rfl anw7 (pj1 rfl) np' (fun xs => cutI_from xs (j + 1)) (fun a => a.drop (j + 1)) ⟨_, rfl, fll.drop (j + 1), by rw [List.length_drop]; omega⟩
    have pC : TEp Av wl cl (tSl (rSlA K) (tVar 6) (tPart (tVar 8)) tNoPart) [some (.ref wl), some (.ref ra), some (.int way), none, some (.int m), some (.int n), some (.ref wt), none, some (.int j)] H7 (PT 7 wl' 20000) := tep_piece W7 rfl anw7 (pj rfl) np' (fun xs => cutI_from xs j) (fun a => a.drop j) ⟨_, rfl, fll.drop j, by rw [List.length_drop]; omega⟩
    have pD : TEp Av wl cl (tSl (rSlA K) (tVar 6) tNoPart (tPart (tOp (rI0 fun i j => .int (i + j)) (tVar 8) (tC (.int 1))))) [some (.ref wl), some (.ref ra), some (.int way), none, some (.int m), some (.int n), some (.ref wt), none, some (.int j)] H7 (PT 7 wl' 20000) := tep_piece W7 rfl anw7 np' (pj1 rfl) (fun xs => cutI_to xs (j + 1)) (fun a => a.take (j + 1)) ⟨_, rfl, fll.take (j + 1), by rw [List.length_take]; omega⟩
    have toT : ∀ {u L : Nat} {d : PyData}, PT 7 u L d → FX d 8 u := fun {u L d} h => by
      obtain ⟨l, rfl, f, _⟩ := h
      exact FX.tuple f
    have vm : TEp Av wl cl (tVar 4) [some (.ref wl), some (.ref ra), some (.int way), none, some (.int m), some (.int n), some (.ref wt), none, some (.int j)] H7 (fun d => FX d 4 8) := tep_var W7 rfl (.int m) fim
    have vn : TEp Av wl cl (tVar 5) [some (.ref wl), some (.ref ra), some (.int way), none, some (.int m), some (.int n), some (.ref wt), none, some (.int j)] H7 (fun d => FX d 4 8) := tep_var W7 rfl (.int n) fin'
    refine ⟨.int way, rfl, rfl, _, rfl, ite2 (fun e => ?_) (fun e => ?_)⟩
    · exact retZ (TEp.run (P := fun d => FX d 9 (6 * w + 6000)) (tep_three (P1 := fun d => FX d 4 8) (P2 := fun d => FX d 4 8) W7 vm vn (tep_catT W7 pA pB (by decide)) fun x y z hx hy hz => c3 hx hy (toT hz) (by omega)) W7.w (fin _ D7'))
    refine ⟨.int way, rfl, rfl, _, rfl, ite2 (fun e => ?_) (fun e => ?_)⟩
    · exact retZ (TEp.run (P := fun d => FX d 9 (6 * w + 6000)) (tep_three (P1 := fun d => FX d 4 8) (P2 := fun d => FX d 4 8) W7 vm vn (tep_catT W7 pC pD (by decide)) fun x y z hx hy hz => c3 hx hy (toT hz) (by omega)) W7.w (fin _ D7'))
    have pW : TEp Av wl cl (tOp (rIxT K) (tVar 6) (tVar 8)) [some (.ref wl), some (.ref ra), some (.int way), none, some (.int m), some (.int n), some (.ref wt), none, some (.int j)] H7 (fun d => FX d 7 wl' ∧ ∃ lp lr, WshS d lp lr) := tep_ixT W7 rfl rfl anw7 jl fun d hd => ⟨fll.mem hd, wsh_shape (wsh d hd)⟩
    have pE := tep_one (P := PT 7 (4 * wl' + 301) 1) (tep_bw (i := 4) (j := 5) W7 rfl rfl rfl m1 m6 n2 n4 (by omega) pW) fun x hx => ⟨_, rfl, FXA.cons hx (FXA.nil 7), Nat.le_refl _⟩
    exact retZ (TEp.run (P := fun d => FX d 9 (6 * w + 6000)) (tep_three (P1 := fun d => FX d 4 8) (P2 := fun d => FX d 4 8) W7 vm vn (tep_catT W7 (tep_catT W7 pA pE (by decide)) pB (by decide)) fun x y z hx hy hz => c3 hx hy (toT hz) (by omega)) W7.w (fin _ D7'))
end
end Rd

set_option Elab.async false
set_option linter.all false
set_option maxRecDepth 100000
set_option maxHeartbeats 4000000
namespace Rd
open PySem PySem.Spec PyProof.Rows L2 Dt TL
abbrev sLaw : Stmt := topS 32
abbrev nLaw : List Str := ["script", "well", "turn", "times", "thing", "again", "seen", "found"]
theorem scLaw : FnScope nLaw ["script"] (defScope sLaw) := ⟨rfl, rfl, rfl, by decide +kernel, rfl, by decide +kernel, by decide +kernel⟩
structure TxtL (P : Program) (w : World) (K : PySem.W.Frag) (mg : Str → Option Value) (base : Heap) (Ps : List Addr) : Prop where
  m_range : mg "range" = none
  m_repr : mg "repr" = none
  m_isinstance : mg "isinstance" = none
  m_bool : mg "bool" = none
  c__law_well : Cal P w K mg base 1 "_law_well" ["script"] (spWell K)
  c__law_draw : Cal P w K mg base 1 "_law_draw" ["well", "many"] spDraw
  c__law_riddle : Cal P w K mg base 3 "_law_riddle" ["well", "most_places", "most_wishes"] spRid
  c__law_bent_more : Cal P w K mg base 3 "_law_bent_more" ["well", "riddle"] spBmA
  c__law_bent : Cal P w K mg base 12 "_law_bent" ["well", "riddle"] spBnA
  c__law_is_riddle : Cal P w K mg base 3 "_law_is_riddle" ["thing"] spLirA
  c_is_riddle : Cal P w K mg base 8 "is_riddle" ["thing"] (spIrdA Ps)
theorem Wat.of {wl cl : Addr} {H : Hp} (w : Well H wl cl) : Wat (AvW wl cl) wl cl H := ⟨w, old_well w, .inl rfl, .inr rfl⟩
theorem Well.frs {Ps : List Addr} {wl cl : Addr} {H H' : Hp} (w : Well H wl cl) (t : Tabs Ps H) (f : FrS Ps H H') : Well H' wl cl := by
  obtain ⟨cs, b, c, h1, h2, hc⟩ := w
  exact ⟨cs, b, c, (f.seqs t).2 _ _ h1, (f.seqs t).2 _ _ h2, hc⟩
def grow : Nat → Nat
  | 0 => 2200
  | 1 => 19200
  | _ => 121200
section
variable {P : Program} {w : World} {K : PySem.W.Frag} {mg : Str → Option Value} {base : Heap}
set_option maxHeartbeats 32000000 in
theorem body_law {fa a : Addr} {Ps : List Addr} {s : Shared} {H : Hp} {cdv : Value} {ns : List Int} (T : TxtL P w K mg base Ps) (hl : ns.length ≤ 63) (hb : ∀ z ∈ ns, Builtin.Int.intBits z ≤ 1048576) (hT : Tabs Ps H) (hS : SqL K H a (ns.map V.int))
    (hr : Room 13 (callerA.deeper (envOfC (Str.ofString "law") (defScope sLaw) s.heap.objs.size fa cdv))) :
    ∃ t, PSs (cxOf CX0 P w K mg base nLaw (Str.ofString "law") (defScope sLaw) fa cdv callerA [] s H (fun _ _ _ => False)).nox (defBody sLaw) t ∧ t { nx := fun _ _ => False, rt := fun v _ => v = .bl true } (start nLaw [.ref a]) H := by
  have hg : (callerA.deeper (envOfC (Str.ofString "law") (defScope sLaw) s.heap.objs.size fa cdv)).guards = some [] := rfl
  refine ⟨_, (pss_cons (ps_set (i := 1) scLaw.nd rfl (Or.inl rfl) (pe_cal T.c__law_well (hr.mono (by omega)) (by rfl) (pa_cons (pv 0) pa_nil)))
  (pss_cons (ps_for PassesOwn.never rfl (pi_range1 (by rfl) T.m_range (pa_cons pe_int pa_nil)) (pg_name (i := 2) scLaw.nd rfl (Or.inl rfl))
  (pss_cons (ps_set (i := 3) scLaw.nd rfl (Or.inl rfl) (pe_ix ix_list (pe_lst (pa_cons pe_int (pa_cons pe_int (pa_cons pe_int (pa_cons pe_int (pa_cons pe_int (pa_cons pe_int (pa_cons pe_int (pa_cons pe_int pa_nil))))))))) (pe_cal T.c__law_draw (hr.mono (by omega)) (by rfl) (pa_cons (pv 1) (pa_cons pe_int pa_nil))) (fun _ _ => rfl)))
  (pss_cons (ps_set (i := 4) scLaw.nd rfl (Or.inl rfl) (pe_cal T.c__law_riddle (hr.mono (by omega)) (by rfl) (pa_cons (pv 1) (pa_cons pe_int (pa_cons pe_int pa_nil)))))
  (C8.pss_cut (ps_if (pt_cmpR op_eq (pe_cal T.c__law_draw (hr.mono (by omega)) (by rfl) (pa_cons (pv 1) (pa_cons pe_int pa_nil))) pe_int (nomark _))
  (pss_one (ps_set (i := 4) scLaw.nd rfl (Or.inl rfl) (pe_cal T.c__law_bent_more (hr.mono (by omega)) (by rfl) (pa_cons (pv 1) (pa_cons (pv 4) pa_nil))))) (pss_one (ps_for PassesOwn.never rfl (pi_range1 (by rfl) T.m_range (pa_cons (pv 3) pa_nil)) (pg_name (i := 5) scLaw.nd rfl (Or.inl rfl))
  (pss_one (ps_set (i := 4) scLaw.nd rfl (Or.inl rfl) (pe_cal T.c__law_bent (hr.mono (by omega)) (by rfl) (pa_cons (pv 1) (pa_cons (pv 4) pa_nil))))))))
  (pss_cons (ps_set (i := 6) scLaw.nd rfl (Or.inl rfl) (pe_callB (call_reprA hg hr.units) (by rfl) T.m_repr (by decide +kernel) (pa_cons (pv 4) pa_nil)))
  (pss_cons (ps_set (i := 7) scLaw.nd rfl (Or.inl rfl) (pe_cal T.c_is_riddle (hr.mono (by omega)) (by rfl) (pa_cons (pv 4) pa_nil)))
  (pss_one (ps_if (PW.pt (pw_or (pt_not (pt_val (pe_callB call_isi (by rfl) T.m_isinstance (by decide +kernel) (pa_cons (pv 7) (pa_cons (pe_bltn (v := .ty "bool") (by rfl) T.m_bool (by decide +kernel) rfl) pa_nil))))) (pw_or (pt_cmpR op_ne (pe_callB (call_reprA hg hr.units) (by rfl) T.m_repr (by decide +kernel) (pa_cons (pv 4) pa_nil)) (pv 6) (nomark _)) (pw_or1 (pt_cmpR op_ne (pv 7) (pe_cal T.c__law_is_riddle (hr.mono (by omega)) (by rfl) (pa_cons (pv 4) pa_nil)) (nomark _))))))
  (pss_one (ps_ret pe_bl)) pss_nil))))))))
  (pss_one (ps_ret pe_bl)))), ?_⟩
  refine ⟨.ref a, rfl, a, ns, rfl, hS, hl, hb, fun H1 wl cl s1 nwl ncl hW => ?_⟩
  have hT1 := hT.same s1
  refine ⟨8, rfl, by decide, by decide, for_range (lo := 0) (n := 8) (fun i σ H2 => Tabs Ps H2 ∧ Well H2 wl cl ∧ ∃ y2 y3 y4 y5 y6 y7, σ = [some (.ref a), some (.ref wl), y2, y3, y4, y5, y6, y7]) ⟨hT1, hW, none, none, none, none, none, none, rfl⟩ (fun i σ H2 hi p => ?_) (fun σ H2 p => ?_)⟩
  · obtain ⟨hT2, hW2, y2, y3, y4, y5, y6, y7, rfl⟩ := p
    -- times
    refine ⟨(by show 8 ≤ sizeLine; decide), fun l0 nl0 => ?_⟩
    have s0 := same_upd (o := .lst [V.int 0, .int 1, .int 1, .int 1, .int 1, .int 1, .int 2, .int 2]) nl0
    have hl0 : upd H2 l0 (.lst [V.int 0, .int 1, .int 1, .int 1, .int 1, .int 1, .int 2, .int 2]) l0 = some (.lst [V.int 0, .int 1, .int 1, .int 1, .int 1, .int 1, .int 2, .int 2]) := upd_same
    have nl0w := hW2.new nl0
    have hW0 := hW2.same s0
    have hT0 := hT2.same s0
    generalize upd H2 l0 (.lst [V.int 0, .int 1, .int 1, .int 1, .int 1, .int 1, .int 2, .int 2]) = H0 at s0 hl0 hW0 hT0
    refine ⟨.ref wl, rfl, wl, cl, 8, rfl, hW0, by decide, by decide, fun H3 d D3 o0 o1 => ?_⟩
    obtain ⟨tm, mat, tm0, tm2⟩ : ∃ tm : Int, atI [V.int 0, .int 1, .int 1, .int 1, .int 1, .int 1, .int 2, .int 2] d = some (.int tm) ∧ 0 ≤ tm ∧ tm ≤ 2 := by
      have : d = 0 ∨ d = 1 ∨ d = 2 ∨ d = 3 ∨ d = 4 ∨ d = 5 ∨ d = 6 ∨ d = 7 := by omega
      rcases this with rfl | rfl | rfl | rfl | rfl | rfl | rfl | rfl
      · exact ⟨0, atI_nat (j := 0) rfl, by decide, by decide⟩
      · exact ⟨1, atI_nat (j := 1) rfl, by decide, by decide⟩
      · exact ⟨1, atI_nat (j := 2) rfl, by decide, by decide⟩
      · exact ⟨1, atI_nat (j := 3) rfl, by decide, by decide⟩
      · exact ⟨1, atI_nat (j := 4) rfl, by decide, by decide⟩
      · exact ⟨1, atI_nat (j := 5) rfl, by decide, by decide⟩
      · exact ⟨2, atI_nat (j := 6) rfl, by decide, by decide⟩
      · exact ⟨2, atI_nat (j := 7) rfl, by decide, by decide⟩
    refine ⟨l0, _, d, .int tm, rfl, rfl, .inl (.inl (D3.1 l0 _ nl0w.1 nl0w.2 hl0)), mat, ?_⟩
    have hT3 := D3.tabs hW0 hT0
    have hW3 := D3.2
    clear hl0 s0 mat o0 o1
    -- riddle
    refine ⟨.ref wl, rfl, wl, cl, 8, rfl, hW3, by decide, by decide, fun H4 ri many hues wds D4 isr gr nt w8 k256 => ?_⟩
    have hT4 := D4.tabs hW3 hT3
    have hW4 := D4.2
    refine ⟨fun σ H' => Tabs Ps H' ∧ Well H' wl cl ∧ ∃ v d y5, An (AvW wl cl) H' v d ∧ FX d 9 121200 ∧ σ = [some (.ref a), some (.ref wl), some (.int (0 + (i : Int))), some (.int tm), some v, y5, y6, y7], ?_, ?_⟩
    · refine ⟨.ref wl, rfl, wl, cl, 4, rfl, hW4, by decide, by decide, fun H5 d5 D5 _ _ => ⟨rfl, _, rfl, ite2 (fun e => ?_) (fun e => ?_)⟩⟩
      · refine ⟨.ref wl, rfl, .ref ri, rfl, AvW wl cl, wl, cl, ri, many, hues, wds, rfl, Wat.of D5.2, isr.mono (D5.tups hW4), gr, fun H6 v6 d6 D6 an6 f6 => ⟨(D5.trans D6).tabs hW4 hT4, D6.2, v6, d6, _, an6, f6.mono (Nat.le_refl _) (by decide), rfl⟩⟩
      · have hT5 := D5.tabs hW4 hT4
        refine ⟨.int tm, rfl, tm, rfl, by omega, by omega, for_range (lo := 0) (n := tm.toNat) (fun j σ H' => Tabs Ps H' ∧ Well H' wl cl ∧ ∃ v d y5, An (AvW wl cl) H' v d ∧ FX d 9 (grow j) ∧ σ = [some (.ref a), some (.ref wl), some (.int (0 + (i : Int))), some (.int tm), some v, y5, y6, y7]) ⟨hT5, D5.2, .ref ri, _, _, an_ridD (isr.mono (D5.tups hW4)), (fx_rid gr).mono (by decide) (Nat.le_refl _), rfl⟩ (fun j σ H6 hj p => ?_) (fun σ H6 p => ?_)⟩
        · obtain ⟨hT6, hW6, v, d, y5, an, f, rfl⟩ := p
          have g2 : grow j ≤ 20000 ∧ 6 * grow j + 6000 ≤ grow (j + 1) := by
            have : j = 0 ∨ j = 1 := by omega
            rcases this with rfl | rfl <;> decide
          refine ⟨.ref wl, rfl, v, rfl, AvW wl cl, wl, cl, v, d, grow j, rfl, Wat.of hW6, an, f, g2.1, fun H7 v7 d7 D7 an7 f7 => ⟨D7.tabs hW6 hT6, D7.2, v7, d7, _, an7, f7.mono (Nat.le_refl _) g2.2, rfl⟩⟩
        · obtain ⟨hT6, hW6, v, d, y5, an, f, rfl⟩ := p
          refine ⟨hT6, hW6, v, d, y5, an, f.mono (Nat.le_refl _) ?_, rfl⟩
          have : tm.toNat = 0 ∨ tm.toNat = 1 ∨ tm.toNat = 2 := by omega
          rcases this with h | h | h <;> rw [h] <;> decide
    rintro σ H5 ⟨hT5, hW5, v, d, y5, an, f, rfl⟩
    have blk := f.blk
    have shr : ShortR d := shortR_of (by omega)
    have sz : d.depth < 60 := Nat.lt_of_le_of_lt f.dep (by decide)
    refine ⟨v, rfl, AvW wl cl, v, d, rfl, an, f.sho, sz, f.shows (by decide), ?_⟩
    refine ⟨v, rfl, v, d, rfl, hT5, an.any, shr, fun H6 f6 => ?_⟩
    have an6 := an.up (FrS.noTb hT5 f6)
    have hW6 := hW5.frs hT5 f6
    refine ⟨.bl (irdD d), rfl, .bl (irdD d), .ty "bool", _, .type "bool", _, rfl, .ty _, (show Any H6 (.bl (irdD d)) (.bool (irdD d)) from .bl _).ty, kit_ty (kit_self (.inr (.inl rfl))), _, rfl, ?_⟩
    refine iteF ⟨v, rfl, AvW wl cl, v, d, rfl, an6, f.sho, sz, f.shows (by decide), .str d.shown, rfl, rfl, _, rfl, ?_⟩
    rw [decide_eq_true rfl]
    refine iteF ⟨.bl (irdD d), rfl, v, rfl, v, d, rfl, an6.any, shr, fun H7 s7 => ⟨rfl, _, rfl, ?_⟩⟩
    rw [decide_eq_true rfl]
    exact iteF ⟨f6.2.same s7, hW6.same s7, _, _, _, _, _, _, rfl⟩
  · rfl
end
end Rd

set_option Elab.async false
set_option linter.all false
set_option maxRecDepth 100000
set_option maxHeartbeats 4000000
namespace Rd
open PySem PySem.Spec PyProof.Rows L2 Dt
theorem all_mk {l : PySem.W.OpenLaw} {w : World} {K : PySem.W.Frag} {h : Heap} {mg : Str → Option Value} {fa : Addr} {tb : Str → Addr × Addr} (X : K.In h) (G : h.Ns mainGlobals mg) (hfa : mg "law" = some (.ref fa)) (ht : ∀ y ∈ [("is_rising" : Str), ("are_places" : Str), ("are_hues" : Str), ("are_rows" : Str), ("is_riddle" : Str)], Lg.TabOf mg h y (tb y))
    {f1 f2 f3 f4 f5 f6 f7 f8 f9 f10 f11 f12 f13 f14 f15 f16 f17 f18 f19 f20 f21 f22 f23 f24 f25 : Addr} {od1 an1 od2 an2 od3 an3 od4 an4 od5 an5 od6 an6 od7 an7 od8 an8 od9 an9 od10 an10 od11 an11 od12 an12 od13 an13 od14 an14 od15 an15 od16 an16 od17 an17 od18 an18 od19 an19 od20 an20 od21 an21 od22 an22 od23 an23 od24 an24 od25 an25 : Option Addr} {sl1 sl2 sl3 sl4 sl5 sl6 sl7 sl8 sl9 sl10 sl11 sl12 sl13 sl14 sl15 sl16 sl17 sl18 sl19 sl20 sl21 sl22 sl23 sl24 sl25 : Array (Option Value)} {oc1 kV1 dc1 pm1 cd1 ct1 oc2 kV2 dc2 pm2 cd2 ct2 oc3 kV3 dc3 pm3 cd3 ct3 oc4 kV4 dc4 pm4 cd4 ct4 oc5 kV5 dc5 pm5 cd5 ct5 oc6 kV6 dc6 pm6 cd6 ct6 oc7 kV7 dc7 pm7 cd7 ct7 oc8 kV8 dc8 pm8 cd8 ct8 oc9 kV9 dc9 pm9 cd9 ct9 oc10 kV10 dc10 pm10 cd10 ct10 oc11 kV11 dc11 pm11 cd11 ct11 oc12 kV12 dc12 pm12 cd12 ct12 oc13 kV13 dc13 pm13 cd13 ct13 oc14 kV14 dc14 pm14 cd14 ct14 oc15 kV15 dc15 pm15 cd15 ct15 oc16 kV16 dc16 pm16 cd16 ct16 oc17 kV17 dc17 pm17 cd17 ct17 oc18 kV18 dc18 pm18 cd18 ct18 oc19 kV19 dc19 pm19 cd19 ct19 oc20 kV20 dc20 pm20 cd20 ct20 oc21 kV21 dc21 pm21 cd21 ct21 oc22 kV22 dc22 pm22 cd22 ct22 oc23 kV23 dc23 pm23 cd23 ct23 oc24 kV24 dc24 pm24 cd24 ct24 oc25 kV25 dc25 pm25 cd25 ct25 : Value} {tk_MOST_PLACES : Tok} {tk_LEAST_HUES : Tok} {tk_MOST_HUES : Tok} {tk_MOST_FILLINGS : Tok} {tk_MOST_WISHES : Tok} {tk_MOST_PLACES_OF_A_WISH : Tok}
    (a1 : PySem.W.nsIn K mainGlobals "is_number" = some (some (.ref f1))) (l1 : K.lookup f1 = some ⟨oc1, od1, .func (PySem.W.fnOf "is_number" "is_number" (defArgs sNum) (defBody sNum) (defScope sNum) .none kV1 dc1 pm1 an1 cd1 ct1), sl1⟩) (c1 : PySem.W.codeIn K cd1 "is_number" = true) (k1 : PySem.W.keepIn K (.ref f1) = true)
    (a2 : PySem.W.nsIn K mainGlobals "is_rising" = some (some (.ref f2))) (l2 : K.lookup f2 = some ⟨oc2, od2, .func (PySem.W.fnOf "is_rising" "is_rising" (defArgs sRis) (defBody sRis) (defScope sRis) .none kV2 dc2 pm2 an2 cd2 ct2), sl2⟩) (c2 : PySem.W.codeIn K cd2 "is_rising" = true) (k2 : PySem.W.keepIn K (.ref f2) = true)
    (a3 : PySem.W.nsIn K mainGlobals "fillings_number" = some (some (.ref f3))) (l3 : K.lookup f3 = some ⟨oc3, od3, .func (PySem.W.fnOf "fillings_number" "fillings_number" (defArgs sFnu) (defBody sFnu) (defScope sFnu) .none kV3 dc3 pm3 an3 cd3 ct3), sl3⟩) (c3 : PySem.W.codeIn K cd3 "fillings_number" = true) (k3 : PySem.W.keepIn K (.ref f3) = true)
    (a4 : PySem.W.nsIn K mainGlobals "is_size" = some (some (.ref f4))) (l4 : K.lookup f4 = some ⟨oc4, od4, .func (PySem.W.fnOf "is_size" "is_size" (defArgs sSiz) (defBody sSiz) (defScope sSiz) .none kV4 dc4 pm4 an4 cd4 ct4), sl4⟩) (c4 : PySem.W.codeIn K cd4 "is_size" = true) (k4 : PySem.W.keepIn K (.ref f4) = true)
    (a5 : PySem.W.nsIn K mainGlobals "are_places" = some (some (.ref f5))) (l5 : K.lookup f5 = some ⟨oc5, od5, .func (PySem.W.fnOf "are_places" "are_places" (defArgs sPls) (defBody sPls) (defScope sPls) .none kV5 dc5 pm5 an5 cd5 ct5), sl5⟩) (c5 : PySem.W.codeIn K cd5 "are_places" = true) (k5 : PySem.W.keepIn K (.ref f5) = true)
    (a6 : PySem.W.nsIn K mainGlobals "are_hues" = some (some (.ref f6))) (l6 : K.lookup f6 = some ⟨oc6, od6, .func (PySem.W.fnOf "are_hues" "are_hues" (defArgs sHus) (defBody sHus) (defScope sHus) .none kV6 dc6 pm6 an6 cd6 ct6), sl6⟩) (c6 : PySem.W.codeIn K cd6 "are_hues" = true) (k6 : PySem.W.keepIn K (.ref f6) = true)
    (a7 : PySem.W.nsIn K mainGlobals "are_rows" = some (some (.ref f7))) (l7 : K.lookup f7 = some ⟨oc7, od7, .func (PySem.W.fnOf "are_rows" "are_rows" (defArgs sRws) (defBody sRws) (defScope sRws) .none kV7 dc7 pm7 an7 cd7 ct7), sl7⟩) (c7 : PySem.W.codeIn K cd7 "are_rows" = true) (k7 : PySem.W.keepIn K (.ref f7) = true)
    (a8 : PySem.W.nsIn K mainGlobals "is_wish" = some (some (.ref f8))) (l8 : K.lookup f8 = some ⟨oc8, od8, .func (PySem.W.fnOf "is_wish" "is_wish" (defArgs sWsh) (defBody sWsh) (defScope sWsh) .none kV8 dc8 pm8 an8 cd8 ct8), sl8⟩) (c8 : PySem.W.codeIn K cd8 "is_wish" = true) (k8 : PySem.W.keepIn K (.ref f8) = true)
    (a9 : PySem.W.nsIn K mainGlobals "is_riddle" = some (some (.ref f9))) (l9 : K.lookup f9 = some ⟨oc9, od9, .func (PySem.W.fnOf "is_riddle" "is_riddle" (defArgs sIrd) (defBody sIrd) (defScope sIrd) .none kV9 dc9 pm9 an9 cd9 ct9), sl9⟩) (c9 : PySem.W.codeIn K cd9 "is_riddle" = true) (k9 : PySem.W.keepIn K (.ref f9) = true)
    (a10 : PySem.W.nsIn K mainGlobals "_law_well" = some (some (.ref f10))) (l10 : K.lookup f10 = some ⟨oc10, od10, .func (PySem.W.fnOf "_law_well" "_law_well" (defArgs sWell) (defBody sWell) (defScope sWell) .none kV10 dc10 pm10 an10 cd10 ct10), sl10⟩) (c10 : PySem.W.codeIn K cd10 "_law_well" = true) (k10 : PySem.W.keepIn K (.ref f10) = true)
    (a11 : PySem.W.nsIn K mainGlobals "_law_draw" = some (some (.ref f11))) (l11 : K.lookup f11 = some ⟨oc11, od11, .func (PySem.W.fnOf "_law_draw" "_law_draw" (defArgs sDraw) (defBody sDraw) (defScope sDraw) .none kV11 dc11 pm11 an11 cd11 ct11), sl11⟩) (c11 : PySem.W.codeIn K cd11 "_law_draw" = true) (k11 : PySem.W.keepIn K (.ref f11) = true)
    (a12 : PySem.W.nsIn K mainGlobals "_law_power" = some (some (.ref f12))) (l12 : K.lookup f12 = some ⟨oc12, od12, .func (PySem.W.fnOf "_law_power" "_law_power" (defArgs sPow) (defBody sPow) (defScope sPow) .none kV12 dc12 pm12 an12 cd12 ct12), sl12⟩) (c12 : PySem.W.codeIn K cd12 "_law_power" = true) (k12 : PySem.W.keepIn K (.ref f12) = true)
    (a13 : PySem.W.nsIn K mainGlobals "_law_wish" = some (some (.ref f13))) (l13 : K.lookup f13 = some ⟨oc13, od13, .func (PySem.W.fnOf "_law_wish" "_law_wish" (defArgs sWis) (defBody sWis) (defScope sWis) .none kV13 dc13 pm13 an13 cd13 ct13), sl13⟩) (c13 : PySem.W.codeIn K cd13 "_law_wish" = true) (k13 : PySem.W.keepIn K (.ref f13) = true)
    (a14 : PySem.W.nsIn K mainGlobals "_law_riddle" = some (some (.ref f14))) (l14 : K.lookup f14 = some ⟨oc14, od14, .func (PySem.W.fnOf "_law_riddle" "_law_riddle" (defArgs sRid) (defBody sRid) (defScope sRid) .none kV14 dc14 pm14 an14 cd14 ct14), sl14⟩) (c14 : PySem.W.codeIn K cd14 "_law_riddle" = true) (k14 : PySem.W.keepIn K (.ref f14) = true)
    (a15 : PySem.W.nsIn K mainGlobals "_law_whole" = some (some (.ref f15))) (l15 : K.lookup f15 = some ⟨oc15, od15, .func (PySem.W.fnOf "_law_whole" "_law_whole" (defArgs sLwh) (defBody sLwh) (defScope sLwh) .none kV15 dc15 pm15 an15 cd15 ct15), sl15⟩) (c15 : PySem.W.codeIn K cd15 "_law_whole" = true) (k15 : PySem.W.keepIn K (.ref f15) = true)
    (a16 : PySem.W.nsIn K mainGlobals "_law_rising" = some (some (.ref f16))) (l16 : K.lookup f16 = some ⟨oc16, od16, .func (PySem.W.fnOf "_law_rising" "_law_rising" (defArgs sLri) (defBody sLri) (defScope sLri) .none kV16 dc16 pm16 an16 cd16 ct16), sl16⟩) (c16 : PySem.W.codeIn K cd16 "_law_rising" = true) (k16 : PySem.W.keepIn K (.ref f16) = true)
    (a17 : PySem.W.nsIn K mainGlobals "_law_is_wish" = some (some (.ref f17))) (l17 : K.lookup f17 = some ⟨oc17, od17, .func (PySem.W.fnOf "_law_is_wish" "_law_is_wish" (defArgs sLiw) (defBody sLiw) (defScope sLiw) .none kV17 dc17 pm17 an17 cd17 ct17), sl17⟩) (c17 : PySem.W.codeIn K cd17 "_law_is_wish" = true) (k17 : PySem.W.keepIn K (.ref f17) = true)
    (a18 : PySem.W.nsIn K mainGlobals "_law_is_riddle" = some (some (.ref f18))) (l18 : K.lookup f18 = some ⟨oc18, od18, .func (PySem.W.fnOf "_law_is_riddle" "_law_is_riddle" (defArgs sLir) (defBody sLir) (defScope sLir) .none kV18 dc18 pm18 an18 cd18 ct18), sl18⟩) (c18 : PySem.W.codeIn K cd18 "_law_is_riddle" = true) (k18 : PySem.W.keepIn K (.ref f18) = true)
    (a19 : PySem.W.nsIn K mainGlobals "_law_odd" = some (some (.ref f19))) (l19 : K.lookup f19 = some ⟨oc19, od19, .func (PySem.W.fnOf "_law_odd" "_law_odd" (defArgs sOdd) (defBody sOdd) (defScope sOdd) .none kV19 dc19 pm19 an19 cd19 ct19), sl19⟩) (c19 : PySem.W.codeIn K cd19 "_law_odd" = true) (k19 : PySem.W.keepIn K (.ref f19) = true)
    (a20 : PySem.W.nsIn K mainGlobals "_law_bent_tuple" = some (some (.ref f20))) (l20 : K.lookup f20 = some ⟨oc20, od20, .func (PySem.W.fnOf "_law_bent_tuple" "_law_bent_tuple" (defArgs sBtu) (defBody sBtu) (defScope sBtu) .none kV20 dc20 pm20 an20 cd20 ct20), sl20⟩) (c20 : PySem.W.codeIn K cd20 "_law_bent_tuple" = true) (k20 : PySem.W.keepIn K (.ref f20) = true)
    (a21 : PySem.W.nsIn K mainGlobals "_law_bent_wish" = some (some (.ref f21))) (l21 : K.lookup f21 = some ⟨oc21, od21, .func (PySem.W.fnOf "_law_bent_wish" "_law_bent_wish" (defArgs sBwi) (defBody sBwi) (defScope sBwi) .none kV21 dc21 pm21 an21 cd21 ct21), sl21⟩) (c21 : PySem.W.codeIn K cd21 "_law_bent_wish" = true) (k21 : PySem.W.keepIn K (.ref f21) = true)
    (a22 : PySem.W.nsIn K mainGlobals "_law_bent_more" = some (some (.ref f22))) (l22 : K.lookup f22 = some ⟨oc22, od22, .func (PySem.W.fnOf "_law_bent_more" "_law_bent_more" (defArgs sBmo) (defBody sBmo) (defScope sBmo) .none kV22 dc22 pm22 an22 cd22 ct22), sl22⟩) (c22 : PySem.W.codeIn K cd22 "_law_bent_more" = true) (k22 : PySem.W.keepIn K (.ref f22) = true)
    (a23 : PySem.W.nsIn K mainGlobals "_law_listed" = some (some (.ref f23))) (l23 : K.lookup f23 = some ⟨oc23, od23, .func (PySem.W.fnOf "_law_listed" "_law_listed" (defArgs sLst) (defBody sLst) (defScope sLst) .none kV23 dc23 pm23 an23 cd23 ct23), sl23⟩) (c23 : PySem.W.codeIn K cd23 "_law_listed" = true) (k23 : PySem.W.keepIn K (.ref f23) = true)
    (a24 : PySem.W.nsIn K mainGlobals "_law_bent" = some (some (.ref f24))) (l24 : K.lookup f24 = some ⟨oc24, od24, .func (PySem.W.fnOf "_law_bent" "_law_bent" (defArgs sBnt) (defBody sBnt) (defScope sBnt) .none kV24 dc24 pm24 an24 cd24 ct24), sl24⟩) (c24 : PySem.W.codeIn K cd24 "_law_bent" = true) (k24 : PySem.W.keepIn K (.ref f24) = true)
    (a25 : PySem.W.nsIn K mainGlobals "law" = some (some (.ref f25))) (l25 : K.lookup f25 = some ⟨oc25, od25, .func (PySem.W.fnOf "law" "law" (defArgs sLaw) (defBody sLaw) (defScope sLaw) .none kV25 dc25 pm25 an25 cd25 ct25), sl25⟩) (c25 : PySem.W.codeIn K cd25 "law" = true) (k25 : PySem.W.keepIn K (.ref f25) = true)
    (z_abs : PySem.W.nsIn K mainGlobals "abs" = some none)
    (z_all : PySem.W.nsIn K mainGlobals "all" = some none)
    (z_bool : PySem.W.nsIn K mainGlobals "bool" = some none)
    (z_int : PySem.W.nsIn K mainGlobals "int" = some none)
    (z_isinstance : PySem.W.nsIn K mainGlobals "isinstance" = some none)
    (z_len : PySem.W.nsIn K mainGlobals "len" = some none)
    (z_list : PySem.W.nsIn K mainGlobals "list" = some none)
    (z_max : PySem.W.nsIn K mainGlobals "max" = some none)
    (z_min : PySem.W.nsIn K mainGlobals "min" = some none)
    (z_range : PySem.W.nsIn K mainGlobals "range" = some none)
    (z_repr : PySem.W.nsIn K mainGlobals "repr" = some none)
    (z_sorted : PySem.W.nsIn K mainGlobals "sorted" = some none)
    (z_tuple : PySem.W.nsIn K mainGlobals "tuple" = some none)
    (q_MOST_PLACES : PySem.W.nsIn K mainGlobals "MOST_PLACES" = some (some (.int 6 tk_MOST_PLACES)))
    (q_LEAST_HUES : PySem.W.nsIn K mainGlobals "LEAST_HUES" = some (some (.int 2 tk_LEAST_HUES)))
    (q_MOST_HUES : PySem.W.nsIn K mainGlobals "MOST_HUES" = some (some (.int 4 tk_MOST_HUES)))
    (q_MOST_FILLINGS : PySem.W.nsIn K mainGlobals "MOST_FILLINGS" = some (some (.int 256 tk_MOST_FILLINGS)))
    (q_MOST_WISHES : PySem.W.nsIn K mainGlobals "MOST_WISHES" = some (some (.int 8 tk_MOST_WISHES)))
    (q_MOST_PLACES_OF_A_WISH : PySem.W.nsIn K mainGlobals "MOST_PLACES_OF_A_WISH" = some (some (.int 3 tk_MOST_PLACES_OF_A_WISH))) :
    ∃ fd : FuncData, Fun K "law" "law" sLaw fa fd ∧ (∀ (s : Shared) (v : Value), BindsTo s fd ⟨[v], []⟩ [("script", v)]) ∧ ∀ (base : Heap) (H : Hp) (cdv : Value) (a : Addr) (ns : List Int) (s : Shared), K.In base → base.Ns mainGlobals mg → (∀ y ∈ [("is_rising" : Str), ("are_places" : Str), ("are_hues" : Str), ("are_rows" : Str), ("is_riddle" : Str)], GxR.TabB base mg (tb y).1 (tb y).2) → (∀ y ∈ [("is_rising" : Str), ("are_places" : Str), ("are_hues" : Str), ("are_rows" : Str), ("is_riddle" : Str)], H (tb y).2 = some (.tbl #[])) → ns.length ≤ 63 → (∀ z ∈ ns, Builtin.Int.intBits z ≤ 1048576) → SqL K H a (ns.map V.int) → Room 13 (callerA.deeper (envOfC "law" (defScope sLaw) s.heap.objs.size fa cdv)) →
        ∃ t, PSs (cxOf CX0 l.prog w K mg base nLaw "law" (defScope sLaw) fa cdv callerA [] s H (fun _ _ _ => False)).nox (defBody sLaw) t ∧ t { nx := fun _ _ => False, rt := fun v _ => v = .bl true } (start nLaw [.ref a]) H := by
  have e := hfa.symm.trans (PySem.W.mg_of X G a25)
  cases e
  have F1 := fun_mk (st := sNum) l1 c1 k1
  have F2 := fun_mk (st := sRis) l2 c2 k2
  have F3 := fun_mk (st := sFnu) l3 c3 k3
  have F4 := fun_mk (st := sSiz) l4 c4 k4
  have F5 := fun_mk (st := sPls) l5 c5 k5
  have F6 := fun_mk (st := sHus) l6 c6 k6
  have F7 := fun_mk (st := sRws) l7 c7 k7
  have F8 := fun_mk (st := sWsh) l8 c8 k8
  have F9 := fun_mk (st := sIrd) l9 c9 k9
  have F10 := fun_mk (st := sWell) l10 c10 k10
  have F11 := fun_mk (st := sDraw) l11 c11 k11
  have F12 := fun_mk (st := sPow) l12 c12 k12
  have F13 := fun_mk (st := sWis) l13 c13 k13
  have F14 := fun_mk (st := sRid) l14 c14 k14
  have F15 := fun_mk (st := sLwh) l15 c15 k15
  have F16 := fun_mk (st := sLri) l16 c16 k16
  have F17 := fun_mk (st := sLiw) l17 c17 k17
  have F18 := fun_mk (st := sLir) l18 c18 k18
  have F19 := fun_mk (st := sOdd) l19 c19 k19
  have F20 := fun_mk (st := sBtu) l20 c20 k20
  have F21 := fun_mk (st := sBwi) l21 c21 k21
  have F22 := fun_mk (st := sBmo) l22 c22 k22
  have F23 := fun_mk (st := sLst) l23 c23 k23
  have F24 := fun_mk (st := sBnt) l24 c24 k24
  have F25 := fun_mk (st := sLaw) l25 c25 k25
  have b1 := F1.binds (ps := ["thing", "low", "high"]) fun _ _ _ _ _ _ us hl => match us, hl with | [_, _, _], _ => rfl
  have b2 := F2.binds (ps := ["parts"]) fun _ _ _ _ _ _ us hl => match us, hl with | [_], _ => rfl
  have b3 := F3.binds (ps := ["many", "hues"]) fun _ _ _ _ _ _ us hl => match us, hl with | [_, _], _ => rfl
  have b4 := F4.binds (ps := ["many", "hues"]) fun _ _ _ _ _ _ us hl => match us, hl with | [_, _], _ => rfl
  have b5 := F5.binds (ps := ["thing", "many"]) fun _ _ _ _ _ _ us hl => match us, hl with | [_, _], _ => rfl
  have b6 := F6.binds (ps := ["thing", "length", "hues"]) fun _ _ _ _ _ _ us hl => match us, hl with | [_, _, _], _ => rfl
  have b7 := F7.binds (ps := ["thing", "length", "hues"]) fun _ _ _ _ _ _ us hl => match us, hl with | [_, _, _], _ => rfl
  have b8 := F8.binds (ps := ["thing", "many", "hues"]) fun _ _ _ _ _ _ us hl => match us, hl with | [_, _, _], _ => rfl
  have b9 := F9.binds (ps := ["thing"]) fun _ _ _ _ _ _ us hl => match us, hl with | [_], _ => rfl
  have b10 := F10.binds (ps := ["script"]) fun _ _ _ _ _ _ us hl => match us, hl with | [_], _ => rfl
  have b11 := F11.binds (ps := ["well", "many"]) fun _ _ _ _ _ _ us hl => match us, hl with | [_, _], _ => rfl
  have b12 := F12.binds (ps := ["number", "many"]) fun _ _ _ _ _ _ us hl => match us, hl with | [_, _], _ => rfl
  have b13 := F13.binds (ps := ["well", "many", "hues"]) fun _ _ _ _ _ _ us hl => match us, hl with | [_, _, _], _ => rfl
  have b14 := F14.binds (ps := ["well", "most_places", "most_wishes"]) fun _ _ _ _ _ _ us hl => match us, hl with | [_, _, _], _ => rfl
  have b15 := F15.binds (ps := ["thing", "low", "high"]) fun _ _ _ _ _ _ us hl => match us, hl with | [_, _, _], _ => rfl
  have b16 := F16.binds (ps := ["things"]) fun _ _ _ _ _ _ us hl => match us, hl with | [_], _ => rfl
  have b17 := F17.binds (ps := ["thing", "many", "hues"]) fun _ _ _ _ _ _ us hl => match us, hl with | [_, _, _], _ => rfl
  have b18 := F18.binds (ps := ["thing"]) fun _ _ _ _ _ _ us hl => match us, hl with | [_], _ => rfl
  have b19 := F19.binds (ps := ["well", "high"]) fun _ _ _ _ _ _ us hl => match us, hl with | [_, _], _ => rfl
  have b20 := F20.binds (ps := ["well", "things", "odd"]) fun _ _ _ _ _ _ us hl => match us, hl with | [_, _, _], _ => rfl
  have b21 := F21.binds (ps := ["well", "wish", "many", "hues"]) fun _ _ _ _ _ _ us hl => match us, hl with | [_, _, _, _], _ => rfl
  have b22 := F22.binds (ps := ["well", "riddle"]) fun _ _ _ _ _ _ us hl => match us, hl with | [_, _], _ => rfl
  have b23 := F23.binds (ps := ["thing"]) fun _ _ _ _ _ _ us hl => match us, hl with | [_], _ => rfl
  have b24 := F24.binds (ps := ["well", "riddle"]) fun _ _ _ _ _ _ us hl => match us, hl with | [_, _], _ => rfl
  have m_abs := PySem.W.mg_none_of X G z_abs
  have m_all := PySem.W.mg_none_of X G z_all
  have m_bool := PySem.W.mg_none_of X G z_bool
  have m_int := PySem.W.mg_none_of X G z_int
  have m_isinstance := PySem.W.mg_none_of X G z_isinstance
  have m_len := PySem.W.mg_none_of X G z_len
  have m_list := PySem.W.mg_none_of X G z_list
  have m_max := PySem.W.mg_none_of X G z_max
  have m_min := PySem.W.mg_none_of X G z_min
  have m_range := PySem.W.mg_none_of X G z_range
  have m_repr := PySem.W.mg_none_of X G z_repr
  have m_sorted := PySem.W.mg_none_of X G z_sorted
  have m_tuple := PySem.W.mg_none_of X G z_tuple
  have g1 := PySem.W.mg_of X G a1
  have g2 := PySem.W.mg_of X G a2
  have g3 := PySem.W.mg_of X G a3
  have g4 := PySem.W.mg_of X G a4
  have g5 := PySem.W.mg_of X G a5
  have g6 := PySem.W.mg_of X G a6
  have g7 := PySem.W.mg_of X G a7
  have g8 := PySem.W.mg_of X G a8
  have g9 := PySem.W.mg_of X G a9
  have g10 := PySem.W.mg_of X G a10
  have g11 := PySem.W.mg_of X G a11
  have g12 := PySem.W.mg_of X G a12
  have g13 := PySem.W.mg_of X G a13
  have g14 := PySem.W.mg_of X G a14
  have g15 := PySem.W.mg_of X G a15
  have g16 := PySem.W.mg_of X G a16
  have g17 := PySem.W.mg_of X G a17
  have g18 := PySem.W.mg_of X G a18
  have g19 := PySem.W.mg_of X G a19
  have g20 := PySem.W.mg_of X G a20
  have g21 := PySem.W.mg_of X G a21
  have g22 := PySem.W.mg_of X G a22
  have g23 := PySem.W.mg_of X G a23
  have g24 := PySem.W.mg_of X G a24
  have g25 := PySem.W.mg_of X G a25
  have tc2 := (ht "is_rising" (by decide)).code X g2 l2
  cases tc2
  have tc5 := (ht "are_places" (by decide)).code X g5 l5
  cases tc5
  have tc6 := (ht "are_hues" (by decide)).code X g6 l6
  cases tc6
  have tc7 := (ht "are_rows" (by decide)).code X g7 l7
  cases tc7
  have tc9 := (ht "is_riddle" (by decide)).code X g9 l9
  cases tc9
  refine ⟨_, F25, fun s v => .of_eq rfl, fun base H cdv a ns s kb gb tB tH hl hb hS hrm => ?_⟩
  have TB2 := tB "is_rising" (by decide)
  have TH2 := tH "is_rising" (by decide)
  have TB5 := tB "are_places" (by decide)
  have TH5 := tH "are_places" (by decide)
  have TB6 := tB "are_hues" (by decide)
  have TH6 := tH "are_hues" (by decide)
  have TB7 := tB "are_rows" (by decide)
  have TH7 := tH "are_rows" (by decide)
  have TB9 := tB "is_riddle" (by decide)
  have TH9 := tH "is_riddle" (by decide)
  have C1 : Cal l.prog w K mg base 1 "is_number" ["thing", "low", "high"] spNumA := ⟨_, _, ok_numA (k := 0) F1 { m_isinstance := m_isinstance, m_int := m_int, m_bool := m_bool, m_tuple := m_tuple, m_len := m_len, m_all := m_all, m_range := m_range, g_MOST_PLACES := ⟨_, PySem.W.mg_of X G q_MOST_PLACES, ⟨_, rfl⟩⟩, g_LEAST_HUES := ⟨_, PySem.W.mg_of X G q_LEAST_HUES, ⟨_, rfl⟩⟩, g_MOST_HUES := ⟨_, PySem.W.mg_of X G q_MOST_HUES, ⟨_, rfl⟩⟩, g_MOST_FILLINGS := ⟨_, PySem.W.mg_of X G q_MOST_FILLINGS, ⟨_, rfl⟩⟩, g_MOST_WISHES := ⟨_, PySem.W.mg_of X G q_MOST_WISHES, ⟨_, rfl⟩⟩, g_MOST_PLACES_OF_A_WISH := ⟨_, PySem.W.mg_of X G q_MOST_PLACES_OF_A_WISH, ⟨_, rfl⟩⟩ }, g1, k1, b1⟩
  have C3 : Cal l.prog w K mg base 1 "fillings_number" ["many", "hues"] spFno := ⟨_, _, ok_fno (k := 0) F3 { m_isinstance := m_isinstance, m_int := m_int, m_bool := m_bool, m_tuple := m_tuple, m_len := m_len, m_all := m_all, m_range := m_range, g_MOST_PLACES := ⟨_, PySem.W.mg_of X G q_MOST_PLACES, ⟨_, rfl⟩⟩, g_LEAST_HUES := ⟨_, PySem.W.mg_of X G q_LEAST_HUES, ⟨_, rfl⟩⟩, g_MOST_HUES := ⟨_, PySem.W.mg_of X G q_MOST_HUES, ⟨_, rfl⟩⟩, g_MOST_FILLINGS := ⟨_, PySem.W.mg_of X G q_MOST_FILLINGS, ⟨_, rfl⟩⟩, g_MOST_WISHES := ⟨_, PySem.W.mg_of X G q_MOST_WISHES, ⟨_, rfl⟩⟩, g_MOST_PLACES_OF_A_WISH := ⟨_, PySem.W.mg_of X G q_MOST_PLACES_OF_A_WISH, ⟨_, rfl⟩⟩ }, g3, k3, b3⟩
  have C2 : Cal l.prog w K mg base 2 "is_rising" ["parts"] (spRisA [(tb "is_rising").2, (tb "are_places").2, (tb "are_hues").2, (tb "are_rows").2, (tb "is_riddle").2]) := ⟨_, _, ok_risA (k := 0) ⟨⟨_, _, _, _, _, _, _, _, rfl, l2, c2⟩⟩ TB2 (by simp) { m_isinstance := m_isinstance, m_int := m_int, m_bool := m_bool, m_tuple := m_tuple, m_len := m_len, m_all := m_all, m_range := m_range, g_MOST_PLACES := ⟨_, PySem.W.mg_of X G q_MOST_PLACES, ⟨_, rfl⟩⟩, g_LEAST_HUES := ⟨_, PySem.W.mg_of X G q_LEAST_HUES, ⟨_, rfl⟩⟩, g_MOST_HUES := ⟨_, PySem.W.mg_of X G q_MOST_HUES, ⟨_, rfl⟩⟩, g_MOST_FILLINGS := ⟨_, PySem.W.mg_of X G q_MOST_FILLINGS, ⟨_, rfl⟩⟩, g_MOST_WISHES := ⟨_, PySem.W.mg_of X G q_MOST_WISHES, ⟨_, rfl⟩⟩, g_MOST_PLACES_OF_A_WISH := ⟨_, PySem.W.mg_of X G q_MOST_PLACES_OF_A_WISH, ⟨_, rfl⟩⟩ }, g2, k2, b2⟩
  have C4 : Cal l.prog w K mg base 2 "is_size" ["many", "hues"] spSizA := ⟨_, _, ok_sizA (k := 0) F4 { m_isinstance := m_isinstance, m_int := m_int, m_bool := m_bool, m_tuple := m_tuple, m_len := m_len, m_all := m_all, m_range := m_range, g_MOST_PLACES := ⟨_, PySem.W.mg_of X G q_MOST_PLACES, ⟨_, rfl⟩⟩, g_LEAST_HUES := ⟨_, PySem.W.mg_of X G q_LEAST_HUES, ⟨_, rfl⟩⟩, g_MOST_HUES := ⟨_, PySem.W.mg_of X G q_MOST_HUES, ⟨_, rfl⟩⟩, g_MOST_FILLINGS := ⟨_, PySem.W.mg_of X G q_MOST_FILLINGS, ⟨_, rfl⟩⟩, g_MOST_WISHES := ⟨_, PySem.W.mg_of X G q_MOST_WISHES, ⟨_, rfl⟩⟩, g_MOST_PLACES_OF_A_WISH := ⟨_, PySem.W.mg_of X G q_MOST_PLACES_OF_A_WISH, ⟨_, rfl⟩⟩, c_is_number := C1, c_fillings_number := C3 }, g4, k4, b4⟩
  have C5 : Cal l.prog w K mg base 3 "are_places" ["thing", "many"] (spPlsA [(tb "is_rising").2, (tb "are_places").2, (tb "are_hues").2, (tb "are_rows").2, (tb "is_riddle").2]) := ⟨_, _, ok_plsA (k := 0) ⟨⟨_, _, _, _, _, _, _, _, rfl, l5, c5⟩⟩ TB5 (by simp) { m_isinstance := m_isinstance, m_int := m_int, m_bool := m_bool, m_tuple := m_tuple, m_len := m_len, m_all := m_all, m_range := m_range, g_MOST_PLACES := ⟨_, PySem.W.mg_of X G q_MOST_PLACES, ⟨_, rfl⟩⟩, g_LEAST_HUES := ⟨_, PySem.W.mg_of X G q_LEAST_HUES, ⟨_, rfl⟩⟩, g_MOST_HUES := ⟨_, PySem.W.mg_of X G q_MOST_HUES, ⟨_, rfl⟩⟩, g_MOST_FILLINGS := ⟨_, PySem.W.mg_of X G q_MOST_FILLINGS, ⟨_, rfl⟩⟩, g_MOST_WISHES := ⟨_, PySem.W.mg_of X G q_MOST_WISHES, ⟨_, rfl⟩⟩, g_MOST_PLACES_OF_A_WISH := ⟨_, PySem.W.mg_of X G q_MOST_PLACES_OF_A_WISH, ⟨_, rfl⟩⟩, c_is_number := C1, c_fillings_number := C3, c_is_rising := C2 }, g5, k5, b5⟩
  have C6 : Cal l.prog w K mg base 3 "are_hues" ["thing", "length", "hues"] (spHusA [(tb "is_rising").2, (tb "are_places").2, (tb "are_hues").2, (tb "are_rows").2, (tb "is_riddle").2]) := ⟨_, _, ok_husA (k := 0) ⟨⟨_, _, _, _, _, _, _, _, rfl, l6, c6⟩⟩ TB6 (by simp) { m_isinstance := m_isinstance, m_int := m_int, m_bool := m_bool, m_tuple := m_tuple, m_len := m_len, m_all := m_all, m_range := m_range, g_MOST_PLACES := ⟨_, PySem.W.mg_of X G q_MOST_PLACES, ⟨_, rfl⟩⟩, g_LEAST_HUES := ⟨_, PySem.W.mg_of X G q_LEAST_HUES, ⟨_, rfl⟩⟩, g_MOST_HUES := ⟨_, PySem.W.mg_of X G q_MOST_HUES, ⟨_, rfl⟩⟩, g_MOST_FILLINGS := ⟨_, PySem.W.mg_of X G q_MOST_FILLINGS, ⟨_, rfl⟩⟩, g_MOST_WISHES := ⟨_, PySem.W.mg_of X G q_MOST_WISHES, ⟨_, rfl⟩⟩, g_MOST_PLACES_OF_A_WISH := ⟨_, PySem.W.mg_of X G q_MOST_PLACES_OF_A_WISH, ⟨_, rfl⟩⟩, c_is_number := C1, c_fillings_number := C3, c_is_rising := C2 }, g6, k6, b6⟩
  have C7 : Cal l.prog w K mg base 5 "are_rows" ["thing", "length", "hues"] (spRwsA [(tb "is_rising").2, (tb "are_places").2, (tb "are_hues").2, (tb "are_rows").2, (tb "is_riddle").2]) := ⟨_, _, ok_rwsA (k := 0) ⟨⟨_, _, _, _, _, _, _, _, rfl, l7, c7⟩⟩ TB7 (by simp) { m_isinstance := m_isinstance, m_int := m_int, m_bool := m_bool, m_tuple := m_tuple, m_len := m_len, m_all := m_all, m_range := m_range, g_MOST_PLACES := ⟨_, PySem.W.mg_of X G q_MOST_PLACES, ⟨_, rfl⟩⟩, g_LEAST_HUES := ⟨_, PySem.W.mg_of X G q_LEAST_HUES, ⟨_, rfl⟩⟩, g_MOST_HUES := ⟨_, PySem.W.mg_of X G q_MOST_HUES, ⟨_, rfl⟩⟩, g_MOST_FILLINGS := ⟨_, PySem.W.mg_of X G q_MOST_FILLINGS, ⟨_, rfl⟩⟩, g_MOST_WISHES := ⟨_, PySem.W.mg_of X G q_MOST_WISHES, ⟨_, rfl⟩⟩, g_MOST_PLACES_OF_A_WISH := ⟨_, PySem.W.mg_of X G q_MOST_PLACES_OF_A_WISH, ⟨_, rfl⟩⟩, c_is_number := C1, c_fillings_number := C3, c_is_rising := C2, c_are_hues := C6 }, g7, k7, b7⟩
  have C8 : Cal l.prog w K mg base 6 "is_wish" ["thing", "many", "hues"] (spWshA [(tb "is_rising").2, (tb "are_places").2, (tb "are_hues").2, (tb "are_rows").2, (tb "is_riddle").2]) := ⟨_, _, ok_wshA (k := 0) F8 { m_isinstance := m_isinstance, m_int := m_int, m_bool := m_bool, m_tuple := m_tuple, m_len := m_len, m_all := m_all, m_range := m_range, g_MOST_PLACES := ⟨_, PySem.W.mg_of X G q_MOST_PLACES, ⟨_, rfl⟩⟩, g_LEAST_HUES := ⟨_, PySem.W.mg_of X G q_LEAST_HUES, ⟨_, rfl⟩⟩, g_MOST_HUES := ⟨_, PySem.W.mg_of X G q_MOST_HUES, ⟨_, rfl⟩⟩, g_MOST_FILLINGS := ⟨_, PySem.W.mg_of X G q_MOST_FILLINGS, ⟨_, rfl⟩⟩, g_MOST_WISHES := ⟨_, PySem.W.mg_of X G q_MOST_WISHES, ⟨_, rfl⟩⟩, g_MOST_PLACES_OF_A_WISH := ⟨_, PySem.W.mg_of X G q_MOST_PLACES_OF_A_WISH, ⟨_, rfl⟩⟩, c_are_places := C5, c_are_rows := C7 }, g8, k8, b8⟩
  have C9 : Cal l.prog w K mg base 8 "is_riddle" ["thing"] (spIrdA [(tb "is_rising").2, (tb "are_places").2, (tb "are_hues").2, (tb "are_rows").2, (tb "is_riddle").2]) := ⟨_, _, ok_irdA (k := 0) ⟨⟨_, _, _, _, _, _, _, _, rfl, l9, c9⟩⟩ TB9 (by simp) { m_isinstance := m_isinstance, m_int := m_int, m_bool := m_bool, m_tuple := m_tuple, m_len := m_len, m_all := m_all, m_range := m_range, g_MOST_PLACES := ⟨_, PySem.W.mg_of X G q_MOST_PLACES, ⟨_, rfl⟩⟩, g_LEAST_HUES := ⟨_, PySem.W.mg_of X G q_LEAST_HUES, ⟨_, rfl⟩⟩, g_MOST_HUES := ⟨_, PySem.W.mg_of X G q_MOST_HUES, ⟨_, rfl⟩⟩, g_MOST_FILLINGS := ⟨_, PySem.W.mg_of X G q_MOST_FILLINGS, ⟨_, rfl⟩⟩, g_MOST_WISHES := ⟨_, PySem.W.mg_of X G q_MOST_WISHES, ⟨_, rfl⟩⟩, g_MOST_PLACES_OF_A_WISH := ⟨_, PySem.W.mg_of X G q_MOST_PLACES_OF_A_WISH, ⟨_, rfl⟩⟩, c_is_size := C4, c_is_wish := C8 }, g9, k9, b9⟩
  have C10 : Cal l.prog w K mg base 1 "_law_well" ["script"] (spWell K) := ⟨_, _, ok_well (k := 0) F10 m_abs, g10, k10, b10⟩
  have C11 : Cal l.prog w K mg base 1 "_law_draw" ["well", "many"] spDraw := ⟨_, _, ok_draw (k := 0) F11, g11, k11, b11⟩
  have C12 : Cal l.prog w K mg base 1 "_law_power" ["number", "many"] spPow := ⟨_, _, ok_pow (k := 0) F12 m_range, g12, k12, b12⟩
  have C13 : Cal l.prog w K mg base 2 "_law_wish" ["well", "many", "hues"] spWis := ⟨_, _, ok_wis (k := 0) F13 { m_range := m_range, m_list := m_list, m_min := m_min, m_max := m_max, m_len := m_len, m_sorted := m_sorted, m_tuple := m_tuple, c__law_draw := C11, c__law_power := C12 }, g13, k13, b13⟩
  have C14 : Cal l.prog w K mg base 3 "_law_riddle" ["well", "most_places", "most_wishes"] spRid := ⟨_, _, ok_rid (k := 0) F14 { m_range := m_range, m_list := m_list, m_min := m_min, m_max := m_max, m_len := m_len, m_sorted := m_sorted, m_tuple := m_tuple, c__law_draw := C11, c__law_power := C12, c__law_wish := C13 }, g14, k14, b14⟩
  have C15 : Cal l.prog w K mg base 1 "_law_whole" ["thing", "low", "high"] spLwA := ⟨_, _, ok_lwA (k := 0) F15 { m_isinstance := m_isinstance, m_int := m_int, m_bool := m_bool }, g15, k15, b15⟩
  have C16 : Cal l.prog w K mg base 1 "_law_rising" ["things"] spLri := ⟨_, _, ok_lri (k := 0) F16 { m_isinstance := m_isinstance, m_int := m_int, m_bool := m_bool, m_tuple := m_tuple, m_len := m_len, m_range := m_range }, g16, k16, b16⟩
  have C17 : Cal l.prog w K mg base 2 "_law_is_wish" ["thing", "many", "hues"] spLiwA := ⟨_, _, ok_liwA (k := 0) F17 { m_isinstance := m_isinstance, m_int := m_int, m_bool := m_bool, m_tuple := m_tuple, m_len := m_len, m_range := m_range, c__law_whole := C15, c__law_rising := C16 }, g17, k17, b17⟩
  have C18 : Cal l.prog w K mg base 3 "_law_is_riddle" ["thing"] spLirA := ⟨_, _, ok_lirA (k := 0) F18 { m_isinstance := m_isinstance, m_int := m_int, m_bool := m_bool, m_tuple := m_tuple, m_len := m_len, m_range := m_range, c__law_whole := C15, c__law_power := C12, c__law_is_wish := C17 }, g18, k18, b18⟩
  have C19 : Cal l.prog w K mg base 2 "_law_odd" ["well", "high"] spOdA := ⟨_, _, ok_odA (k := 0) F19 { c__law_draw := C11 }, g19, k19, b19⟩
  have C20 : Cal l.prog w K mg base 2 "_law_bent_tuple" ["well", "things", "odd"] spBtuA := ⟨_, _, ok_btuA (k := 0) F20 { m_list := m_list, m_len := m_len, c__law_draw := C11 }, g20, k20, b20⟩
  have C21 : Cal l.prog w K mg base 3 "_law_bent_wish" ["well", "wish", "many", "hues"] spBwA := ⟨_, _, ok_bwA (k := 0) F21 { m_len := m_len, m_list := m_list, m_tuple := m_tuple, m_range := m_range, m_min := m_min, c__law_draw := C11, c__law_odd := C19, c__law_bent_tuple := C20 }, g21, k21, b21⟩
  have C22 : Cal l.prog w K mg base 3 "_law_bent_more" ["well", "riddle"] spBmA := ⟨_, _, ok_bmA (k := 0) F22 { m_tuple := m_tuple, m_int := m_int, c__law_draw := C11, c__law_odd := C19, c__law_bent_tuple := C20 }, g22, k22, b22⟩
  have C23 : Cal l.prog w K mg base 11 "_law_listed" ["thing"] (spLsA 10) := ⟨_, _, ok_ls F23 m_isinstance m_tuple g23 k23 b23 10, g23, k23, b23⟩
  have C24 : Cal l.prog w K mg base 12 "_law_bent" ["well", "riddle"] spBnA := ⟨_, _, ok_bnA (k := 0) F24 { m_isinstance := m_isinstance, m_tuple := m_tuple, m_list := m_list, m_len := m_len, c__law_draw := C11, c__law_odd := C19, c__law_wish := C13, c__law_is_riddle := C18, c__law_bent_wish := C21, c__law_listed := C23 }, g24, k24, b24⟩
  have hTs : Tabs [(tb "is_rising").2, (tb "are_places").2, (tb "are_hues").2, (tb "are_rows").2, (tb "is_riddle").2] H := fun P hP => by
    simp only [List.mem_cons, List.not_mem_nil, or_false] at hP
    rcases hP with rfl | rfl | rfl | rfl | rfl
    · exact ⟨#[], TH2, trivial⟩
    · exact ⟨#[], TH5, trivial⟩
    · exact ⟨#[], TH6, trivial⟩
    · exact ⟨#[], TH7, trivial⟩
    · exact ⟨#[], TH9, trivial⟩
  exact body_law (Ps := [(tb "is_rising").2, (tb "are_places").2, (tb "are_hues").2, (tb "are_rows").2, (tb "is_riddle").2])  { m_range := m_range, m_repr := m_repr, m_isinstance := m_isinstance, m_bool := m_bool, c__law_well := C10, c__law_draw := C11, c__law_riddle := C14, c__law_bent_more := C22, c__law_bent := C24, c__law_is_riddle := C18, c_is_riddle := C9 } hl hb hTs hS hrm
end Rd

set_option Elab.async false
set_option linter.all false
set_option maxRecDepth 100000
set_option maxHeartbeats 4000000
open PySem PySem.W PyProof.Rows
set_option maxHeartbeats 0 in
theorem PySem.Challenge.cw_redraw_k01_what_is_a_riddle_holds : PySem.Challenge.rw_redraw_k01_what_is_a_riddle.Holds := by
  w_on; o_law; k_head; (case hw => w_witness2)
  k_fill
  refine Lg.walk_of (l := PySem.Challenge.rw_redraw_k01_what_is_a_riddle) (n := 63) (k := 13) (x := "law") (qual := "law") (par := "script") (st := Rd.sLaw) (N := Rd.nLaw) ["is_rising", "are_places", "are_hues", "are_rows", "is_riddle"] rfl (by decide) rfl ⟨rfl, by decide, by decide⟩ (by rfl) ?hK (fun w h Y => PySem.W.kIn_of Y) Rd.scLaw ?F
  case hK => intro w; kernel_rfl
  case F =>
    intro w mg fa h tb KX G hmg ht
    refine' Rd.all_mk KX G hmg ht ?a1 ?l1 ?c1 ?k1 ?a2 ?l2 ?c2 ?k2 ?a3 ?l3 ?c3 ?k3 ?a4 ?l4 ?c4 ?k4 ?a5 ?l5 ?c5 ?k5 ?a6 ?l6 ?c6 ?k6 ?a7 ?l7 ?c7 ?k7 ?a8 ?l8 ?c8 ?k8 ?a9 ?l9 ?c9 ?k9 ?a10 ?l10 ?c10 ?k10 ?a11 ?l11 ?c11 ?k11 ?a12 ?l12 ?c12 ?k12 ?a13 ?l13 ?c13 ?k13 ?a14 ?l14 ?c14 ?k14 ?a15 ?l15 ?c15 ?k15 ?a16 ?l16 ?c16 ?k16 ?a17 ?l17 ?c17 ?k17 ?a18 ?l18 ?c18 ?k18 ?a19 ?l19 ?c19 ?k19 ?a20 ?l20 ?c20 ?k20 ?a21 ?l21 ?c21 ?k21 ?a22 ?l22 ?c22 ?k22 ?a23 ?l23 ?c23 ?k23 ?a24 ?l24 ?c24 ?k24 ?a25 ?l25 ?c25 ?k25 ?z_abs ?z_all ?z_bool ?z_int ?z_isinstance ?z_len ?z_list ?z_max ?z_min ?z_range ?z_repr ?z_sorted ?z_tuple ?q_MOST_PLACES ?q_LEAST_HUES ?q_MOST_HUES ?q_MOST_FILLINGS ?q_MOST_WISHES ?q_MOST_PLACES_OF_A_WISH
    (case a1 => k_is); (case l1 => k_is); (case c1 => k_is); (case k1 => k_is); (case a2 => k_is); (case l2 => k_is); (case c2 => k_is); (case k2 => k_is); (case a3 => k_is); (case l3 => k_is); (case c3 => k_is); (case k3 => k_is); (case a4 => k_is); (case l4 => k_is); (case c4 => k_is); (case k4 => k_is); (case a5 => k_is); (case l5 => k_is); (case c5 => k_is); (case k5 => k_is); (case a6 => k_is); (case l6 => k_is); (case c6 => k_is); (case k6 => k_is); (case a7 => k_is); (case l7 => k_is); (case c7 => k_is); (case k7 => k_is); (case a8 => k_is); (case l8 => k_is); (case c8 => k_is); (case k8 => k_is); (case a9 => k_is); (case l9 => k_is); (case c9 => k_is); (case k9 => k_is); (case a10 => k_is); (case l10 => k_is); (case c10 => k_is); (case k10 => k_is); (case a11 => k_is); (case l11 => k_is); (case c11 => k_is); (case k11 => k_is); (case a12 => k_is); (case l12 => k_is); (case c12 => k_is); (case k12 => k_is); (case a13 => k_is); (case l13 => k_is); (case c13 => k_is); (case k13 => k_is); (case a14 => k_is); (case l14 => k_is); (case c14 => k_is); (case k14 => k_is); (case a15 => k_is); (case l15 => k_is); (case c15 => k_is); (case k15 => k_is); (case a16 => k_is); (case l16 => k_is); (case c16 => k_is); (case k16 => k_is); (case a17 => k_is); (case l17 => k_is); (case c17 => k_is); (case k17 => k_is); (case a18 => k_is); (case l18 => k_is); (case c18 => k_is); (case k18 => k_is); (case a19 => k_is); (case l19 => k_is); (case c19 => k_is); (case k19 => k_is); (case a20 => k_is); (case l20 => k_is); (case c20 => k_is); (case k20 => k_is); (case a21 => k_is); (case l21 => k_is); (case c21 => k_is); (case k21 => k_is); (case a22 => k_is); (case l22 => k_is); (case c22 => k_is); (case k22 => k_is); (case a23 => k_is); (case l23 => k_is); (case c23 => k_is); (case k23 => k_is); (case a24 => k_is); (case l24 => k_is); (case c24 => k_is); (case k24 => k_is); (case a25 => k_is); (case l25 => k_is); (case c25 => k_is); (case k25 => k_is); (case z_abs => k_is); (case z_all => k_is); (case z_bool => k_is); (case z_int => k_is); (case z_isinstance => k_is); (case z_len => k_is); (case z_list => k_is); (case z_max => k_is); (case z_min => k_is); (case z_range => k_is); (case z_repr => k_is); (case z_sorted => k_is); (case z_tuple => k_is); (case q_MOST_PLACES => k_is); (case q_LEAST_HUES => k_is); (case q_MOST_HUES => k_is); (case q_MOST_FILLINGS => k_is); (case q_MOST_WISHES => k_is); (case q_MOST_PLACES_OF_A_WISH => k_is)
