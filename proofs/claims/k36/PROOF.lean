import PyProof.Rows.All
import Wide.All
import OpenK.AllK
import Wide.FinOn
import HandS.ForMost
import HandS.AnyAll
import PyProof.TupleOfGen
import PyProof.WalksMore
import HandS.Zip
import KE.GoesEnum
import HandS.Deep
import PyProof.Rows.RegFStrParts
import HandS.SortInts
import HandS.TupSets
import HandS.EndBits
import KE.KNest
import KE.DatumIndex
import HandS.GenList
import HandS.Wide
import HandS.Codes
import HandS.Conv
import HandS.TupAny
import KE.KIndexOf
import HandS.IsInst
import HandS.Style
import HandS.TupMul
import HandS.RaiseMore
import PyProof.SumAny
import HandS.DictComp
import HandS.Iter
import KE.KDictPairs
import HandS.TupLen
import HandS.Exc
import HandS.ExcIs
import HandS.ExcValue
import HandS.WordsExc
import HandS.ExcOwn
import PySem.Challenge.RW_redraw_k36_whole_weights_bound_what_come
set_option Elab.async false
set_option linter.all false
set_option maxRecDepth 100000
set_option maxHeartbeats 4000000
/-! generator expressions over a list or a tuple whose element keeps the heap: tuple(..), all(..), any(..) -/
namespace Gv
open PySem PySem.Spec PyProof.Rows L2
/-- a list or a tuple of these -/
def Sq (K : PySem.W.Frag) (H : Hp) (a : Addr) (xs : List V) : Prop := SqL K H a xs ∨ SqT K H a xs
section
variable {X : Cx} {pins : List (Addr × Obj)} {σ : L2.St} {H : Hp} {s : Shared}
/-- iter(a): its items, and a walk over them that writes its own new cell alone -/
theorem iter_sq {a : Addr} {xs : List V} (I : Inv X pins σ H s) (h : Sq X.K H a xs) :
    ∃ its : List Value, Vals xs its ∧ xs.length ≤ sizeLine ∧ a < s.heap.objs.size ∧ ∀ (Q : Value → Shared → Prop) (E : Value → Shared → Prop),
      (∀ (o : Obj) (St : Nat → Heap → Prop), (∀ A' : Around, A'.handled = none → Walks X.prog X.w A' s.heap.objs.size [s.heap.objs.size, a] [s.heap.objs.size] its.length (fun i v => its[i]? = some v) St) → St 0 (s.heap.push o) →
        Q (.ref s.heap.objs.size) { s with heap := s.heap.push o }) → wpAny (model X.prog X.w) X.A (pyIter (.ref a)) Q E s := by
  rcases h with h | h
  · obtain ⟨its, rv, pl, hz⟩ := I.list h
    have hL := pl.isList
    have hlt : a < s.heap.objs.size := let ⟨_, e, _⟩ := hL; Heap.lt_size e
    refine ⟨its, rv, hz, hlt, fun Q E k => wpAny_pyIter_list hL (k _ (fun i h => h.IsListIter s.heap.objs.size a i ∧ h.IsList a its.toArray) (fun A' hA => ?_) ⟨⟨_, Heap.get?_push_size _ rfl, rfl, rfl⟩, ?_⟩)⟩
    · have W := Walks.list (prog := X.prog) (w := X.w) hA s.heap.objs.size a (Nat.ne_of_lt hlt) its.toArray
      simpa using W
    · obtain ⟨o, e, r⟩ := hL
      exact ⟨o, Heap.get?_push_of_some _ e, r⟩
  · obtain ⟨its, rv, pl, hz⟩ := I.tuple h
    have hlt : a < s.heap.objs.size := pl.lt
    refine ⟨its, rv, hz, hlt, fun Q E k => wpAny_pyIter_tuple (show s.heap.IsTuple a its.toArray from pl) (k _ (fun i h => h.IsTupleIter s.heap.objs.size a i ∧ h.IsTuple a its.toArray) (fun A' hA => ?_) ⟨⟨_, Heap.get?_push_size _ rfl, rfl, rfl⟩, ?_⟩)⟩
    · have W := Walks.tuple (prog := X.prog) (w := X.w) hA s.heap.objs.size a (Nat.ne_of_lt hlt) its.toArray
      simpa using W
    · exact pl.push _
/-- the element, of the item x0 the value y0, with all that stood kept -/
def EltV (X : Cx) (pins : List (Addr × Obj)) (σ : L2.St) (scope : Scope) (x : Str) (elt : Expr) (P : Addr) (H1 : Hp) (xs ys : List V) : Prop :=
  ∀ (s1 t : Shared) (C : Addr) (code : Value) (bi : Addr) (A' : Around) (E' : Value → Shared → Prop) (i : Nat) (x0 : V) (u : Value) (m : Str → Option Value),
    Inv X pins σ H1 s1 → A'.handled = none → A'.units ≤ X.A.units + 8 → xs[i]? = some x0 → RelV x0 u → t.heap.Ns C m → m x = some u → (∀ b o, b ≠ P → s1.heap.get? b = some o → t.heap.get? b = some o) →
    wpAny (model X.prog X.w) A' (eval elt (genEnv scope (cloFrom X.env.cells scope.names []) C code bi X.env)) (fun y t' => (∃ y0, ys[i]? = some y0 ∧ RelV y0 y) ∧ Keeps t t') E' t
/-- the generator at g, about to give out the values ys -/
def Ready (X : Cx) (pins : List (Addr × Obj)) (σ : L2.St) (H1 : Hp) (P : Addr) (ys : List V) (g : Addr) (s5 : Shared) : Prop :=
  ∃ (fp wr : List Addr) (G : Array GenState → Array GenState → Prop) (F : Nat → Value → Prop) (St : Nat → Shared → Prop),
    WalksS X.prog X.w X.A.in4 g fp wr G ys.length F St ∧ St 0 s5 ∧ (∀ b ∈ fp, b < s5.heap.objs.size) ∧ g ∈ fp ∧ (∀ i s9, St i s9 → s9.TypeIs (.ref g) "generator") ∧
    (∀ j v, F j v → ∃ y, ys[j]? = some y ∧ RelV y v) ∧ ∀ s', Moved wr G s5 s' → ∃ H2, GxR.Tabbed P H1 H2 ∧ Inv X pins σ H2 s'
theorem gen_sq {c P : Addr} {elt iter : Expr} {x : Str} {px gpos : Pos} {scope : Scope} {te : TE} {k : Nat} {Q' : Value → Shared → Prop} {R : List V → Hp → Prop}
    (hr : Room k X.A) (TB : GxR.TabB X.base X.mg c P) (hcode : X.env.code = .ref c) (S : GxR.GenS X.env scope x) (hi : PE X iter te) (hs : ∀ v, genFold iter X.env v = pure v) (I : Inv X pins σ H s)
    (h : te σ H fun v H1 => ∃ (a : Addr) (xs ys : List V), v = .ref a ∧ Sq X.K H1 a xs ∧ ys.length = xs.length ∧ (∀ pins, EltV X pins σ scope x elt P H1 xs ys) ∧ GxR.TabG H1 P ∧ R ys H1)
    (hQ : ∀ ys H1 g s5, ys.length ≤ sizeLine → R ys H1 → Ready X pins σ H1 P ys g s5 → Q' (.ref g) s5) :
    wpAny (model X.prog X.w) X.A (eval (.GeneratorExp elt [⟨.Name x px, iter, [], 0⟩] scope gpos) X.env) Q' X.xe s := by
  refine wpAny_GeneratorExp_walksQD hr.hd S.co (closure_ok S.free) S.cell S.dot S.loc S.kind (by have := hr.dp; omega) (thn (hi.run pins s σ H _ I h) fun xv s1 ⟨v, H1, I1, r1, q1⟩ => ?_) hs
  obtain ⟨a, xs, ys, rfl, hsq, hyl, hel, ⟨ps, hP, ht⟩, q1⟩ := q1
  cases (show xv = Value.ref a from r1)
  obtain ⟨its, rv, hz, hlt, go⟩ := iter_sq I1 hsq
  refine go _ _ fun o St W st0 => ⟨I1.nolimit.push o, ?_⟩
  have tabS : s1.heap.get? P = some { cls := .none, data := .fields ps } := I1.hok P _ hP
  have ltP : P < s1.heap.objs.size := Heap.lt_size tabS
  have tab2 : (s1.heap.push o).get? P = some { cls := .none, data := .fields ps } := Heap.get?_push_of_some _ tabS
  have hd : PySem.W.CodeHd (s1.heap.push o) c P := TB.code.keeps fun b u e => Heap.get?_push_of_some _ (I1.bk b u e)
  have neI : s1.heap.objs.size ≠ P := fun z => Nat.lt_irrefl _ (z ▸ ltP)
  -- the code object of the expression, its table perhaps longer behind it
  have key : ∀ (REST : Value → Shared → Prop), (∀ (cv : Value) (h3 : Heap) (tk : Nat) (more : Array Value), Heap.ExtBut P (s1.heap.push o) h3 → (s1.heap.push o).objs.size ≤ h3.objs.size → h3.get? P = some { cls := .none, data := .fields (ps ++ more) } → TriplesOk (ps ++ more).toList → REST cv { s1 with heap := h3, toks := tk }) →
      wpAny (model X.prog X.w) X.A (genexprCode X.env gpos (X.env.qual ++ "<genexpr>") scope) REST X.xe { s1 with heap := s1.heap.push o } := fun REST fin => by
    cases hf : codeAmong gpos ps.toList with
    | some cv =>
      have e : ps = ps ++ #[] := by simp
      exact wpAny_genexprCode_hit hcode (hd.code tab2 ht) hf (fin cv _ s1.toks #[] (Heap.ExtBut.refl _ _) (Nat.le_refl _) (e ▸ tab2) (e ▸ ht))
    | none =>
      refine wpAny_genexprCodeX hcode (hd.code tab2 ht) (hd.tab tab2) hf fun c' h3 tk ex ge lt ic _ ta _ => ?_
      obtain ⟨_, _, _, _, _, _, _, _, _, _, _, _, _, _, _, _, _, _, _, tr, _⟩ := ic
      exact fin _ h3 tk _ ex (Nat.le_trans ge (Nat.le_of_lt lt)) ta.2 tr
  refine key _ fun cv h3 tk more ex ge tab3 tr3 => ?_
  obtain ⟨bm, ob, b1, b2, b3, b4, b5, b6, b7, b8⟩ := TB.bm
  have up : ∀ b u, b ≠ P → s1.heap.get? b = some u → h3.get? b = some u := fun b u n e => ex b u n (Heap.get?_push_of_some _ e)
  have sz : s1.heap.objs.size + 1 ≤ h3.objs.size := by rw [← Heap.size_push s1.heap o]; exact ge
  have nlS : cStatics ≠ P ∧ cStatics < s1.heap.objs.size := by
    obtain ⟨_, ns, _⟩ := I1.nolimit
    refine ⟨fun z => ?_, ns.lt⟩
    obtain ⟨o', es, ep, ho, hdd, _⟩ := ns
    rw [z, tabS] at ho
    cases ho
    cases hdd
  refine wpAny_builtinsFor (m := X.mg) (by rw [I1.ok.glob]; exact ((I1.mod.glob.keeps I1.bk).push o).extBut ex TB.gP) b1 b2 (up _ _ b4 (I1.bk _ _ b5)) b6 b7 b8 ?_
  refine ⟨s1.heap.objs.size, [s1.heap.objs.size, a], [s1.heap.objs.size], its.length, (fun i v => its[i]? = some v), St, (fun _ => true), (fun i y => ∃ y0, ys[i]? = some y0 ∧ RelV y0 y), rfl, W, ?_, ?_, (I1.nolimit.push o).extBut ex nlS.1, ?_, ?_, ?_⟩
  · refine (W X.A hr.hd).frame _ _ _ st0 fun b hb u e => ex b u (fun z => ?_) e
    rcases List.mem_cons.mp hb with q | q
    · exact neI (q.symm.trans z)
    · have q2 : b = a := by simpa using q
      exact absurd (q2.symm.trans z) (by
        intro az
        rcases hsq with hh | hh
        · obtain ⟨its', _, pl, _⟩ := I1.list hh
          obtain ⟨oo, _, e1, _, _, d1⟩ := pl
          rw [az, tabS] at e1
          cases e1
          cases d1
        · obtain ⟨its', _, pl, _⟩ := I1.tuple hh
          obtain ⟨oo, e1, _, _, d1⟩ := pl
          rw [az, tabS] at e1
          cases e1
          cases d1)
  · intro b hb
    show b < h3.objs.size
    rcases List.mem_cons.mp hb with q | q
    · rw [q]; exact Nat.lt_of_succ_le sz
    · have q2 : b = a := by simpa using q
      rw [q2]; exact Nat.lt_of_lt_of_le hlt (Nat.le_of_succ_le sz)
  · intro z
    have z2 : cStatics = s1.heap.objs.size := by simpa using z
    exact Nat.ne_of_lt nlS.2 z2
  · intro href hk
    refine ⟨fun A' E' i v t m hA _ _ hv hn hm hkp => ?_, fun A' E' i v t m hA _ hU hv _ hn hm hkp => ?_⟩
    · simp only [List.forIn_nil]
      exact wpAny_pure ⟨rfl, GxR.keeps_refl _⟩
    · have li : i < xs.length := by rw [rv.length]; exact (List.getElem?_eq_some_iff.mp hv).1
      obtain ⟨u, hu, ru⟩ := rv.get (List.getElem?_eq_getElem li)
      rw [hv] at hu
      cases hu
      refine wpAny_mono (hel pins s1 t _ cv _ A' E' i _ v m I1 hA hU (List.getElem?_eq_getElem li) ru hn hm fun b u n e => ?_) (fun y t' r => r) fun _ _ e => e
      have e3 := up b u n e
      refine hkp b (List.mem_range.mpr (Heap.lt_size e3)) (fun z => ?_) u (hk b u e3)
      have z2 : b = s1.heap.objs.size := by simpa using z
      exact Nat.lt_irrefl _ (z2 ▸ Heap.lt_size e)
  · intro g h5 tk5 gs hgb hag hsz5 hk5 W5 hat
    have el : its.length = ys.length := by rw [hyl, ← rv.length]
    simp only [GxR.passing_true, List.length_range, el] at W5 hat
    refine hQ ys H1 g _ (by rw [hyl]; exact hz) q1 ⟨_, _, _, _, _, W5, hat, ?_, List.mem_cons_self, fun i s9 st => st.1.typeIs, ?_, fun s' mv => ?_⟩
    · intro b hb
      show b < h5.objs.size
      rw [hsz5]
      rcases List.mem_cons.mp hb with q | q
      · rw [q]; exact Nat.lt_succ_self _
      · rcases List.mem_cons.mp q with q | q
        · rw [q]; exact Nat.lt_succ_of_lt hag
        · exact Nat.lt_succ_of_lt (Nat.lt_trans (List.mem_range.mp q) hag)
    · intro j v hv
      obtain ⟨i, hij, y0, hy, r⟩ := hv
      obtain ⟨hj, ej⟩ := List.getElem?_eq_some_iff.mp hij
      rw [List.getElem_range] at ej
      subst ej
      exact ⟨y0, hy, r⟩
    · have out : ∀ b u, s1.heap.get? b = some u → b ∉ h3.objs.size :: [s1.heap.objs.size] := fun b u e hb => by
        have l := Heap.lt_size e
        rcases List.mem_cons.mp hb with q | q
        · rw [q] at l
          exact absurd l (Nat.not_lt.mpr (Nat.le_of_succ_le sz))
        · have q2 : b = s1.heap.objs.size := by simpa using q
          exact Nat.lt_irrefl _ (q2 ▸ l)
      have J := GxR.inv_tab (more := more) (h' := s'.heap) (g' := s'.gens) (d' := s'.drawn) (t' := s'.toks) I1 hP (fun b u n e => mv.heap b u (out b u e) (hk5 b u (up b u n e))) (mv.heap P _ (out P _ tabS) (hk5 P _ tab3)) (AllBare.movedS (I1.bare.push hgb) mv)
      rw [GxR.sh_eta s1 s' mv.os] at J
      exact ⟨_, ⟨⟨ps ++ more, upd_same, tr3⟩, fun b hb => upd_ne hb⟩, J⟩
/-- tuple(elt for x in e) -/
def tTupG (X : Cx) (scope : Scope) (x : Str) (elt : Expr) (P : Addr) (te : TE) : TE := fun σ H Q => te σ H fun v H1 => ∃ (a : Addr) (xs ys : List V), v = .ref a ∧ Sq X.K H1 a xs ∧ ys.length = xs.length ∧ (∀ pins, EltV X pins σ scope x elt P H1 xs ys) ∧ GxR.TabG H1 P ∧
  ∀ H2, GxR.Tabbed P H1 H2 → ∀ p, H2 p = none → Q (.ref p) (upd H2 p (.tup ys))
theorem items_vals {ys : List V} {F : Nat → Value → Prop} {acc : Array Value} {n : Nat} (hn : ys.length = n) (hF : ∀ j v, F j v → ∃ y, ys[j]? = some y ∧ RelV y v) (h : ItemsOf F acc n) : Vals ys acc.toList := by
  have gen : ∀ (l : List Value) (zs : List V), zs.length = l.length → (∀ (j : Nat) (v : Value), l[j]? = some v → ∃ y, zs[j]? = some y ∧ RelV y v) → Vals zs l := by
    intro l
    induction l with
    | nil => intro zs e _; cases zs with
      | nil => exact .nil
      | cons z r => cases e
    | cons v r ih => intro zs e k; cases zs with
      | nil => cases e
      | cons z q =>
        obtain ⟨y, hy, ry⟩ := k 0 v rfl
        cases hy
        exact .cons ry (ih q (by simpa using e) fun j v hv => k (j + 1) v hv)
  refine gen acc.toList ys (by rw [hn, ← h.1]; simp) fun j v hv => hF j v (h.2 j v (by simpa using hv))
theorem pe_tupG {c P : Addr} {elt iter : Expr} {x : Str} {px p pos gpos : Pos} {scope : Scope} {te : TE} {k : Nat}
    (hr : Room k X.A) (hg : Gl X "tuple") (hm : X.mg "tuple" = none) (TB : GxR.TabB X.base X.mg c P) (hcode : X.env.code = .ref c) (S : GxR.GenS X.env scope x) (hi : PE X iter te) (hs : ∀ v, genFold iter X.env v = pure v)
    (he : starEach [.GeneratorExp elt [⟨.Name x px, iter, [], 0⟩] scope gpos] X.env = (false, eval (.GeneratorExp elt [⟨.Name x px, iter, [], 0⟩] scope gpos) X.env) :: starEach [] X.env := by rfl) :
    PE X (.Call (.Name "tuple" p) [.GeneratorExp elt [⟨.Name x px, iter, [], 0⟩] scope gpos] [] pos) (tTupG X scope x elt P te) := by
  refine ⟨fun pins s σ H Q I h => ?_⟩
  refine wpAny_Call_Name_kw (ld_blt I hg hm boot_tuple (PyProof.Rows.callWith_type1 ?_ he (by rfl)))
  rw [he]
  show wpAny _ _ (spliced ((false, _) :: backTo pos (starEach [] X.env))) _ _ s
  unfold tTupG at h
  refine Calls.spliced_cons (gen_sq (te := te) (R := fun ys H1 => ∀ H2, GxR.Tabbed P H1 H2 → ∀ p, H2 p = none → Q (.ref p) (upd H2 p (.tup ys))) hr TB hcode S hi hs I (H := H) h fun ys H1 g s5 hz hR hG => ?_)
  · obtain ⟨fp, wr, G, F, St, W, st, hfp, hgf, hty, hF, hI⟩ := hG
    refine Calls.spliced_nil (call_tuple_gen W.in4_3 hty st hfp hgf (fun s' acc mv ia => ?_) hz)
    obtain ⟨H2, hT, J⟩ := hI s' mv
    have rv := items_vals rfl hF ia
    refine ⟨.ref s'.heap.objs.size, _, J.laid (t' := s'.toks) (o := .tup ys) (fun b u e => Heap.get?_push_of_some _ e) (Nat.le_refl _) ⟨hz, acc.toList, rv, ?_⟩, rfl, hR H2 hT _ (J.hok.fresh (Nat.le_refl _))⟩
    have z := IsTup.new s'.heap acc
    simpa using z
/-- all(elt for x in e), any(elt for x in e), the element True or False -/
def tAllG (X : Cx) (scope : Scope) (x : Str) (elt : Expr) (P : Addr) (te : TE) : TE := fun σ H Q => te σ H fun v H1 => ∃ (a : Addr) (xs ys : List V), v = .ref a ∧ Sq X.K H1 a xs ∧ ys.length = xs.length ∧ (∀ pins, EltV X pins σ scope x elt P H1 xs ys) ∧ GxR.TabG H1 P ∧
  ∃ bs : List Bool, ys = bs.map V.bl ∧ ∀ H2, GxR.Tabbed P H1 H2 → Q (.bl (bs.all id)) H2
def tAnyG (X : Cx) (scope : Scope) (x : Str) (elt : Expr) (P : Addr) (te : TE) : TE := fun σ H Q => te σ H fun v H1 => ∃ (a : Addr) (xs ys : List V), v = .ref a ∧ Sq X.K H1 a xs ∧ ys.length = xs.length ∧ (∀ pins, EltV X pins σ scope x elt P H1 xs ys) ∧ GxR.TabG H1 P ∧
  ∃ bs : List Bool, ys = bs.map V.bl ∧ ∀ H2, GxR.Tabbed P H1 H2 → Q (.bl (bs.any id)) H2
theorem truth_bls {A : Around} {bs : List Bool} {F : Nat → Value → Prop} (hF : ∀ j v, F j v → ∃ y, (bs.map V.bl)[j]? = some y ∧ RelV y v) : TruthOf X.prog X.w A F (fun j => bs.getD j false) := by
  intro j v t Q E hv hq
  obtain ⟨y, hy, r⟩ := hF j v hv
  rw [List.getElem?_map] at hy
  cases e : bs[j]? with
  | none => rw [e] at hy; cases hy
  | some b =>
    rw [e] at hy
    cases hy
    cases (show v = Value.bool b from r)
    have e2 : bs.getD j false = b := by rw [List.getD_eq_getElem?_getD, e]; rfl
    exact wpAny_truthy_bool (by rw [← e2]; exact hq)
theorem all_range (bs : List Bool) : (List.range bs.length).all (fun j => bs.getD j false) = bs.all id := by
  rw [Bool.eq_iff_iff, List.all_eq_true, List.all_eq_true]
  constructor
  · intro h b hb
    obtain ⟨j, hj, e⟩ := List.getElem_of_mem hb
    have q := h j (List.mem_range.mpr hj)
    rw [List.getD_eq_getElem?_getD, List.getElem?_eq_getElem hj, e] at q
    exact q
  · intro h j hj
    have hj' := List.mem_range.mp hj
    rw [List.getD_eq_getElem?_getD, List.getElem?_eq_getElem hj']
    exact h _ (List.getElem_mem hj')
theorem any_range (bs : List Bool) : (List.range bs.length).any (fun j => bs.getD j false) = bs.any id := by
  rw [Bool.eq_iff_iff, List.any_eq_true, List.any_eq_true]
  constructor
  · intro ⟨j, hj, q⟩
    have hj' := List.mem_range.mp hj
    rw [List.getD_eq_getElem?_getD, List.getElem?_eq_getElem hj'] at q
    exact ⟨_, List.getElem_mem hj', q⟩
  · intro ⟨b, hb, q⟩
    obtain ⟨j, hj, e⟩ := List.getElem_of_mem hb
    refine ⟨j, List.mem_range.mpr hj, ?_⟩
    rw [List.getD_eq_getElem?_getD, List.getElem?_eq_getElem hj, e]
    exact q
theorem pe_allG {c P : Addr} {elt iter : Expr} {x : Str} {px p pos gpos : Pos} {scope : Scope} {te : TE} {k : Nat}
    (hr : Room k X.A) (hg : Gl X "all") (hm : X.mg "all" = none) (TB : GxR.TabB X.base X.mg c P) (hcode : X.env.code = .ref c) (S : GxR.GenS X.env scope x) (hi : PE X iter te) (hs : ∀ v, genFold iter X.env v = pure v)
    (he : starEach [.GeneratorExp elt [⟨.Name x px, iter, [], 0⟩] scope gpos] X.env = (false, eval (.GeneratorExp elt [⟨.Name x px, iter, [], 0⟩] scope gpos) X.env) :: starEach [] X.env := by rfl) :
    PE X (.Call (.Name "all" p) [.GeneratorExp elt [⟨.Name x px, iter, [], 0⟩] scope gpos] [] pos) (tAllG X scope x elt P te) := by
  refine ⟨fun pins s σ H Q I h => ?_⟩
  refine wpAny_Call_Name_kw (ld_blt I hg hm boot_all (PyProof.Rows.callWith_builtin1 ?_ he (by rfl)))
  rw [he]
  show wpAny _ _ (spliced ((false, _) :: backTo pos (starEach [] X.env))) _ _ s
  unfold tAllG at h
  refine Calls.spliced_cons (gen_sq (te := te) (R := fun ys H1 => ∃ bs : List Bool, ys = bs.map V.bl ∧ ∀ H2, GxR.Tabbed P H1 H2 → Q (.bl (bs.all id)) H2) hr TB hcode S hi hs I (H := H) h fun ys H1 g s5 hz hR hG => ?_)
  obtain ⟨bs, rfl, hR⟩ := hR
  obtain ⟨fp, wr, G, F, St, W, st, hfp, hgf, hty, hF, hI⟩ := hG
  refine Calls.spliced_nil (call_all_walkS (W.in4_1.self 0 _ _ _ st ⟨g, fp, wr, G, _, F, St, _, rfl, W.in4_1, st, truth_bls hF, fun s' mv => ?_⟩))
  obtain ⟨H2, hT, J⟩ := hI s' mv
  refine ⟨.bl _, H2, J, rfl, ?_⟩
  rw [List.length_map, all_range]
  exact hR H2 hT
theorem pe_anyG {c P : Addr} {elt iter : Expr} {x : Str} {px p pos gpos : Pos} {scope : Scope} {te : TE} {k : Nat}
    (hr : Room k X.A) (hg : Gl X "any") (hm : X.mg "any" = none) (TB : GxR.TabB X.base X.mg c P) (hcode : X.env.code = .ref c) (S : GxR.GenS X.env scope x) (hi : PE X iter te) (hs : ∀ v, genFold iter X.env v = pure v)
    (he : starEach [.GeneratorExp elt [⟨.Name x px, iter, [], 0⟩] scope gpos] X.env = (false, eval (.GeneratorExp elt [⟨.Name x px, iter, [], 0⟩] scope gpos) X.env) :: starEach [] X.env := by rfl) :
    PE X (.Call (.Name "any" p) [.GeneratorExp elt [⟨.Name x px, iter, [], 0⟩] scope gpos] [] pos) (tAnyG X scope x elt P te) := by
  refine ⟨fun pins s σ H Q I h => ?_⟩
  refine wpAny_Call_Name_kw (ld_blt I hg hm boot_any (PyProof.Rows.callWith_builtin1 ?_ he (by rfl)))
  rw [he]
  show wpAny _ _ (spliced ((false, _) :: backTo pos (starEach [] X.env))) _ _ s
  unfold tAnyG at h
  refine Calls.spliced_cons (gen_sq (te := te) (R := fun ys H1 => ∃ bs : List Bool, ys = bs.map V.bl ∧ ∀ H2, GxR.Tabbed P H1 H2 → Q (.bl (bs.any id)) H2) hr TB hcode S hi hs I (H := H) h fun ys H1 g s5 hz hR hG => ?_)
  obtain ⟨bs, rfl, hR⟩ := hR
  obtain ⟨fp, wr, G, F, St, W, st, hfp, hgf, hty, hF, hI⟩ := hG
  refine Calls.spliced_nil (call_any_walkS (W.in4_1.self 0 _ _ _ st ⟨g, fp, wr, G, _, F, St, _, rfl, W.in4_1, st, truth_bls hF, fun s' mv => ?_⟩))
  obtain ⟨H2, hT, J⟩ := hI s' mv
  refine ⟨.bl _, H2, J, rfl, ?_⟩
  rw [List.length_map, any_range]
  exact hR H2 hT
/-- an element f[x]: f a captured name of a tuple, x the walk's own -/
theorem elt_item {f x : Str} {scope : Scope} {P fa : Addr} {H1 : Hp} {xs ys zs : List V} {j : Nat} {p1 p2 p3 : Pos} (hk : scope.kind = .function) (hx : scope.names.lookup x = some .local) (hf : scope.names.lookup f = some .free)
    (hcl : (cloFrom X.env.cells scope.names []).lookup f = some ((X.env.cells.lookup f).getD 0)) (hj : X.N[j]? = some f) (hkf : X.env.kindOf f = some .cell) (hσ : σ[j]? = some (some (.ref fa))) (hq : SqT X.K H1 fa zs) (hT : GxR.TabG H1 P)
    (hv : ∀ (i : Nat) x0, xs[i]? = some x0 → ∃ (n : Int) (y : V), x0 = .int n ∧ atI zs n = some y ∧ ys[i]? = some y) (hdf : (f == ("__debug__" : Str)) = false := by decide) (hdx : (x == ("__debug__" : Str)) = false := by decide) (hcf : (f == ("__classdict__" : Str)) = false := by decide) :
    EltV X pins σ scope x (.Subscript (.Name f p1) (.Name x p2) p3) P H1 xs ys := by
  intro s1 t C code bi A' E' i x0 u m I hA hU hx0 ru hn hm hkp
  obtain ⟨n, y, rfl, hat, hy⟩ := hv i x0 hx0
  obtain ⟨tk, rfl⟩ := (show ∃ t, u = Value.int n t from ru)
  obtain ⟨ps, hP, _⟩ := hT
  have tabS : s1.heap.get? P = some { cls := .none, data := .fields ps } := I.hok P _ hP
  obtain ⟨m1, _, hl⟩ := I.loc
  obtain ⟨uf, rf, lk⟩ := hl j f _ hj hσ (.inr (.inl hkf))
  cases (show uf = Value.ref fa from rf)
  obtain ⟨c, hc, ic⟩ : ∃ c, X.env.cells.lookup f = some c ∧ s1.heap.IsCell c (some (.ref fa)) := by
    rcases lk with ⟨z, _⟩ | ⟨_, c, hc, ic⟩
    · rw [hkf] at z; cases z
    · exact ⟨c, hc, ic⟩
  have ic2 : t.heap.IsCell c (some (.ref fa)) := by
    obtain ⟨o, ho, hd⟩ := ic
    refine ⟨o, hkp c o (fun z => ?_) ho, hd⟩
    rw [z, tabS] at ho
    cases ho
    cases hd
  obtain ⟨its, rv, pl, hz⟩ := I.tuple hq
  have pl2 : IsTup t.heap fa its.toArray := by
    obtain ⟨o, ho, hcl', nn, hd⟩ := pl
    refine ⟨o, hkp fa o (fun z => ?_) ho, hcl', nn, hd⟩
    rw [z, tabS] at ho
    cases ho
    cases hd
  obtain ⟨jj, h1, h2, h3, h4, h5⟩ := atI_get hat
  obtain ⟨wv, ew, rw'⟩ := rv.get h2
  have hlen := rv.length
  have hn63 := line63
  have clf : (genEnv scope (cloFrom X.env.cells scope.names []) C code bi X.env).cells.lookup f = some c := by
    show (cloFrom X.env.cells scope.names []).lookup f = some c
    rw [hcl, hc]
    rfl
  refine Subscript_ (wpAny_Name (wpAny_loadName_free hk hf clf ic2 (wpAny_Name (wpAny_loadName_local hk hx hn hm ?_) hdx) hcf) hdf)
  exact subscriptTail_builtinR (x := wv) pl2.typeIs slot_tuple_getitem.lookup
    (getItem_tuple (j := jj) (Q := fun r s' => r = wv ∧ ((∃ y0, ys[i]? = some y0 ∧ RelV y0 r) ∧ Keeps t s')) pl2 (by omega) (by omega) (by rw [List.size_toArray, ← hlen]; exact h1) (by simpa using ew) ⟨rfl, ⟨y, hy, rw'⟩, GxR.keeps_refl _⟩) (by rfl)
end
end Gv

set_option Elab.async false
set_option linter.all false
set_option maxRecDepth 100000
set_option maxHeartbeats 4000000
/-! enumerate(t), t a tuple -/
namespace Et
open PySem PySem.Spec PyProof.Rows L2
theorem meets_one {v : Value} {o : Obj} {B : Heap → Prop} (hB : Begins v o B) :
    Meets (Builtin.«enumerate.__new__» ⟨[.type "enumerate", v], []⟩) (fun _ R s => B s.heap ∧
      R (.ok (.ret (.ref (s.heap.push o).objs.size))) { s with heap := (s.heap.push o).push { cls := .type "enumerate", data := .fields #[.none, .bool false, .ref s.heap.objs.size, rawInt 0, .none, .none] } }) :=
  .of_wp fun prog w A R s h => by
    obtain ⟨hp, g, d, tk, os⟩ := s
    obtain ⟨hb, h⟩ := h
    have hsub := sub_enumerate
    have begin1 : ∀ {A1 : Around} {E1 : Value → Shared → Prop} {Q1 : Value → Shared → Prop}, Q1 (.ref hp.objs.size) ⟨hp.push o, g, d, tk, os⟩ → wpAny (model prog w) A1 (pyIter v) Q1 E1 ⟨hp, g, d, tk, os⟩ := fun q => hB.iter prog w _ _ ⟨hp, g, d, tk, os⟩ _ hb q
    wp_walk using begin1
    refine wpAny_stack_any fun stk => wpAny_pure ?_
    split
    next c _ _ _ _ _ =>
      cases (c == Value.type "enumerate") <;> (wp_walk using begin1; exact ⟨_, rfl, h⟩)
    next => wp_walk using begin1; exact ⟨_, rfl, h⟩
theorem make {prog : Program} {w : World} {A : Around} {E : Value → Shared → Prop} {s : Shared} {v : Value} {o : Obj} {B : Heap → Prop} {Q : Value → Shared → Prop} (hB : Begins v o B) (hb : B s.heap)
    (k : ∀ h', IsEnum h' (s.heap.objs.size + 1) s.heap.objs.size 0 .none → h'.get? s.heap.objs.size = some o → (∀ b o, s.heap.get? b = some o → h'.get? b = some o) → Q (.ref (s.heap.objs.size + 1)) { s with heap := h' }) :
    wpAny (model prog w) A (call (.type "enumerate") [v]) Q E s := by
  refine callType_new F.called_enumerate (by decide) (F.typeCall_enumerate_1 _) (F.newCall_enumerate_1 _) (fun obj => F.args_object_init_2 obj _) F.entry_enumerate_new (meets_one hB) ⟨hb, ?_⟩
  have z : (s.heap.push o).objs.size = s.heap.objs.size + 1 := Heap.size_push ..
  generalize hn : ({ cls := .type "enumerate", data := .fields #[.none, .bool false, .ref s.heap.objs.size, rawInt 0, .none, .none] } : Obj) = en
  have e : ((s.heap.push o).push en).get? (s.heap.objs.size + 1) = some en := by
    have q := Heap.get?_push_size (s.heap.push o) (o := en) (by rw [← hn]; rfl)
    rw [z] at q
    exact q
  have ie : IsEnum ((s.heap.push o).push en) (s.heap.objs.size + 1) s.heap.objs.size 0 .none := by
    subst hn
    exact e
  show _ ∧ _
  rw [z]
  exact ⟨⟨_, e, by rw [← hn]⟩, k _ ie (Heap.get?_push_of_some _ (Heap.get?_push_size _ hB.free)) fun b u x => Heap.get?_push_of_some _ (Heap.get?_push_of_some _ x)⟩
/-- the tuple at a walked with its places -/
def ItE (K : PySem.W.Frag) (a : Addr) : It :=
  ⟨fun i H => ∃ (xs : List V) (x : V), SqT K H a xs ∧ xs[i]? = some x, fun i H v H' => ∃ T x, v = .ref T ∧ H T = none ∧ H' = upd H T (.tup [.int (i : Nat), x]) ∧ ∀ xs, SqT K H a xs → xs[i]? = some x,
    fun i H => ∃ xs : List V, SqT K H a xs ∧ xs.length = i⟩
theorem turn {P : Program} {w : World} {K : PySem.W.Frag} {elts : List Expr} {kk : Nat} {tpos : Pos} (a e it : Addr) (hei : e ≠ it) :
    Turn P w K (.Tuple elts kk tpos) (ItE K a) [e, it] e (fun i h => (∃ old, IsEnum h e it ((i : Nat) : Int) old) ∧ h.IsTupleIter it a i) where
  mem := List.mem_cons_self
  obj := fun i h st b hb => by
    obtain ⟨⟨old, he⟩, o, ho, _, hd⟩ := st
    rcases List.mem_cons.mp hb with z | z
    · rw [z]; exact ⟨_, he, fun v q => nomatch q⟩
    · rw [List.mem_singleton.mp z]; exact ⟨o, ho, fun v q => by rw [hd] at q; cases q⟩
  keep := fun i h h' st k => ⟨let ⟨old, he⟩ := st.1; ⟨old, k e (by simp) _ he⟩, st.2.at fun o q => k it (by simp) o q⟩
  item := by
    intro X hP hw hK hc i pins s σ H E I hf st hg
    subst hP hw hK
    obtain ⟨⟨old, he⟩, hit⟩ := st
    obtain ⟨xs, x, hq, hx⟩ := hg
    obtain ⟨its, rv, pl, hz⟩ := I.tuple hq
    obtain ⟨u, hu, ru⟩ := rv.get hx
    have le : e < s.heap.objs.size := Heap.lt_size he
    have li : it < s.heap.objs.size := by obtain ⟨_, q, _⟩ := hit; exact Heap.lt_size q
    have nai : a ≠ it := fun z => by
      obtain ⟨o, q, hcl, _⟩ := hit
      obtain ⟨o2, q2, hcl2, _⟩ := pl
      rw [z, q] at q2
      cases q2
      rw [hcl] at hcl2
      exact absurd (Value.type.inj hcl2) (by decide)
    have nea : e ≠ a := fun z => by
      obtain ⟨o2, q2, hcl2, _⟩ := pl
      rw [← z] at q2
      have q3 := Option.some.inj (he.symm.trans q2)
      rw [← q3] at hcl2
      exact absurd (Value.type.inj hcl2) (by decide)
    have D := Draws.tuple (prog := X.prog) (w := X.w) (A := X.A.in1) (I.ok.hd hc) it a nai its.toArray
    have hlt : i < its.toArray.size := by simpa using (List.getElem?_eq_some_iff.mp hu).1
    refine wpAny_pyNext_enum_itemD D he ⟨hit, pl⟩ hlt hei (by simp [hei, nea]) fun y h' tk hy ho st' hT hsz hk => ?_
    obtain rfl : y = u := by
      have q : its[i]? = some y := by simpa using hy
      exact Option.some.inj (q.symm.trans hu)
    refine ⟨_, rfl, wpAny_letOwnedTupleGo_enum (s := { s with heap := h', toks := tk + 1 }) ho fun h'' he' sb => ?_⟩
    have tT : h''.get? s.heap.objs.size = some { cls := .type "tuple", data := .seq #[.int i tk, y] } := (sb.2 _ (Nat.ne_of_gt le)).trans hT
    have J : Inv X pins σ (upd H s.heap.objs.size (.tup [.int (i : Nat), x])) { s with heap := h'', toks := tk + 1 } :=
      I.turnedNew (ch := [e, it]) (fun b ob nb q => (sb.2 b (fun z => nb (by simp [z]))).trans (hk b ob (fun z => nb (by simp [z])) (fun z => nb (by simp [z])) q)) hf (Nat.le_refl _)
        ⟨by show 2 ≤ sizeLine; decide, [.int i tk, y], .cons ⟨_, rfl⟩ (.cons ru .nil), ⟨_, tT, rfl, _, rfl⟩⟩
    refine ⟨.ref s.heap.objs.size, _, J, rfl, ⟨_, x, rfl, I.hok.fresh (Nat.le_refl _), rfl, fun ys hy => by rw [I.tuple_inj hy hq]; exact hx⟩, ⟨⟨y, ?_⟩, st'.1.at fun o q => (sb.2 it (Ne.symm hei)).trans q⟩, fun b hb => ?_⟩
    · have c1 : ((i + 1 : Nat) : Int) = (i : Int) + 1 := by omega
      rw [c1]; exact he'
    · have lb : b < s.heap.objs.size := by
        rcases List.mem_cons.mp hb with z | z
        · rw [z]; exact le
        · rw [List.mem_singleton.mp z]; exact li
      rw [upd_ne (Nat.ne_of_lt lb)]
      exact (hf b hb).1
  done := by
    intro X hP hw hK hc i pins s σ H E I hf st hg
    subst hP hw hK
    obtain ⟨⟨old, he⟩, hit⟩ := st
    obtain ⟨xs, hq, hx⟩ := hg
    obtain ⟨its, rv, pl, hz⟩ := I.tuple hq
    obtain ⟨f0, f1, f2, f3, f4, f5⟩ := hf it (by simp)
    have hl := rv.length
    have nai : a ≠ it := fun z => by
      obtain ⟨o, q, hcl, _⟩ := hit
      obtain ⟨o2, q2, hcl2, _⟩ := pl
      rw [z, q] at q2
      cases q2
      rw [hcl] at hcl2
      exact absurd (Value.type.inj hcl2) (by decide)
    have D := Draws.tuple (prog := X.prog) (w := X.w) (A := X.A.in1) (I.ok.hd hc) it a nai its.toArray
    have en : i = its.toArray.size := by rw [List.size_toArray, ← hl, hx]
    exact wpAny_pyNext_enum_endD D he (by rw [← en]; exact ⟨hit, pl⟩) fun h' eb => ⟨rfl, I.turned (t' := s.toks) (fun b o hb q => eb b o hb q) f0 f1 f3 f4 f5⟩
  self := fun A i s Q E st h => let ⟨⟨_, he⟩, _⟩ := st; wpAny_pyIter_enum he h
def iEnumT (K : PySem.W.Frag) (ta : TA) : TI := fun σ H R => ta σ H fun vs H1 => ∃ a xs, vs = [.ref a] ∧ SqT K H1 a xs ∧ R (ItE K a) H1
theorem pi_enumT {X : Cx} {e : Expr} {ta : TA} {p pos tpos : Pos} {elts : List Expr} {kk : Nat} (hg : Gl X "enumerate") (hm : X.mg "enumerate" = none) (ha : PA X [e] ta) (hs : starEach [e] X.env = [(false, eval e X.env)] := by rfl) :
    PI X (.Tuple elts kk tpos) (.Call (.Name "enumerate" p) [e] [] pos) (iEnumT X.K ta) := by
  refine ⟨fun pins s σ H R I h => ?_⟩
  refine Call_ (ld_blt I hg hm boot_enumerate (PyProof.Rows.callWith_type1 (thn (ha.run pos pins s σ H _ I h) fun us s1 ⟨vs, H1, I1, r1, q1⟩ => ?_) hs rfl))
  obtain ⟨a, xs, rfl, hq, q⟩ := q1
  obtain ⟨u, rfl, ru⟩ := vals1 r1
  cases (show u = Value.ref a from ru)
  obtain ⟨its, rv, pl, hz⟩ := I1.tuple hq
  refine make (begins_tuple a its.toArray) pl fun h' ie io kp => wpAny_pyIter_enum ie ?_
  refine ⟨s1.heap.objs.size + 1, [s1.heap.objs.size + 1, s1.heap.objs.size], _, _, H1, rfl, I1.kept (t' := s1.toks) kp, turn a (s1.heap.objs.size + 1) s1.heap.objs.size (Nat.succ_ne_self _), ⟨⟨.none, ie⟩, _, io, rfl, rfl⟩, fun b hb => ?_, q⟩
  have lb : s1.heap.objs.size ≤ b := by
    rcases List.mem_cons.mp hb with z | z
    · rw [z]; exact Nat.le_succ _
    · rw [List.mem_singleton.mp z]; exact Nat.le_refl _
  exact I1.fpOk lb (I1.hok.fresh lb)
/-- for (i, x) in enumerate(t): an invariant over the turns -/
theorem for_enumT {K : PySem.W.Frag} {a : Addr} {xs : List V} {g : TG} {tb : TS} {D : Ends} {σ : L2.St} {H : Hp} (Pv : Nat → L2.St → Hp → Prop) (h0 : Pv 0 σ H) (hl : ∀ i σ H, i ≤ xs.length → Pv i σ H → SqT K H a xs)
    (hs : ∀ i x σ H T, xs[i]? = some x → Pv i σ H → H T = none → g (.ref T) σ (upd H T (.tup [.int (i : Nat), x])) fun σ2 H2 => tb { D with nx := Pv (i + 1), ct := Pv (i + 1), bk := D.nx } σ2 H2) (hd : ∀ σ H, Pv xs.length σ H → D.nx σ H) :
    ∃ W : Nat → Nat → L2.St → Hp → Prop, (∃ m, W 0 m σ H) ∧ ∀ i m σ H, W i m σ H →
      ((ItE K a).stop i H ∧ D.nx σ H) ∨ ((ItE K a).go i H ∧ ∃ N : L2.St → Hp → Prop, (∀ σ' H', N σ' H' → ∃ m', m' < m ∧ W (i + 1) m' σ' H') ∧ ∀ x H', (ItE K a).yld i H x H' → g x σ H' fun σ2 H2 => tb { D with nx := N, ct := N, bk := D.nx } σ2 H2) := by
  refine ⟨fun i m σ H => i + m = xs.length ∧ Pv i σ H, ⟨xs.length, by omega, h0⟩, ?_⟩
  rintro i m σ H ⟨e, p⟩
  have q := hl i σ H (by omega) p
  by_cases c : i < xs.length
  · refine .inr ⟨⟨xs, xs[i], q, List.getElem?_eq_getElem c⟩, Pv (i + 1), fun σ' H' p' => ⟨m - 1, by omega, by omega, p'⟩, fun v H' hy => ?_⟩
    obtain ⟨T, x, rfl, nT, rfl, fx⟩ := hy
    exact hs i x σ H T (fx xs q) p nT
  · have e2 : i = xs.length := by omega
    subst e2
    exact .inl ⟨⟨xs, q, rfl⟩, hd σ H p⟩
theorem lc_enumT {K : PySem.W.Frag} {a : Addr} {xs : List V} {g : TG} {tt : TT} {te : TE} {vs : List Nat} {σ : L2.St} {H1 : Hp} {D : Addr} {Qd : Hp → Prop} (Pv : Nat → Hp → Prop) (h0 : Pv 0 (upd H1 D (.lst []))) (hl : ∀ i H, i ≤ xs.length → Pv i H → SqT K H a xs)
    (hs : ∀ i x H T, xs[i]? = some x → Pv i H → H T = none → g (.ref T) (wipe σ vs) (upd H T (.tup [.int (i : Nat), x])) fun σ2 H2 => wipe σ2 vs = wipe σ vs ∧ tt σ2 H2 fun b H3 =>
      if b = true then te σ2 H3 fun y H4 => ∃ acc, H4 D = some (.lst acc) ∧ acc.length < sizeLine ∧ Pv (i + 1) (upd H4 D (.lst (acc ++ [y]))) else Pv (i + 1) H3) (hd : ∀ H, Pv xs.length H → Qd H) :
    ∃ W : Nat → Nat → Hp → Prop, (∃ m, W 0 m (upd H1 D (.lst []))) ∧ ∀ i m H, W i m H →
      ((ItE K a).stop i H ∧ Qd H) ∨ ((ItE K a).go i H ∧ ∃ Nx : Hp → Prop, (∀ H', Nx H' → ∃ m', m' < m ∧ W (i + 1) m' H') ∧ ∀ x H', (ItE K a).yld i H x H' → g x (wipe σ vs) H' fun σ2 H2 => wipe σ2 vs = wipe σ vs ∧ tt σ2 H2 fun b H3 =>
        if b = true then te σ2 H3 fun y H4 => ∃ acc, H4 D = some (.lst acc) ∧ acc.length < sizeLine ∧ Nx (upd H4 D (.lst (acc ++ [y]))) else Nx H3) := by
  refine ⟨fun i m H => i + m = xs.length ∧ Pv i H, ⟨xs.length, by omega, h0⟩, ?_⟩
  rintro i m H ⟨e, p⟩
  have q := hl i H (by omega) p
  by_cases c : i < xs.length
  · refine .inr ⟨⟨xs, xs[i], q, List.getElem?_eq_getElem c⟩, Pv (i + 1), fun H' p' => ⟨m - 1, by omega, by omega, p'⟩, fun v H' hy => ?_⟩
    obtain ⟨T, x, rfl, nT, rfl, fx⟩ := hy
    exact hs i x H T (fx xs q) p nT
  · have e2 : i = xs.length := by omega
    subst e2
    exact .inl ⟨⟨xs, q, rfl⟩, hd H p⟩
end Et

set_option Elab.async false
set_option linter.all false
set_option maxRecDepth 100000
set_option maxHeartbeats 4000000
/-! riddles as they lie in the heap, their data, and what a filling breaks -/
namespace Dt
open PySem PySem.Spec PyProof.Rows L2
/-! ### in, of a tuple of data -/
def rInT (K : PySem.W.Frag) : R2 := fun x y H Q => ∃ d ds, Dp K H x d ∧ Dp K H y (.tuple ds) ∧ SeqAt.shaped d = true ∧ SeqAt.shaped (.tuple ds) = true ∧ Q (.bl (ds.any fun z => PyData.eqv z d)) H
theorem op_inT {X : Cx} (hu : X.A.units + 65 < cLine) : OpR X (compareOp .In) (rInT X.K) := by
  intro pins s σ H x y v u Q I rx ry h
  obtain ⟨d, ds, hd, he, sd, se, q⟩ := h
  obtain ⟨as, r1⟩ := Dp.reads I d x v hd rx
  obtain ⟨bs, r2⟩ := Dp.reads I (.tuple ds) y u he ry
  exact SeqAt.in_tuple_reads r2 r1 (SeqAt.canLay_of_shaped se) (SeqAt.canLay_of_shaped sd) (room_in_shaped sd hu) ⟨.bl _, H, I, rfl, q⟩
/-! ### wishes and riddles -/
abbrev Row := List Int
abbrev WD := List Int × List Row
def IsRow (H : Hp) (r : Addr) (row : Row) : Prop := H r = some (.tup (row.map V.int))
def IsWish (H : Hp) (wa : Addr) (wd : WD) : Prop := ∃ (pa ra : Addr) (rs : List Addr), H wa = some (.tup [.ref pa, .ref ra]) ∧ H pa = some (.tup (wd.1.map V.int)) ∧ H ra = some (.tup (rs.map V.ref)) ∧ Paired (IsRow H) rs wd.2
def IsRid (H : Hp) (ri : Addr) (many hues : Int) (wds : List WD) : Prop := ∃ (wt : Addr) (was : List Addr), H ri = some (.tup [.int many, .int hues, .ref wt]) ∧ H wt = some (.tup (was.map V.ref)) ∧ Paired (IsWish H) was wds
/-- tuples stay -/
def Tups (H H' : Hp) : Prop := ∀ b xs, H b = some (.tup xs) → H' b = some (.tup xs)
theorem Tups.refl (H : Hp) : Tups H H := fun _ _ e => e
theorem Tups.trans {H H1 H2 : Hp} (a : Tups H H1) (b : Tups H1 H2) : Tups H H2 := fun c xs e => b c xs (a c xs e)
theorem tups_same {H H' : Hp} (s : Same H H') : Tups H H' := fun b xs e => s b _ e
theorem tups_upd {H : Hp} {p : Addr} {o : HO} (h : ∀ xs, H p ≠ some (.tup xs)) : Tups H (upd H p o) := fun b xs e => by
  rw [upd_ne (fun z => h xs (by rw [← z]; exact e))]
  exact e
theorem pairedMap {α β : Type} {F G : α → β → Prop} : ∀ {l : List α} {m : List β}, (∀ a b, F a b → G a b) → Paired F l m → Paired G l m
  | _, _, _, .nil => .nil
  | _, _, k, .cons h t => .cons (k _ _ h) (pairedMap k t)
theorem pairedLen {α β : Type} {F : α → β → Prop} : ∀ {l : List α} {m : List β}, Paired F l m → l.length = m.length
  | _, _, .nil => rfl
  | _, _, .cons _ t => by rw [List.length_cons, List.length_cons, pairedLen t]
theorem pairedGet {α β : Type} {F : α → β → Prop} : ∀ {l : List α} {m : List β} {i : Nat} {b : β}, Paired F l m → m[i]? = some b → ∃ a, l[i]? = some a ∧ F a b
  | _, _, _, _, .nil, h => by simp at h
  | _, _, 0, _, .cons h _, e => by cases e; exact ⟨_, rfl, h⟩
  | _, _, i + 1, b, .cons _ t, e => pairedGet (i := i) (b := b) t e
theorem pairedGetL {α β : Type} {F : α → β → Prop} : ∀ {l : List α} {m : List β} {i : Nat} {a : α}, Paired F l m → l[i]? = some a → ∃ b, m[i]? = some b ∧ F a b
  | _, _, _, _, .nil, h => by simp at h
  | _, _, 0, _, .cons h _, e => by cases e; exact ⟨_, rfl, h⟩
  | _, _, i + 1, a, .cons _ t, e => pairedGetL (i := i) (a := a) t e
theorem IsWish.mono {H H' : Hp} {wa : Addr} {wd : WD} (t : Tups H H') (h : IsWish H wa wd) : IsWish H' wa wd := by
  obtain ⟨pa, ra, rs, h1, h2, h3, h4⟩ := h
  exact ⟨pa, ra, rs, t _ _ h1, t _ _ h2, t _ _ h3, pairedMap (fun a b e => t _ _ e) h4⟩
theorem IsRid.mono {H H' : Hp} {ri : Addr} {m h : Int} {wds : List WD} (t : Tups H H') (x : IsRid H ri m h wds) : IsRid H' ri m h wds := by
  obtain ⟨wt, was, h1, h2, h3⟩ := x
  exact ⟨wt, was, t _ _ h1, t _ _ h2, pairedMap (fun _ _ e => IsWish.mono t e) h3⟩
/-- what may come of the law's drawing -/
structure Good (many hues : Int) (wd : WD) : Prop where
  one : 1 ≤ wd.1.length
  three : wd.1.length ≤ 3
  pl : ∀ p ∈ wd.1, 0 ≤ p ∧ p < many
  some_ : 1 ≤ wd.2.length
  few : wd.2.length ≤ 64
  row : ∀ r ∈ wd.2, r.length = wd.1.length ∧ ∀ h ∈ r, 0 ≤ h ∧ h < hues
structure GoodR (many hues : Int) (wds : List WD) : Prop where
  m1 : 1 ≤ many
  m6 : many ≤ 6
  h2 : 2 ≤ hues
  h4 : hues ≤ 4
  eight : wds.length ≤ 8
  each : ∀ wd ∈ wds, Good many hues wd
structure GoodF (many hues : Int) (fs : List Int) : Prop where
  len : (fs.length : Int) = many
  hue : ∀ h ∈ fs, 0 ≤ h ∧ h < hues
/-! ### the data -/
def rowD (r : Row) : PyData := .tuple (r.map .int)
def wishD (wd : WD) : PyData := .tuple [rowD wd.1, .tuple (wd.2.map rowD)]
def ridD (many hues : Int) (wds : List WD) : PyData := .tuple [.int many, .int hues, .tuple (wds.map wishD)]
section
variable {K : PySem.W.Frag} {H : Hp}
theorem dpInts : ∀ ns : List Int, DpAll K H (ns.map V.int) (ns.map PyData.int)
  | [] => .nil
  | n :: r => .cons (.int n) (dpInts r)
theorem dpRow {r : Addr} {row : Row} (h : IsRow H r row) : Dp K H (.ref r) (rowD row) := .tup (.inl (.inl h)) (dpInts row)
theorem dpRows : ∀ {rs : List Addr} {rows : List Row}, Paired (IsRow H) rs rows → DpAll K H (rs.map V.ref) (rows.map rowD)
  | _, _, .nil => .nil
  | _, _, .cons h t => .cons (dpRow h) (dpRows t)
theorem dpWish {wa : Addr} {wd : WD} (h : IsWish H wa wd) : Dp K H (.ref wa) (wishD wd) := by
  obtain ⟨pa, ra, rs, h1, h2, h3, h4⟩ := h
  exact .tup (.inl (.inl h1)) (.cons (dpRow h2) (.cons (.tup (.inl (.inl h3)) (dpRows h4)) .nil))
theorem dpWishes : ∀ {was : List Addr} {wds : List WD}, Paired (IsWish H) was wds → DpAll K H (was.map V.ref) (wds.map wishD)
  | _, _, .nil => .nil
  | _, _, .cons h t => .cons (dpWish h) (dpWishes t)
theorem dpRid {ri : Addr} {m h : Int} {wds : List WD} (x : IsRid H ri m h wds) : Dp K H (.ref ri) (ridD m h wds) := by
  obtain ⟨wt, was, h1, h2, h3⟩ := x
  exact .tup (.inl (.inl h1)) (.cons (.int m) (.cons (.int h) (.cons (.tup (.inl (.inl h2)) (dpWishes h3)) .nil)))
end
/-! ### data of this kind is laid, shallow, light and shown -/
/-- a measure of data: laid, at most so deep, at most so heavy, ints short, no dict -/
structure Fine (d : PyData) (n w : Nat) : Prop where
  lay : d.canLay0 = true
  dep : d.depth ≤ n
  wei : d.weight ≤ w
  sho : d.showable = true
  noD : d.hasDict = false
  sh13 : d.intsShort 13 = true
structure FineAll (ds : List PyData) (n w : Nat) : Prop where
  lay : PyData.canLayAll0 ds = true
  dep : PyData.depthAll ds ≤ n
  wei : PyData.weightAll ds ≤ w
  sho : PyData.showableAll ds = true
  noD : PyData.hasDictAll ds = false
  sh13 : PyData.intsShortAll 13 ds = true
theorem FineAll.nil (n : Nat) : FineAll [] n 0 := ⟨rfl, Nat.zero_le _, Nat.le_refl _, rfl, rfl, rfl⟩
theorem FineAll.cons {d : PyData} {ds : List PyData} {n w u : Nat} (h : Fine d n w) (t : FineAll ds n u) : FineAll (d :: ds) n (w + 1 + u) := by
  refine ⟨?_, ?_, ?_, ?_, ?_, ?_⟩
  · simp only [PyData.canLayAll0, h.lay, t.lay, Bool.and_self]
  · have a := h.dep
    have b := t.dep
    simp only [PyData.depthAll]
    omega
  · have a := h.wei
    have b := t.wei
    simp only [PyData.weightAll]
    omega
  · simp only [PyData.showableAll, h.sho, t.sho, Bool.and_self]
  · simp only [PyData.hasDictAll, h.noD, t.noD, Bool.or_self]
  · simp only [PyData.intsShortAll, h.sh13, t.sh13, Bool.and_self]
theorem Fine.tuple {ds : List PyData} {n w : Nat} (t : FineAll ds n w) : Fine (.tuple ds) (n + 1) w := by
  refine ⟨by simp only [PyData.canLay0]; exact t.lay, ?_, by simp only [PyData.weight]; exact t.wei, by simp only [PyData.showable]; exact t.sho, by simp only [PyData.hasDict]; exact t.noD, by simp only [PyData.intsShort]; exact t.sh13⟩
  have a := t.dep
  simp only [PyData.depth]
  omega
theorem Fine.list {ds : List PyData} {n w : Nat} (t : FineAll ds n w) : Fine (.list ds) (n + 1) w := by
  refine ⟨by simp only [PyData.canLay0]; exact t.lay, ?_, by simp only [PyData.weight]; exact t.wei, by simp only [PyData.showable]; exact t.sho, by simp only [PyData.hasDict]; exact t.noD, by simp only [PyData.intsShort]; exact t.sh13⟩
  have a := t.dep
  simp only [PyData.depth]
  omega
theorem Fine.mono {d : PyData} {n w n' w' : Nat} (h : Fine d n w) (a : n ≤ n') (b : w ≤ w') : Fine d n' w' := ⟨h.lay, Nat.le_trans h.dep a, Nat.le_trans h.wei b, h.sho, h.noD, h.sh13⟩
theorem FineAll.mono {d : List PyData} {n w n' w' : Nat} (h : FineAll d n w) (a : n ≤ n') (b : w ≤ w') : FineAll d n' w' := ⟨h.lay, Nat.le_trans h.dep a, Nat.le_trans h.wei b, h.sho, h.noD, h.sh13⟩
theorem fineAll_map {α : Type} {f : α → PyData} {n w : Nat} : ∀ (l : List α), (∀ x ∈ l, Fine (f x) n w) → FineAll (l.map f) n (l.length * (w + 1))
  | [], _ => FineAll.nil n |>.mono (Nat.le_refl _) (Nat.zero_le _)
  | x :: r, h => by
    have t := fineAll_map r fun y hy => h y (List.mem_cons_of_mem _ hy)
    refine (FineAll.cons (h x List.mem_cons_self) t).mono (Nat.le_refl _) ?_
    rw [List.length_cons, Nat.succ_mul]
    omega
theorem fine_int {i : Int} (h0 : 0 ≤ i) (h1 : i < 64) : Fine (.int i) 1 7 := by
  obtain ⟨n, rfl⟩ : ∃ n : Nat, i = n := ⟨i.toNat, by omega⟩
  have hn : n < 64 := by omega
  have hl : n.log2 ≤ 5 := by
    by_cases e : n = 0
    · subst e; decide
    · have := (Nat.log2_lt e).mpr (show n < 2 ^ 6 by omega)
      omega
  refine ⟨rfl, by simp [PyData.depth], ?_, ?_, rfl, ?_⟩
  · simp only [PyData.weight]
    split
    · omega
    · have e : ((n : Int)).natAbs = n := by omega
      rw [e]
      omega
  · simp only [PyData.showable]
    have e : ((n : Int)).natAbs = n := by omega
    rw [e]
    exact decide_eq_true (by omega)
  · have all : ∀ m : Nat, m < 64 → PyData.intsShort 13 (.int (m : Int)) = true := by decide +kernel
    exact all n hn
theorem Fine.shaped {d : PyData} {n w : Nat} (h : Fine d n w) (hn : n ≤ 64) : SeqAt.shaped d = true := by
  show (d.canLay0 && decide (d.depth ≤ 64)) = true
  rw [h.lay, decide_eq_true (Nat.le_trans h.dep hn)]
  rfl
theorem Fine.shows {d : PyData} {n w : Nat} (h : Fine d n w) (hn : n ≤ 64) (hw : w ≤ 1048576) : d.shown.length ≤ sizeLine := by
  have l : d.layable0 = true := by
    show (d.canLay0 && decide (d.depth ≤ 64) && decide (d.weight ≤ 2 ^ 20)) = true
    rw [h.lay, decide_eq_true (Nat.le_trans h.dep hn), decide_eq_true (show d.weight ≤ 2 ^ 20 from Nat.le_trans h.wei (Nat.le_trans hw (by decide)))]
    rfl
  exact Nat.le_trans (shown_le13 l h.sh13) (by decide)
/-! ### equality of rows -/
theorem eqvAll_ints : ∀ a b : List Int, PyData.eqvAll (a.map .int) (b.map .int) = decide (a = b)
  | [], [] => by simp [PyData.eqvAll]
  | [], _ :: _ => by simp [PyData.eqvAll]
  | _ :: _, [] => by simp [PyData.eqvAll]
  | x :: r, y :: q => by
    simp only [List.map_cons, PyData.eqvAll, PyData.eqv, eqvAll_ints r q]
    by_cases h : x = y
    · subst h; simp
    · simp [h]
theorem eqv_row (a b : Row) : PyData.eqv (rowD a) (rowD b) = decide (a = b) := by
  unfold rowD
  rw [PyData.eqv]
  exact eqvAll_ints a b
theorem anyRows (r : Row) : ∀ rows : List Row, ((rows.map rowD).any fun z => PyData.eqv z (rowD r)) = decide (r ∈ rows)
  | [] => by simp
  | x :: q => by
    rw [List.map_cons, List.any_cons, anyRows r q, eqv_row]
    by_cases h : x = r
    · subst h; simp
    · have h2 : ¬ r = x := fun e => h e.symm
      simp [h, h2]
/-! ### what is broken -/
def atF (fs : List Int) (p : Int) : Int := fs.getD p.toNat 0
def huesA (fs ps : List Int) : List Int := ps.map (atF fs)
def brk (fs : List Int) (wd : WD) : Bool := decide (huesA fs wd.1 ∈ wd.2)
def brkAt (fs : List Int) (wds : List WD) (k : Nat) : Bool := match wds[k]? with
  | some wd => brk fs wd
  | none => false
def broL (fs : List Int) (wds : List WD) (i : Nat) : List Int := ((List.range i).filter (brkAt fs wds)).map fun (k : Nat) => (k : Int)
theorem brkAt_of {fs : List Int} {wds : List WD} {k : Nat} {wd : WD} (h : wds[k]? = some wd) : brkAt fs wds k = brk fs wd := by
  unfold brkAt
  rw [h]
theorem broL_yes {fs : List Int} {wds : List WD} {i : Nat} (h : brkAt fs wds i = true) : broL fs wds (i + 1) = broL fs wds i ++ [(i : Int)] := by
  unfold broL
  rw [List.range_succ, List.filter_append, List.map_append]
  simp [h]
theorem broL_no {fs : List Int} {wds : List WD} {i : Nat} (h : brkAt fs wds i = false) : broL fs wds (i + 1) = broL fs wds i := by
  unfold broL
  rw [List.range_succ, List.filter_append, List.map_append]
  simp [h]
theorem broL_len (fs : List Int) (wds : List WD) (i : Nat) : (broL fs wds i).length ≤ i := by
  unfold broL
  rw [List.length_map]
  have q := List.length_filter_le (brkAt fs wds) (List.range i)
  rw [List.length_range] at q
  exact q
theorem broL_mem {fs : List Int} {wds : List WD} {i : Nat} {z : Int} (h : z ∈ broL fs wds i) : 0 ≤ z ∧ z < i := by
  unfold broL at h
  obtain ⟨k, hk, rfl⟩ := List.mem_map.mp h
  have := List.mem_range.mp (List.mem_filter.mp hk).1
  omega
theorem at_some {fs : List Int} {many hues : Int} {p : Int} (h : GoodF many hues fs) (h0 : 0 ≤ p) (h1 : p < many) : fs[p.toNat]? = some (atF fs p) := by
  have hl := h.len
  have hp : p.toNat < fs.length := by omega
  unfold atF
  rw [List.getD_eq_getElem?_getD, List.getElem?_eq_getElem hp]
  rfl
theorem atI_fs {fs : List Int} {many hues : Int} {p : Int} (h : GoodF many hues fs) (h0 : 0 ≤ p) (h1 : p < many) : atI (fs.map V.int) p = some (.int (atF fs p)) := by
  have e : p = ((p.toNat : Nat) : Int) := by omega
  have g : (fs.map V.int)[p.toNat]? = some (.int (atF fs p)) := by rw [List.getElem?_map, at_some h h0 h1]; rfl
  rw [e]
  rw [← e]
  have q := atI_nat g
  rw [← e] at q
  exact q
/-! ### riddles are fine data -/
theorem fine_row {r : Row} (h : ∀ z ∈ r, 0 ≤ z ∧ z < 64) (hl : r.length ≤ 8) : Fine (rowD r) 2 64 :=
  (Fine.tuple (fineAll_map r fun z hz => fine_int (h z hz).1 (h z hz).2)).mono (by omega) (by omega)
theorem fine_wish {many hues : Int} {wd : WD} (g : Good many hues wd) (hm : many ≤ 6) (hh : hues ≤ 4) : Fine (wishD wd) 4 5000 := by
  have a : Fine (rowD wd.1) 2 64 := fine_row (fun z hz => ⟨(g.pl z hz).1, by have := (g.pl z hz).2; omega⟩) (by have := g.three; omega)
  have b : Fine (.tuple (wd.2.map rowD)) 3 4200 := by
    refine (Fine.tuple (fineAll_map wd.2 fun r hr => fine_row (fun z hz => ⟨((g.row r hr).2 z hz).1, by have := ((g.row r hr).2 z hz).2; omega⟩) (by have := (g.row r hr).1; have := g.three; omega))).mono (Nat.le_refl _) ?_
    have := g.few
    omega
  exact (Fine.tuple (FineAll.cons (a.mono (by omega) (Nat.le_refl _)) (FineAll.cons b (FineAll.nil _)))).mono (Nat.le_refl _) (by omega)
theorem fine_rid {many hues : Int} {wds : List WD} (g : GoodR many hues wds) : Fine (ridD many hues wds) 6 50000 := by
  have c : Fine (.tuple (wds.map wishD)) 5 40100 := by
    refine (Fine.tuple (fineAll_map wds fun wd hw => fine_wish (g.each wd hw) g.m6 g.h4)).mono (Nat.le_refl _) ?_
    have := g.eight
    omega
  have m := fine_int (i := many) (by have := g.m1; omega) (by have := g.m6; omega)
  have h := fine_int (i := hues) (by have := g.h2; omega) (by have := g.h4; omega)
  exact (Fine.tuple (FineAll.cons (m.mono (by omega) (Nat.le_refl _)) (FineAll.cons (h.mono (by omega) (Nat.le_refl _)) (FineAll.cons c (FineAll.nil _))))).mono (Nat.le_refl _) (by omega)
theorem fine_fill {many hues : Int} {fs : List Int} (g : GoodF many hues fs) (hm : many ≤ 6) (hh : hues ≤ 4) : Fine (rowD fs) 2 64 :=
  fine_row (fun z hz => ⟨(g.hue z hz).1, by have := (g.hue z hz).2; omega⟩) (by have := g.len; omega)
theorem fine_bro (fs : List Int) (wds : List WD) {i : Nat} (h : i ≤ 8) : Fine (.list ((broL fs wds i).map .int)) 2 64 := by
  refine (Fine.list (fineAll_map (broL fs wds i) fun z hz => fine_int (broL_mem hz).1 (by have := (broL_mem hz).2; omega))).mono (by omega) ?_
  have := broL_len fs wds i
  omega
end Dt

set_option Elab.async false
set_option linter.all false
set_option maxRecDepth 100000
set_option maxHeartbeats 4000000
/-! sorted(xs) of tuples of small ints, any number of them -/
namespace Tt
open PySem PySem.Spec PyProof.Rows L2
def rk (h : Heap) (B : Int) (v : Value) : Int := TS.code B (TS.intsOf h v)
theorem swo_rk (f : Value → Int) : SrtO.Swo fun v u => decide (f v < f u) := by
  refine ⟨fun x y h => ?_, fun x y z h1 h2 => ?_⟩
  · have a := of_decide_eq_true h
    exact decide_eq_false (by omega)
  · have a := of_decide_eq_false h1
    have b := of_decide_eq_false h2
    exact decide_eq_false (by omega)
section
variable {prog : Program} {w : World} {A : Around} {E : Value → Shared → Prop} {s : Shared}
theorem cmp_tups {d : Nat} {B : Int} {vs : List Value} (x : TS.TupsOk s.heap d B vs) (r : Value → Int) (hr : ∀ v, v ∈ vs → ∀ ns, TS.TupInts s.heap v ns → r v = TS.code B ns) :
    SrtO.Cmp prog w A s (tuples' true) (fun p => p.1 ∈ vs) (SrtO.lt2 fun v u => decide (r v < r u)) := by
  intro p q hp hq
  obtain ⟨ns, tp, lp, bp⟩ := x _ hp
  obtain ⟨ms, tq, lq, bq⟩ := x _ hq
  show wpAny (model prog w) A (keyLt' (tuples' true) p.1 q.1) (fun b s' => s' = s ∧ b = decide (r p.1 < r q.1)) (fun _ _ => False) s
  rw [hr _ hp _ tp, hr _ hq _ tq]
  obtain ⟨a, xs, e1, ⟨o, ho, hc, n, hdt⟩, i⟩ := tp
  obtain ⟨a', ys, e2, ⟨o', ho', hc', n', hdt'⟩, i'⟩ := tq
  rw [e1, e2]
  refine PySem.W.kat_lt ho hdt ho' hdt' ?_
  have l1 := i.length
  have l2 := i'.length
  rw [Array.length_toList] at l1 l2
  rw [show decide (xs.size < ys.size) = false from decide_eq_false (by omega)]
  exact TS.lex_ints 0 i i' (by omega) bp bq ⟨rfl, rfl⟩
theorem sortable {a : Addr} {d : Nat} {B : Int} {vs : List Value} (hd : 1 ≤ d) (h2 : 2 ≤ vs.length) (x : TS.TupsOk s.heap d B vs) (ha : ∀ o, s.heap.get? a = some o → o.cls ≠ .type "tuple") (r : Value → Int) (hr : ∀ v, v ∈ vs → ∀ ns, TS.TupInts s.heap v ns → r v = TS.code B ns) :
    SrtO.SortableO prog w A s a vs fun v u => decide (r v < r u) := by
  intro h' keep
  have k2 : ∀ b o, s.heap.get? b = some o → o.cls = .type "tuple" → h'.get? b = some o := fun b o e c => keep b o (fun z => by subst z; exact ha o e c) e
  have x' := x.keeps k2
  obtain ⟨fs, kt, hl, hi⟩ := TS.firsts_of hd vs x'
  refine ⟨tuples' true, fun Q E hq => ?_, cmp_tups (s := { s with heap := h' }) x' r fun v hv ns t => ?_⟩
  · refine PySem.W.kat_kind (T := .type "int") kt (by omega) (fun f hm => ?_) (by rfl) ?_
    · obtain ⟨n, t, rfl⟩ := hi f hm
      exact PySem.W.Looks.of_pure rfl
    · rw [show (Value.type "int" != Value.type "tuple") = true by decide +kernel]
      exact hq
  · obtain ⟨n0, t0, _⟩ := x v hv
    rw [show ns = n0 from t.ints.symm.trans (t0.keeps k2).ints]
    exact hr v hv n0 t0
end
/-- sorted(xs): ts the tuples' places, k what stands at each -/
def rSortedT (K : PySem.W.Frag) : List V → Hp → VK → Prop := fun vs H Q => ∃ (a : Addr) (ts : List Addr) (k : Addr → List Int) (d : Nat) (B : Int), vs = [.ref a] ∧ SqL K H a (ts.map V.ref) ∧ 1 ≤ d ∧ (∀ t ∈ ts, H t = some (.tup ((k t).map V.int)) ∧ (k t).length = d ∧ TS.Bd B (k t)) ∧
  ∀ (ts' : List Addr) (p : Addr), ts'.Perm ts → ts'.Pairwise (fun u v => TS.code B (k u) ≤ TS.code B (k v)) → H p = none → Q (.ref p) (upd H p (.lst (ts'.map V.ref)))
theorem vals_refs : ∀ {ts : List Addr} {us : List Value}, Vals (ts.map V.ref) us → us = ts.map Value.ref
  | [], _, .nil => rfl
  | t :: r, _, .cons h q => by
    cases h
    rw [vals_refs q]
    rfl
theorem refs_vals : ∀ ts : List Addr, Vals (ts.map V.ref) (ts.map Value.ref)
  | [] => .nil
  | t :: r => .cons rfl (refs_vals r)
theorem cr_sortedT {X : Cx} : CallR X (.builtin "sorted") (rSortedT X.K) := by
  intro pins s σ H vs us Q I r h
  obtain ⟨a, ts, k, d, B, rfl, hs, hd, ht, q⟩ := h
  obtain ⟨its, rv, hl, hz⟩ := I.list hs
  obtain ⟨u, rfl, ru⟩ := vals1 r
  cases (show u = Value.ref a from ru)
  obtain rfl := vals_refs rv
  have tup : ∀ t ∈ ts, TS.TupInts s.heap (.ref t) (k t) := fun t hm => by
    obtain ⟨_, its, rr, hT⟩ := I.hok t _ (ht t hm).1
    exact ⟨t, its.toArray, rfl, hT, by simpa using rr.ints⟩
  have ok : TS.TupsOk s.heap d B (ts.map Value.ref) := fun v hv => by
    obtain ⟨t, hm, rfl⟩ := List.mem_map.mp hv
    exact ⟨k t, tup t hm, (ht t hm).2.1, (ht t hm).2.2⟩
  have rk_at : ∀ v ∈ ts.map Value.ref, ∀ ns, TS.TupInts s.heap v ns → rk s.heap B v = TS.code B ns := fun v _ ns t => by
    unfold rk
    rw [t.ints]
  refine SrtO.sorted_ord (swo_rk (rk s.heap B)) hl.isList (by rw [← rv.length]; exact hz) (fun h2 h₁ a' ha' kk => ?_) fun out so sb => ?_
  · have keep : ∀ b o, s.heap.get? b = some o → o.cls = .type "tuple" → h₁.get? b = some o := fun b o e _ => (kk b o e).2
    refine sortable (s := { s with heap := h₁ }) hd h2 (ok.keeps keep) (fun o e c => ?_) (rk s.heap B) fun v hv ns t => ?_
    · have e' := Option.some.inj (e.symm.trans ha')
      rw [e'] at c
      exact absurd (Value.type.inj c) (by decide)
    · obtain ⟨n0, t0, _⟩ := ok v hv
      rw [show ns = n0 from t.ints.symm.trans (t0.keeps keep).ints]
      exact rk_at v hv n0 t0
  · obtain ⟨ep, he⟩ := PyProof.Rows.sortedAll_at s.heap (ts.map Value.ref) out.toArray
    have pm := sb.perm
    obtain ⟨ts', rfl, pt⟩ : ∃ ts' : List Addr, out = ts'.map Value.ref ∧ ts'.Perm ts := by
      have back : ∀ v ∈ out, ∃ t, v = Value.ref t := fun v hv => by
        obtain ⟨t, _, e⟩ := List.mem_map.mp (pm.mem_iff.mp hv)
        exact ⟨t, e.symm⟩
      have g : ∀ l : List Value, (∀ v ∈ l, ∃ t, v = Value.ref t) → ∃ m : List Addr, l = m.map Value.ref := by
        intro l
        induction l with
        | nil => intro _; exact ⟨[], rfl⟩
        | cons v r ih =>
          intro hv
          obtain ⟨t, rfl⟩ := hv v List.mem_cons_self
          obtain ⟨m, rfl⟩ := ih fun z hz => hv z (List.mem_cons_of_mem _ hz)
          exact ⟨t :: m, rfl⟩
      obtain ⟨m, rfl⟩ := g out back
      let f : Value → Addr := fun v => match v with | .ref t => t | _ => 0
      have q2 := pm.map f
      rw [List.map_map, List.map_map] at q2
      have e1 : (f ∘ Value.ref) = id := by funext z; rfl
      rw [e1, List.map_id, List.map_id] at q2
      exact ⟨m, rfl, q2⟩
    refine ⟨.ref (s.heap.objs.size + 1), _, I.laid (t' := s.toks) (o := .lst (ts'.map V.ref)) (fun _ _ => PyProof.Rows.sortedAll_old) (Nat.le_succ _) ⟨?_, ts'.map Value.ref, ep, refs_vals ts', he⟩, rfl, q ts' _ pt ?_ (I.hok.fresh (Nat.le_succ _))⟩
    · rw [List.length_map, pt.length_eq]
      rw [List.length_map] at hz
      exact hz
    · have so2 := List.pairwise_map.mp so
      refine List.Pairwise.imp_of_mem (fun {x y} hx hy h => ?_) so2
      have h2 := of_decide_eq_false h
      unfold rk at h2
      rw [(tup x (pt.mem_iff.mp hx)).ints, (tup y (pt.mem_iff.mp hy)).ints] at h2
      omega
end Tt

set_option Elab.async false
set_option linter.all false
set_option maxRecDepth 100000
set_option maxHeartbeats 4000000
/-! the law's own call: tables of code objects tracked, and no repr under way around it -/
namespace Lg
open PySem PySem.Spec PyProof.Rows L2
/-- the def's body, run where A stands -/
theorem run_at {P : Program} {w : World} {K : PySem.W.Frag} {mg : Str → Option Value} {base : Heap} {k : Nat} {f : Addr} {x qual : Str} {st : Stmt} {fd : FuncData} {N ps : List Str} {A : Around} {outer : List Env} {s : Shared} {H : Hp} {args : Args} {us : List Value} {vs : List V} {Q : VK} {E : XK}
    (F : Fun K x qual st f fd) (S : FnScope N ps (defScope st)) (hr : Room (k + 1) A) (e0 : Env0 P w K mg base A outer s H) (hb : BindsTo s fd args (ps.zip us)) (r : Vals vs us) (hl : vs.length = ps.length)
    (body : ∀ cdv : Value, Room k (A.deeper (envOfC qual (defScope st) s.heap.objs.size f cdv)) → ∃ t, PSs (cxOf CX0 P w K mg base N qual (defScope st) f cdv A outer s H E).nox (defBody st) t ∧ t { nx := fun _ H' => Q .non H', rt := Q } (start N vs) H) :
    codeAny (model P w) A (.call (.ref f) args) (CR CX0 outer P w H s Q E) s := by
  obtain ⟨oc, od, kV, doc, pm, an, cdv, ct, osl, rfl, lk, hcd⟩ := F.ex
  have old : ∀ b o, base.get? b = some o → s.heap.get? b = some o := fun b o e => (e0.bs b o e).1
  have KX := e0.mod.kin.keeps old
  have lim := e0.mod.nolimit.keeps old
  obtain ⟨t, pt, ht⟩ := body cdv (hr.deeper _)
  refine codeAny_call_function hr.depth (KX _ _ lk) rfl S.co S.gen rfl (PySem.W.codeRec_of KX hcd) (hb _ _ _ _ (wpAny_newFunctionEnv_cells S.kind (fun y hy => ?_) fun env he s1 ic => ?_))
  · rcases S.par y.1 (List.of_mem_zip (show (y.1, y.2) ∈ ps.zip us from hy)).1 with z | z
    · exact .inl z
    · exact .inr ⟨z, PySem.W.cellsFrom_some _ _ _ (.inl z)⟩
  · subst he
    refine ⟨lim.keeps ic.toInCall.keep, codeAny_func (wpAny_mono (pt.nox.run [] s1 (start N vs) H _ (inv_start S hr.hd e0 hl r ic) ht) (fun fl s' q => ?_) fun _ _ q => q)⟩
    cases fl with
    | ret u => obtain ⟨v, σ', H', J, rv, q⟩ := q; exact ⟨v, H', J.os, J.bare, J.base, J.hok, rv, q⟩
    | next => obtain ⟨σ', H', J, q⟩ := q; exact ⟨.non, H', J.os, J.bare, J.base, J.hok, rfl, q⟩
    | brk => obtain ⟨_, _, _, q⟩ := q; exact q.elim
    | cont => obtain ⟨_, _, _, q⟩ := q; exact q.elim
/-- the abstract heap at the law's call: the tables, and the script where the top didn't write it -/
def H0 (K : PySem.W.Frag) (T : List Addr) (a : Addr) (o : Obj) (xs : List V) : Hp := fun b => if b ∈ T then some (.tbl #[]) else if b = a ∧ K.lookup a = none then some (.frz o (.lst xs)) else none
theorem H0_three (K : PySem.W.Frag) (T : List Addr) (a : Addr) (o : Obj) (xs : List V) (b : Addr) : (b ∈ T ∧ H0 K T a o xs b = some (.tbl #[])) ∨ (b = a ∧ K.lookup a = none ∧ H0 K T a o xs b = some (.frz o (.lst xs))) ∨ (H0 K T a o xs b = none ∧ b ∉ T) := by
  unfold H0
  by_cases h : b ∈ T
  · exact .inl ⟨h, if_pos h⟩
  · by_cases h2 : b = a ∧ K.lookup a = none
    · exact .inr (.inl ⟨h2.1, h2.2, by rw [if_neg h, if_pos h2]⟩)
    · exact .inr (.inr ⟨by rw [if_neg h, if_neg h2], h⟩)
theorem law_at {P : Program} {w : World} {K : PySem.W.Frag} {mg mb : Str → Option Value} {k : Nat} {fa a : Addr} {cs : List (Addr × Addr)} {x qual : Str} {st : Stmt} {fd : FuncData} {N : List Str} {par : Str} {s : Shared} {vs : List Value} {ns : List Int}
    (KX : K.In s.heap) (hns : s.heap.Ns mainGlobals mg) (hbl : s.heap.Ns builtinsNs mb) (hbb : ∀ x : Str, x ≠ "__name__" → mb x = bootBuiltins x) (hlim : s.heap.NoLimit) (hg : s.gens = #[])
    (hT : ∀ p ∈ cs, s.heap.get? p.2 = some { cls := .none, data := .fields #[] }) (nT : ∀ p ∈ cs, K.lookup p.2 = none) (hC : ∀ p ∈ cs, PySem.W.CodeHd s.heap p.1 p.2)
    (hbm : ∃ (bm : Addr) (ob : Obj), mg "__builtins__" = some (.ref bm) ∧ bm ≠ builtinsNs ∧ s.heap.get? bm = some ob ∧ ob.cls = .type "module" ∧ ob.dict = some builtinsNs ∧ ob.data = .plain)
    (ha : s.heap.get? a = some { cls := .type "list", data := .seq vs.toArray }) (hi : IntsAre vs ns) (hlen : ns.length ≤ sizeLine) (hr : Room (k + 1) callerA)
    (F : Fun K x qual st fa fd) (S : FnScope N [par] (defScope st)) (hb : ∀ (s : Shared) (u : Value), BindsTo s fd ⟨[u], []⟩ [(par, u)])
    (body : ∀ (base : Heap) (H : Hp) (cdv : Value), K.In base → base.Ns mainGlobals mg → (∀ p ∈ cs, GxR.TabB base mg p.1 p.2) → (∀ p ∈ cs, H p.2 = some (.tbl #[])) → SqL K H a (ns.map V.int) → Room k (callerA.deeper (envOfC qual (defScope st) s.heap.objs.size fa cdv)) →
      ∃ t, PSs (cxOf CX0 P w K mg base N qual (defScope st) fa cdv callerA [] s H (fun _ _ _ => False)).nox (defBody st) t ∧ t { nx := fun _ _ => False, rt := fun v _ => v = .bl true } (start N [.ref a]) H) :
    codeAny (model P w) callerA (.call (.ref fa) ⟨[.ref a], []⟩) (fun r s' => r = .ok (.ret (.bool true)) ∧ OldK s.heap s'.heap ∧ s'.os = s.os ∧ AllBare s'.gens) s := by
  have rv := vals_ints hi
  have lv := hi.length
  generalize hso : ({ cls := .type "list", data := .seq vs.toArray } : Obj) = so at ha
  have inT : ∀ b, b ∈ cs.map (·.2) → s.heap.get? b = some { cls := .none, data := .fields #[] } ∧ K.lookup b = none := fun b h => by
    obtain ⟨p, hp, rfl⟩ := List.mem_map.mp h
    exact ⟨hT p hp, nT p hp⟩
  generalize hH : H0 K (cs.map (·.2)) a so (ns.map V.int) = H
  have three := H0_three K (cs.map (·.2)) a so (ns.map V.int)
  rw [hH] at three
  -- an object of another kind isn't tracked
  have clean : ∀ b o, s.heap.get? b = some o → o.data ≠ .fields #[] → (∀ v n, o.data ≠ .seq v n) → H b = none := fun b o e h1 h2 => by
    rcases three b with ⟨z, _⟩ | ⟨z, _, _⟩ | ⟨z, _⟩
    · rw [(inT b z).1] at e; cases e; exact absurd rfl h1
    · rw [z, ha, ← hso] at e; cases e; exact absurd rfl (h2 _ _)
    · exact z
  have low : ∀ b o, s.heap.get? b = some o → o.data ≠ .fields #[] → (∀ v n, o.data ≠ .seq v n) → (hidT s.heap H).get? b = some o := fun b o e h1 h2 => hidT_get e (clean b o e h1 h2)
  have lowNs : ∀ b m, s.heap.Ns b m → (hidT s.heap H).Ns b m := fun b m ⟨o, es, ep, e, d, q⟩ => ⟨o, es, ep, low b o e (by rw [d]; exact fun z => nomatch z) (by rw [d]; exact fun _ _ z => nomatch z), d, q⟩
  have kb : K.In (hidT s.heap H) := fun b o e => hidT_get (KX b o e) (by
    rcases three b with ⟨z, _⟩ | ⟨z, q, _⟩ | ⟨z, _⟩
    · rw [(inT b z).2] at e; cases e
    · rw [z, q] at e; cases e
    · exact z)
  have hok : HOk P w H s.heap := fun b u e => by
    rcases three b with ⟨z, q⟩ | ⟨z, _, q⟩ | ⟨q, _⟩
    · rw [e] at q; cases q; exact (inT b z).1
    · rw [e] at q; cases q; rw [z]; exact ⟨ha, by rw [List.length_map]; exact hlen, vs, 0, rv, by rw [ha, ← hso]⟩
    · rw [e] at q; cases q
  have tb : ∀ p ∈ cs, GxR.TabB (hidT s.heap H) mg p.1 p.2 := fun p hp => by
    refine ⟨?_, ?_, fun z => ?_⟩
    · obtain ⟨o, us, fl, t1, fg, t2, b1, tx, t3, e1, e2, e3, e4, rest⟩ := hC p hp
      exact ⟨o, us, fl, t1, fg, t2, b1, tx, t3, low _ _ e1 (by rw [e3]; intro z; cases z; simp at e4) (by rw [e3]; exact fun _ _ z => nomatch z), e2, e3, e4, rest⟩
    · obtain ⟨bm, ob, m1, m2, m3, m4, m5, m6⟩ := hbm
      refine ⟨bm, ob, m1, m2, fun z => ?_, fun z => ?_, low _ _ m3 (by rw [m6]; exact fun z => nomatch z) (by rw [m6]; exact fun _ _ z => nomatch z), m4, m5, m6⟩
      · obtain ⟨o, es, ep, e, d, _⟩ := hns
        rw [z, e] at m3; cases m3; rw [d] at m6; cases m6
      · rw [z, hT p hp] at m3; cases m3; cases m6
    · obtain ⟨o, es, ep, e, d, _⟩ := hns
      rw [z, hT p hp] at e; cases e; cases d
  have tabH : ∀ p ∈ cs, H p.2 = some (.tbl #[]) := fun p hp => by
    have hm : p.2 ∈ cs.map (·.2) := List.mem_map.mpr ⟨p, hp, rfl⟩
    rcases three p.2 with ⟨_, q⟩ | ⟨z, _, _⟩ | ⟨_, q⟩
    · exact q
    · have e := (inT _ hm).1
      rw [z, ha, ← hso] at e; cases e
    · exact absurd hm q
  have hS : SqL K H a (ns.map V.int) := by
    rcases three a with ⟨z, _⟩ | ⟨_, _, q⟩ | ⟨q, nt⟩
    · have e := (inT a z).1
      rw [ha, ← hso] at e; cases e
    · exact .inl (.inr ⟨so, q⟩)
    · cases e : K.lookup a with
      | none => rw [← hH] at q; unfold H0 at q; rw [if_neg nt, if_pos ⟨rfl, e⟩] at q; cases q
      | some o =>
        have e2 := KX a o e
        rw [ha, ← hso] at e2; cases e2
        exact .inr ⟨_, vs.toArray, _, e, rfl, rfl, rfl, by rw [List.size_toArray, lv]; exact hlen, by simpa using rv⟩
  have e0 : Env0 P w K mg (hidT s.heap H) callerA [] s H := ⟨rfl, ⟨kb, lowNs _ _ hns, ⟨mb, lowNs _ _ hbl, hbb⟩, let ⟨mc, q1, q2⟩ := hlim; ⟨mc, lowNs _ _ q1, q2⟩⟩, fun b o e => of_hidT e, Nat.le_of_eq (hidT_size _ _), trivial, (fun b z => nomatch z), hok, .of_eq hg⟩
  refine codeAny_mono (run_at (vs := [.ref a]) (us := [.ref a]) (Q := fun v _ => v = .bl true) (E := fun _ _ _ => False) F S hr e0 (hb s (.ref a)) (.cons rfl .nil) rfl fun cdv hrm => ?_) fun r s' h => ?_
  · obtain ⟨t, p1, p2⟩ := body _ H cdv kb (lowNs _ _ hns) tb tabH hS hrm
    refine ⟨t, p1, ?_⟩
    have e : (fun (_ : L2.St) (H' : Hp) => (fun (v : V) (_ : Hp) => v = V.bl true) V.non H') = fun _ _ => False := by
      funext _ _
      exact propext ⟨(fun z => nomatch z), fun z => z.elim⟩
    rw [e]
    exact p2
  · match r, h with
    | .ok (.ret u), h =>
      obtain ⟨v, H', os, bare, un, hok', r', q⟩ := h
      obtain rfl : v = .bl true := q
      obtain rfl : u = Value.bool true := r'
      have grown : ∀ p ∈ cs, ∃ more : Array Value, s'.heap.get? p.2 = some { cls := .none, data := .fields more } := fun p hp => by
        obtain ⟨more, z⟩ := un.tbls p.2 #[] (tabH p hp)
        exact ⟨_, hok' p.2 _ z⟩
      have kept : ∀ b o, b ∉ cs.map (·.2) → s.heap.get? b = some o → s'.heap.get? b = some o := fun b o nb e => by
        rcases three b with ⟨z, _⟩ | ⟨z, _, q⟩ | ⟨q, _⟩
        · exact absurd z nb
        · have z2 := hok' b _ (un.frzs b so _ q)
          rw [z, ha] at e
          cases e
          exact z2.1
        · exact un.keep b o e q (by intro z; cases z) (by intro z; cases z)
      refine ⟨rfl, ⟨fun b o e => ?_, fun b o e => ?_⟩, os, bare⟩
      · by_cases hm : b ∈ cs.map (·.2)
        · obtain ⟨p, hp, rfl⟩ := List.mem_map.mp hm
          obtain ⟨more, z⟩ := grown p hp
          rw [hT p hp] at e
          cases e
          exact .inr (.inl ⟨((hC p hp).tab (hT p hp)).isCodeTable, rfl, #[], more, rfl, by rw [Array.empty_append]; exact z⟩)
        · exact .inl (kept b o hm e)
      · by_cases hm : b ∈ cs.map (·.2)
        · obtain ⟨p, hp, rfl⟩ := List.mem_map.mp hm
          obtain ⟨more, z⟩ := grown p hp
          exact ⟨_, z⟩
        · exact ⟨o, kept b o hm e⟩
/-! ### repr of data -/
/-- repr(x), x data -/
theorem call_repr {X : Cx} (hg : X.A.guards = some []) (hu : X.A.units + 64 < cLine) : CallR X (.builtin "repr") (fun xs H Q => ∃ (a : Addr) (d : PyData), xs = [.ref a] ∧ Dp X.K H (.ref a) d ∧ d.showable = true ∧ d.hasDict = false ∧ d.depth < 63 ∧ d.shown.length ≤ sizeLine ∧ Q (.str d.shown) H) := by
  intro pins s σ H xs us Q I r h
  obtain ⟨a, d, rfl, hd, h1, h2, h3, h4, q⟩ := h
  obtain ⟨u, rfl, ru⟩ := vals1 r
  obtain ⟨as, rd⟩ := Dp.reads I d _ u hd ru
  cases (show u = Value.ref a from ru)
  refine repr_of_reads' rd h1 (fun e => by rw [h2] at e; cases e) hg (by omega) (fun _ _ e => e) (fun h' u tk hk => ?_) h4
  exact ⟨.str d.shown, H, I.kept (t' := _) hk, ⟨_, rfl⟩, q⟩
end Lg

set_option Elab.async false
set_option linter.all false
set_option maxRecDepth 100000
set_option maxHeartbeats 4000000
namespace Lg
open PySem PySem.Spec PyProof.Rows L2
/-- the code object and the table of the def named x -/
def TabOf (mg : Str → Option Value) (h : Heap) (x : Str) (p : Addr × Addr) : Prop :=
  ∃ (a : Addr) (o : Obj) (fd : FuncData), mg x = some (.ref a) ∧ h.get? a = some o ∧ o.data = .func fd ∧ fd.code = .ref p.1 ∧ PySem.W.CodeHd h p.1 p.2 ∧ h.get? p.2 = some { cls := .none, data := .fields #[] }
theorem TabOf.code {K : PySem.W.Frag} {mg : Str → Option Value} {h : Heap} {x : Str} {p : Addr × Addr} {f : Addr} {cl : Value} {dd : Option Addr} {fd : FuncData} {sl : Array (Option Value)} (T : TabOf mg h x p) (X : K.In h) (hf : mg x = some (.ref f)) (l : K.lookup f = some ⟨cl, dd, .func fd, sl⟩) : fd.code = .ref p.1 := by
  obtain ⟨a, o, fd', h1, h2, h3, h4, _⟩ := T
  rw [hf] at h1
  cases h1
  rw [X _ _ l] at h2
  cases h2
  cases h3
  exact h4
theorem no_tab {K : PySem.W.Frag} {h : Heap} {P : Addr} (X : K.In h) (hK : PySem.W.noTabs K = true) (e : h.get? P = some { cls := .none, data := .fields #[] }) : K.lookup P = none := by
  cases z : K.lookup P with
  | none => rfl
  | some o =>
    have z2 := X _ _ z
    rw [e] at z2
    cases z2
    exact absurd (show false = true from List.all_eq_true.mp hK (P, _) (PySem.W.mem_of_lookupK z)) Bool.false_ne_true
theorem walk_of {l : PySem.W.OpenLaw} {n k : Nat} {q : Program} {loose : List Str} {XP : (Str → Option Value) → Heap → Prop} {YP : World → Heap → Prop} {d : DefRec} {K : Params → PySem.W.Frag} {x qual par : Str} {st : Stmt} {N : List Str} (names : List Str)
    (hn : l.most = some n) (hn2 : n ≤ sizeLine) (hdf : d.params.defaults = []) (hr : Room (k + 1) callerA) (hrec : (names.all fun y => (recsOf q).any fun e => e.name == y) = true) (hK : ∀ w : World, PySem.W.noTabs (K w.params) = true) (hY : ∀ (w : World) (h : Heap), YP w h → (K w.params).In h) (S : FnScope N [par] (defScope st))
    (F : ∀ (w : World) (mg : Str → Option Value) (fa : Addr) (h : Heap) (tb : Str → Addr × Addr), (K w.params).In h → h.Ns mainGlobals mg → mg d.name = some (.ref fa) → (∀ y ∈ names, TabOf mg h y (tb y)) →
      ∃ fd : FuncData, Fun (K w.params) x qual st fa fd ∧ (∀ (s : Shared) (u : Value), BindsTo s fd ⟨[u], []⟩ [(par, u)]) ∧ ∀ (base : Heap) (H : Hp) (cdv : Value) (a : Addr) (ns : List Int) (s : Shared), (K w.params).In base → base.Ns mainGlobals mg → (∀ y ∈ names, GxR.TabB base mg (tb y).1 (tb y).2) → (∀ y ∈ names, H (tb y).2 = some (.tbl #[])) → ns.length ≤ n → (∀ z ∈ ns, Builtin.Int.intBits z ≤ 1048576) → SqL (K w.params) H a (ns.map V.int) → Room k (callerA.deeper (envOfC qual (defScope st) s.heap.objs.size fa cdv)) →
        ∃ t, PSs (cxOf CX0 l.prog w (K w.params) mg base N qual (defScope st) fa cdv callerA [] s H (fun _ _ _ => False)).nox (defBody st) t ∧ t { nx := fun _ _ => False, rt := fun v _ => v = .bl true } (start N [.ref a]) H) :
    PySem.W.WalkO q loose XP YP l.row.toRowW d [] (fun f vs => PySem.call f vs) := by
  refine Att.attach_callB hn hdf fun w s₀ s₁ mg mb fa o pm cd doc a vs ns G Y ho hd hcd hmg hobj hints hlen hbits hg => ?_
  have KX := hY w _ Y
  have ex : ∀ y : Str, ∃ p : Addr × Addr, y ∈ names → TabOf mg s₁.heap y p := fun y => by
    by_cases hy : y ∈ names
    · obtain ⟨dL, hm, hn1⟩ := List.any_eq_true.mp (List.all_eq_true.mp hrec y hy)
      have hn2 : dL.name = y := beq_iff_eq.mp hn1
      obtain ⟨a', o', fd', c', P', h1, h2, h3, h4, h5, h6⟩ := G.T.tab dL hm
      rw [hn2] at h1
      exact ⟨(c', P'), fun _ => ⟨a', o', fd', h1, h2, h3, h4, PySem.W.CodeHd.of h5 h6, h6.2⟩⟩
    · exact ⟨(0, 0), fun z => absurd z hy⟩
  have tbx : ∃ tb : Str → Addr × Addr, ∀ y ∈ names, TabOf mg s₁.heap y (tb y) := ⟨fun y => Classical.choose (ex y), fun y => Classical.choose_spec (ex y)⟩
  obtain ⟨tb, ht⟩ := tbx
  obtain ⟨fd, hF, hb, body⟩ := F w mg fa _ tb KX G.T.g hmg ht
  have cm : ∀ p ∈ names.map tb, ∃ y ∈ names, tb y = p := fun p hp => List.mem_map.mp hp
  refine law_at (cs := names.map tb) KX G.T.g G.T.b G.T.builtins G.T.nolimit hg (fun p hp => ?_) (fun p hp => ?_) (fun p hp => ?_) G.T.bmain hobj hints (Nat.le_trans hlen hn2) hr hF S hb fun base H cdv kb gn tB tH hS hrm => body base H cdv a ns s₁ kb gn (fun y hy => tB _ (List.mem_map_of_mem hy)) (fun y hy => tH _ (List.mem_map_of_mem hy)) hlen hbits hS hrm
  · obtain ⟨y, hy, rfl⟩ := cm p hp
    obtain ⟨_, _, _, _, _, _, _, _, z⟩ := ht y hy
    exact z
  · obtain ⟨y, hy, rfl⟩ := cm p hp
    obtain ⟨_, _, _, _, _, _, _, _, z⟩ := ht y hy
    exact no_tab KX (hK w) z
  · obtain ⟨y, hy, rfl⟩ := cm p hp
    obtain ⟨_, _, _, _, _, _, _, z, _⟩ := ht y hy
    exact z
end Lg

set_option Elab.async false
set_option linter.all false
set_option maxRecDepth 100000
set_option maxHeartbeats 4000000
/-! fillings, counts, clashes: the data -/
namespace Dt
open PySem PySem.Spec PyProof.Rows L2
def longer (hues : Nat) (f : List Int) : List (List Int) := (List.range hues).map fun (h : Nat) => f ++ [(h : Int)]
def fillL (hues : Nat) : Nat → List (List Int)
  | 0 => [[]]
  | n + 1 => (fillL hues n).flatMap (longer hues)
theorem fill_good {hues : Nat} : ∀ {n : Nat} {f : List Int}, f ∈ fillL hues n → f.length = n ∧ ∀ h ∈ f, 0 ≤ h ∧ h < (hues : Int)
  | 0, f, h => by
    cases List.mem_singleton.mp h
    exact ⟨rfl, fun _ z => nomatch z⟩
  | n + 1, f, h => by
    obtain ⟨g, hg, hf⟩ := List.mem_flatMap.mp h
    obtain ⟨k, hk, rfl⟩ := List.mem_map.mp hf
    obtain ⟨l, a⟩ := fill_good hg
    have hk := List.mem_range.mp hk
    refine ⟨by simp [l], fun z hz => ?_⟩
    rcases List.mem_append.mp hz with q | q
    · exact a z q
    · cases List.mem_singleton.mp q
      omega
theorem longer_len (hues : Nat) (f : List Int) : (longer hues f).length = hues := by simp [longer]
theorem flat_len {hues : Nat} : ∀ l : List (List Int), (l.flatMap (longer hues)).length = l.length * hues
  | [] => by simp
  | f :: r => by rw [List.flatMap_cons, List.length_append, longer_len, flat_len r, List.length_cons, Nat.succ_mul, Nat.add_comm]
theorem fill_len (hues : Nat) : ∀ n : Nat, (fillL hues n).length = hues ^ n
  | 0 => by simp [fillL]
  | n + 1 => by rw [fillL, flat_len, fill_len hues n, Nat.pow_succ]
theorem fill_goodF {many hues : Int} (m0 : 0 ≤ many) (h0 : 0 ≤ hues) {f : List Int} (h : f ∈ fillL hues.toNat many.toNat) : GoodF many hues f := by
  obtain ⟨a, b⟩ := fill_good h
  exact ⟨by omega, fun z hz => by have := b z hz; omega⟩
theorem pow_le_4096 {h n : Nat} (hh : h ≤ 4) (hn : n ≤ 6) : h ^ n ≤ 4096 := by
  have a : h ^ n ≤ 4 ^ n := Nat.pow_le_pow_left hh n
  have b : 4 ^ n ≤ 4 ^ 6 := Nat.pow_le_pow_right (by decide) hn
  have c : (4 : Nat) ^ 6 = 4096 := by decide
  omega
/-! ### counts -/
def bump (ns : List Int) (i : Nat) : List Int := ns.set i (ns.getD i 0 + 1)
def cnt0 (wds : List WD) : List Int := List.replicate (wds.length + 1) 0
def cntL (wds : List WD) (fss : List (List Int)) : List Int := fss.foldl (fun ns f => bump ns (broL f wds wds.length).length) (cnt0 wds)
theorem cnt_snoc (wds : List WD) (fss : List (List Int)) (f : List Int) : cntL wds (fss ++ [f]) = bump (cntL wds fss) (broL f wds wds.length).length := by
  unfold cntL
  rw [List.foldl_append]
  rfl
theorem bump_len (ns : List Int) (i : Nat) : (bump ns i).length = ns.length := by simp [bump]
theorem foldl_len (wds : List WD) : ∀ (fss : List (List Int)) (ns : List Int), (fss.foldl (fun ns f => bump ns (broL f wds wds.length).length) ns).length = ns.length
  | [], _ => rfl
  | f :: r, ns => by rw [List.foldl_cons, foldl_len wds r, bump_len]
theorem cnt_len (wds : List WD) (fss : List (List Int)) : (cntL wds fss).length = wds.length + 1 := by
  unfold cntL
  rw [foldl_len]
  simp [cnt0]
theorem bump_mem {ns : List Int} {i : Nat} {b : Int} (h : ∀ z ∈ ns, 0 ≤ z ∧ z ≤ b) (hb : 0 ≤ b) : ∀ z ∈ bump ns i, 0 ≤ z ∧ z ≤ b + 1 := fun z hz => by
  unfold bump at hz
  rcases List.mem_or_eq_of_mem_set hz with q | q
  · have := h z q; omega
  · subst q
    rw [List.getD_eq_getElem?_getD]
    cases e : ns[i]? with
    | none => simp; omega
    | some x => have := h x (List.mem_of_getElem? e); simp; omega
theorem foldl_mem (wds : List WD) : ∀ (fss : List (List Int)) (ns : List Int) (b : Int), 0 ≤ b → (∀ z ∈ ns, 0 ≤ z ∧ z ≤ b) → ∀ z ∈ fss.foldl (fun ns f => bump ns (broL f wds wds.length).length) ns, 0 ≤ z ∧ z ≤ b + fss.length
  | [], _, b, _, h => fun z hz => by have := h z hz; simp; omega
  | f :: r, ns, b, hb, h => fun z hz => by
    have := foldl_mem wds r (bump ns (broL f wds wds.length).length) (b + 1) (by omega) (bump_mem h hb) z hz
    rw [List.length_cons]
    omega
theorem cnt_mem (wds : List WD) (fss : List (List Int)) : ∀ z ∈ cntL wds fss, 0 ≤ z ∧ z ≤ fss.length := fun z hz => by
  have := foldl_mem wds fss (cnt0 wds) 0 (by omega) (fun z hz => by
    have := List.eq_of_mem_replicate hz
    omega) z hz
  omega
theorem bump_eq {ns : List Int} {i : Nat} {x : Int} (h : ns[i]? = some x) : bump ns i = ns.set i (x + 1) := by
  unfold bump
  rw [List.getD_eq_getElem?_getD, h]
  rfl
/-! ### clashes -/
def clB (a b : WD) : Bool := a.1.any fun p => decide (p ∈ b.1)
theorem clB_comm (a b : WD) : clB a b = clB b a := by
  rw [Bool.eq_iff_iff]
  unfold clB
  simp only [List.any_eq_true, decide_eq_true_eq]
  exact ⟨fun ⟨x, h1, h2⟩ => ⟨x, h2, h1⟩, fun ⟨x, h1, h2⟩ => ⟨x, h2, h1⟩⟩
def clAt (wds : List WD) (a : WD) (k : Nat) : Bool := match wds[k]? with
  | some wd => clB a wd
  | none => false
def clsL (wds : List WD) (a : WD) (i : Nat) : List Int := ((List.range i).filter (clAt wds a)).map fun (k : Nat) => (k : Int)
theorem clAt_of {wds : List WD} {a wd : WD} {k : Nat} (h : wds[k]? = some wd) : clAt wds a k = clB a wd := by
  unfold clAt
  rw [h]
theorem clsL_yes {wds : List WD} {a : WD} {i : Nat} (h : clAt wds a i = true) : clsL wds a (i + 1) = clsL wds a i ++ [(i : Int)] := by
  unfold clsL
  rw [List.range_succ, List.filter_append, List.map_append]
  simp [h]
theorem clsL_no {wds : List WD} {a : WD} {i : Nat} (h : clAt wds a i = false) : clsL wds a (i + 1) = clsL wds a i := by
  unfold clsL
  rw [List.range_succ, List.filter_append, List.map_append]
  simp [h]
theorem clsL_len (wds : List WD) (a : WD) (i : Nat) : (clsL wds a i).length ≤ i := by
  unfold clsL
  rw [List.length_map]
  have q := List.length_filter_le (clAt wds a) (List.range i)
  rw [List.length_range] at q
  exact q
theorem clsL_mem {wds : List WD} {a : WD} {i : Nat} {z : Int} (h : z ∈ clsL wds a i) : 0 ≤ z ∧ z < i := by
  unfold clsL at h
  obtain ⟨k, hk, rfl⟩ := List.mem_map.mp h
  have := List.mem_range.mp (List.mem_filter.mp hk).1
  omega
def clsAll (wds : List WD) : List (List Int) := wds.map fun wd => clsL wds wd wds.length
/-! ### fine data -/
theorem short_int (m : Nat) (h : m < 10 ^ 10) : PyData.intsShort 13 (.int (m : Int)) = true := by
  have e := (Nat.length_repr_le_iff (n := m) (by decide : 0 < 10)).mpr h
  show decide ((Str.ofString (Nat.repr m)).length ≤ 13) = true
  rw [decide_eq_true_eq, Str.ofString_eq_toList]
  have z : (Str.mk ((Nat.repr m).toList.map Char.toNat).toArray).length = (Nat.repr m).length := by
    show ((Nat.repr m).toList.map Char.toNat).toArray.size = _
    rw [List.size_toArray, List.length_map, String.length_toList]
  omega
theorem fine_intM {i : Int} (h0 : 0 ≤ i) (h1 : i < 5000) : Fine (.int i) 1 14 := by
  obtain ⟨n, rfl⟩ : ∃ n : Nat, i = n := ⟨i.toNat, by omega⟩
  have hn : n < 5000 := by omega
  have hl : n.log2 ≤ 12 := by
    by_cases e : n = 0
    · subst e; decide
    · have := (Nat.log2_lt e).mpr (show n < 2 ^ 13 by omega)
      omega
  refine ⟨rfl, by simp [PyData.depth], ?_, ?_, rfl, short_int n (by omega)⟩
  · simp only [PyData.weight]
    split
    · omega
    · have e : ((n : Int)).natAbs = n := by omega
      rw [e]
      omega
  · simp only [PyData.showable]
    have e : ((n : Int)).natAbs = n := by omega
    rw [e]
    exact decide_eq_true (by omega)
theorem fine_ints {ns : List Int} (h : ∀ z ∈ ns, 0 ≤ z ∧ z < 5000) : Fine (.list (ns.map .int)) 2 (ns.length * 15) :=
  (Fine.list (fineAll_map ns fun z hz => fine_intM (h z hz).1 (h z hz).2)).mono (by omega) (by omega)
def listsD (ls : List (List Int)) : PyData := .list (ls.map fun l => .list (l.map .int))
theorem fine_lists {ls : List (List Int)} (hl : ls.length ≤ 300) (h : ∀ l ∈ ls, l.length ≤ 20 ∧ ∀ z ∈ l, 0 ≤ z ∧ z < 5000) : Fine (listsD ls) 3 100000 := by
  refine (Fine.list (fineAll_map (n := 2) (w := 300) ls fun l hl => (fine_ints (h l hl).2).mono (Nat.le_refl _) (by have := (h l hl).1; omega))).mono (by omega) (by omega)
end Dt

set_option Elab.async false
set_option linter.all false
set_option maxRecDepth 100000
set_option maxHeartbeats 4000000
/-! elements of generator expressions: x in f[0] -/
namespace Gv
open PySem PySem.Spec PyProof.Rows L2
variable {X : Cx} {pins : List (Addr × Obj)} {σ : L2.St}
theorem reads_ints (h : Heap) : ∀ (ns : List Int) (us : List Value), Vals (ns.map V.int) us → ∃ as, ReadsAll h us (ns.map PyData.int) as
  | [], _, r => by cases r; exact ⟨_, .nil⟩
  | n :: q, _, r => by
    cases r with
    | cons r1 r2 =>
      obtain ⟨as, z⟩ := reads_ints h q _ r2
      obtain ⟨t, rfl⟩ := r1
      exact ⟨_, .cons (.int n t) z⟩
theorem canAll_ints : ∀ ns : List Int, PyData.canLayAll0 (ns.map PyData.int) = true
  | [] => rfl
  | n :: q => by simp only [List.map_cons, PyData.canLayAll0, PyData.canLay0, canAll_ints q, Bool.and_self]
theorem any_ints (n : Int) : ∀ ns : List Int, ((ns.map PyData.int).any fun y => PyData.eqv y (.int n)) = decide (n ∈ ns)
  | [] => by simp
  | m :: q => by
    rw [List.map_cons, List.any_cons, any_ints n q]
    by_cases e : m = n
    · subst e; simp [PyData.eqv]
    · have e2 : ¬ n = m := fun z => e z.symm
      simp [PyData.eqv, e, e2]
theorem elt_in0 {f x : Str} {scope : Scope} {P fa pa : Addr} {H1 : Hp} {xs ys zs : List V} {ns : List Int} {j jj : Nat} {p1 p2 p3 p4 p5 : Pos} (hk : scope.kind = .function) (hx : scope.names.lookup x = some .local) (hf : scope.names.lookup f = some .free)
    (hcl : (cloFrom X.env.cells scope.names []).lookup f = some ((X.env.cells.lookup f).getD 0)) (hj : X.N[j]? = some f) (hkf : X.env.kindOf f = some .cell) (hσ : σ[j]? = some (some (.ref fa))) (hq : SqT X.K H1 fa (.ref pa :: zs)) (hp : SqT X.K H1 pa (ns.map V.int)) (hT : GxR.TabG H1 P) (hu : X.A.units + 64 < cLine)
    (hv : ∀ (i : Nat) x0, xs[i]? = some x0 → ∃ (n : Int), x0 = .int n ∧ ys[i]? = some (.bl (decide (n ∈ ns)))) (hdf : (f == ("__debug__" : Str)) = false := by decide) (hdx : (x == ("__debug__" : Str)) = false := by decide) (hcf : (f == ("__classdict__" : Str)) = false := by decide) :
    EltV X pins σ scope x (.Compare (.Name x p1) [.In] [.Subscript (.Name f p2) (.Constant (.int 0) jj p3) p4] p5) P H1 xs ys := by
  intro s1 t C code bi A' E' i x0 u m I hA hU hx0 ru hn hm hkp
  obtain ⟨n, rfl, hy⟩ := hv i x0 hx0
  obtain ⟨tk, rfl⟩ := (show ∃ t, u = Value.int n t from ru)
  obtain ⟨ps, hP, _⟩ := hT
  have tabS : s1.heap.get? P = some { cls := .none, data := .fields ps } := I.hok P _ hP
  obtain ⟨m1, _, hl⟩ := I.loc
  obtain ⟨uf, rf, lk⟩ := hl j f _ hj hσ (.inr (.inl hkf))
  cases (show uf = Value.ref fa from rf)
  obtain ⟨c, hc, ic⟩ : ∃ c, X.env.cells.lookup f = some c ∧ s1.heap.IsCell c (some (.ref fa)) := by
    rcases lk with ⟨z, _⟩ | ⟨_, c, hc, ic⟩
    · rw [hkf] at z; cases z
    · exact ⟨c, hc, ic⟩
  have ic2 : t.heap.IsCell c (some (.ref fa)) := by
    obtain ⟨o, ho, hd⟩ := ic
    refine ⟨o, hkp c o (fun z => ?_) ho, hd⟩
    rw [z, tabS] at ho
    cases ho
    cases hd
  have tup2 : ∀ {a : Addr} {its : Array Value}, IsTup s1.heap a its → IsTup t.heap a its := fun {a its} pl => by
    obtain ⟨o, ho, hcl', nn, hd⟩ := pl
    refine ⟨o, hkp a o (fun z => ?_) ho, hcl', nn, hd⟩
    rw [z, tabS] at ho
    cases ho
    cases hd
  obtain ⟨its, rv, pl, hz⟩ := I.tuple hq
  have pl2 := tup2 pl
  obtain ⟨its2, rv2, plb, hz2⟩ := I.tuple hp
  have plb2 := tup2 plb
  have clf : (genEnv scope (cloFrom X.env.cells scope.names []) C code bi X.env).cells.lookup f = some c := by
    show (cloFrom X.env.cells scope.names []).lookup f = some c
    rw [hcl, hc]
    rfl
  have hat0 : atI (.ref pa :: zs) 0 = some (.ref pa) := atI_nat (j := 0) rfl
  obtain ⟨j2, h1, h2, h3, h4, h5⟩ := atI_get hat0
  obtain ⟨wv, ew, rw'⟩ := rv.get h2
  cases (show wv = Value.ref pa from rw')
  have hlen := rv.length
  refine wpAny_Compare1 ?_
  refine wpAny_Name (wpAny_loadName_local hk hx hn hm ?_) hdx
  refine Subscript_ (wpAny_Name (wpAny_loadName_free hk hf clf ic2 ?_ hcf) hdf)
  refine wpAny_Constant_int ?_
  refine subscriptTail_builtinR (x := Value.ref pa) (show IsTup { t with toks := t.toks + 1 }.heap fa its.toArray from pl2).typeIs slot_tuple_getitem.lookup
    (getItem_tuple (j := j2) (show IsTup { t with toks := t.toks + 1 }.heap fa its.toArray from pl2) (by decide) (by decide) (by rw [List.size_toArray, ← hlen]; exact h1) (by simpa using ew) ⟨rfl, ?_⟩) (by rfl)
  obtain ⟨as, ra⟩ := reads_ints t.heap ns its2 rv2
  obtain ⟨o, ho, hcl', nn, hd⟩ := plb2
  refine PySem.SeqAt.in_tuple_reads (xs := ns.map PyData.int) (d := .int n) (.tuple (h := t.heap) ho hcl' hd (by simpa using ra)) (.int n tk) (canAll_ints ns) rfl ?_ ⟨⟨_, hy, ?_⟩, GxR.keeps_tok _ _⟩
  · have : min (PyData.depthAll (ns.map PyData.int)) (PyData.int n).depth ≤ 1 := Nat.le_trans (Nat.min_le_right _ _) (by simp [PyData.depth])
    omega
  · rw [any_ints]
    rfl
end Gv

set_option Elab.async false
set_option linter.all false
set_option maxRecDepth 100000
set_option maxHeartbeats 4000000
/-! comprehensions with two fors: the loops; an item of a list, by values -/
namespace Cp
open PySem PySem.Spec PyProof.Rows L2
theorem lc2_list {K : PySem.W.Frag} {a : Addr} {xs : List V} {g : TG} {tt : TT} {B : L2.St → Hp → (Hp → Prop) → Prop} {vs : List Nat} {σ : L2.St} {H1 : Hp} {D : Addr} {Qd : Hp → Prop} (Pv : Nat → Hp → Prop) (h0 : Pv 0 (upd H1 D (.lst []))) (hl : ∀ i H, i ≤ xs.length → Pv i H → SqL K H a xs)
    (hs : ∀ i x H, xs[i]? = some x → Pv i H → g x (wipe σ vs) H fun σ2 H2 => wipe σ2 vs = wipe σ vs ∧ tt σ2 H2 fun b H3 => if b = true then B σ2 H3 (Pv (i + 1)) else Pv (i + 1) H3) (hd : ∀ H, Pv xs.length H → Qd H) :
    ∃ W : Nat → Nat → Hp → Prop, (∃ m, W 0 m (upd H1 D (.lst []))) ∧ ∀ i m H, W i m H →
      ((Itl K a).stop i H ∧ Qd H) ∨ ((Itl K a).go i H ∧ ∃ Nx : Hp → Prop, (∀ H', Nx H' → ∃ m', m' < m ∧ W (i + 1) m' H') ∧ ∀ x H', (Itl K a).yld i H x H' → g x (wipe σ vs) H' fun σ2 H2 => wipe σ2 vs = wipe σ vs ∧ tt σ2 H2 fun b H3 => if b = true then B σ2 H3 Nx else Nx H3) := by
  refine ⟨fun i m H => m = xs.length - i ∧ i ≤ xs.length ∧ Pv i H, ⟨xs.length, by simp, Nat.zero_le _, h0⟩, ?_⟩
  rintro i m H ⟨rfl, hi, p⟩
  have q := hl i H hi p
  by_cases hlt : i < xs.length
  · refine .inr ⟨⟨xs, xs[i], q, by simp [hlt]⟩, Pv (i + 1), fun H' p' => ⟨xs.length - (i + 1), by omega, rfl, hlt, p'⟩, fun x H' y => ?_⟩
    obtain ⟨e, y⟩ := y
    subst e
    exact hs i x _ (y xs q) p
  · have e : i = xs.length := by omega
    subst e
    exact .inl ⟨⟨xs, q, by simp⟩, hd H p⟩
theorem lcin_range {lo : Int} {n : Nat} {g : TG} {tt : TT} {te : TE} {vs : List Nat} {σ : L2.St} {H4 : Hp} {D : Addr} {Qd : Hp → Prop} (Pv : Nat → Hp → Prop) (h0 : Pv 0 H4)
    (hs : ∀ i H, i < n → Pv i H → g (.int (lo + i)) (wipe σ vs) H fun σ2 H2 => wipe σ2 vs = wipe σ vs ∧ tt σ2 H2 fun b H3 =>
      if b = true then te σ2 H3 fun y H4 => ∃ acc, H4 D = some (.lst acc) ∧ acc.length < sizeLine ∧ Pv (i + 1) (upd H4 D (.lst (acc ++ [y]))) else Pv (i + 1) H3) (hd : ∀ H, Pv n H → Qd H) :
    ∃ W : Nat → Nat → Hp → Prop, (∃ m, W 0 m H4) ∧ ∀ i m H, W i m H →
      ((Itr lo n).stop i H ∧ Qd H) ∨ ((Itr lo n).go i H ∧ ∃ Nx : Hp → Prop, (∀ H', Nx H' → ∃ m', m' < m ∧ W (i + 1) m' H') ∧ ∀ x H', (Itr lo n).yld i H x H' → g x (wipe σ vs) H' fun σ2 H2 => wipe σ2 vs = wipe σ vs ∧ tt σ2 H2 fun b H3 =>
        if b = true then te σ2 H3 fun y H4 => ∃ acc, H4 D = some (.lst acc) ∧ acc.length < sizeLine ∧ Nx (upd H4 D (.lst (acc ++ [y]))) else Nx H3) := by
  refine ⟨fun i m H => m = n - i ∧ i ≤ n ∧ Pv i H, ⟨n, by simp, Nat.zero_le _, h0⟩, ?_⟩
  rintro i m H ⟨rfl, hi, p⟩
  by_cases hlt : i < n
  · refine .inr ⟨hlt, Pv (i + 1), fun H' p' => ⟨n - (i + 1), by omega, rfl, hlt, p'⟩, fun x H' y => ?_⟩
    obtain ⟨e, y⟩ := y
    subst e y
    exact hs i _ hlt p
  · have e : i = n := by omega
    subst e
    exact .inl ⟨Nat.le_refl _, hd H p⟩
/-- xs[k], k from 0 on -/
def rIxN (K : PySem.W.Frag) : V → V → Hp → VK → Prop := fun x y H Q => ∃ (p : Addr) (xs : List V) (k : Nat) (v : V), x = .ref p ∧ y = .int k ∧ SqL K H p xs ∧ xs[k]? = some v ∧ Q v H
theorem pget_list {X : Cx} : PGet X (rIxN X.K) := by
  intro pins s σ H o i ov iv Q I ro ri h
  obtain ⟨p, xs, k, z, rfl, rfl, hq, he, q⟩ := h
  cases ro
  obtain ⟨t, rfl⟩ := ri
  obtain ⟨its, r, pl, hz⟩ := I.list hq
  obtain ⟨w, ew, rw'⟩ := r.get he
  have hl := r.length
  have hn := line63
  have hk := (List.getElem?_eq_some_iff.mp he).1
  exact wpAny_getItem_list pl.isList (by omega) (by omega) (by simpa using ew) ⟨z, H, I, rw', q⟩
end Cp

set_option Elab.async false
set_option linter.all false
set_option maxRecDepth 100000
set_option maxHeartbeats 4000000
/-! all(..) and any(..) of a generator expression: any source, any target, any element -/
namespace Gx
open PySem PySem.Spec PyProof.Rows L2 GenW
/-- the element's context: a frame of its own over the def's -/
abbrev gcx (X : Cx) (A : Around) (s : Shared) (H : Hp) (cenv : Env) (fp : List Addr) : Cx :=
  { X with A := A, s_0 := s, H_0 := H, env := cenv, outer := X.stack, stack := cenv :: X.stack, ex := fp, fn := fun _ => false, pn := [], xe := fun _ _ => False }
structure GenK (scope : Scope) : Prop where
  co : scope.isCoroutine = false
  cell : ∀ y ∈ scope.names, y.2 ≠ .cell
  dot : scope.names.lookup (".0" : Str) = some NameKind.local
/-- nothing but the generators' own table has turned -/
structure Kept (s s' : Shared) : Prop where
  os : s'.os = s.os
  bare : AllBare s'.gens
  keep : ∀ b o, s.heap.get? b = some o → s'.heap.get? b = some o
theorem Inv.keptS {X : Cx} {pins : List (Addr × Obj)} {σ : L2.St} {H : Hp} {s s' : Shared} (I : Inv X pins σ H s) (k : Kept s s') : Inv X pins σ H s' :=
  I.call' (ch := []) k.os (Un.kept k.keep) (I.hok.kept k.keep) k.bare fun b z => by simp at z
section
variable {X : Cx} {pins : List (Addr × Obj)} {σ : L2.St} {H : Hp} {s : Shared}
theorem gen_start {scope : Scope} {own : List (Str × Nat)} {fp : List Addr} {code : Value} {A : Around} {s' : Shared} {m : Str → Option Value} (I : Inv X pins σ H s) (ok : BlkOk X.N X.env.scope scope own) (S : GenK scope) (hN : X.N.Nodup) (hfp : ∀ b ∈ fp, FpOk X pins H b ∧ b < s.heap.objs.size)
    (hA : A.handled = none) (hfr : A.frames = some (genEnv scope (cloFrom X.env.cells scope.names []) s.heap.objs.size code builtinsNs X.env :: X.stack))
    (k : Kept s s') (hns : s'.heap.Ns s.heap.objs.size m) :
    Inv (gcx X A s H (genEnv scope (cloFrom X.env.cells scope.names []) s.heap.objs.size code builtinsNs X.env) fp) [] (wipe σ (own.map (·.2))) H s' := by
  have hfree : ∀ y ∈ scope.names, y.2 = .free → ∃ c, X.env.cells.lookup y.1 = some c := fun y hy e => by
    rcases ok.free y hy e with k | k
    · exact I.ok.has _ (.inl k)
    · exact I.ok.has _ (.inr k)
  generalize hcenv : genEnv scope (cloFrom X.env.cells scope.names []) s.heap.objs.size code builtinsNs X.env = cenv at hfr
  have hL : cenv.locals = s.heap.objs.size := by rw [← hcenv]; rfl
  have hcl : cenv.cells = cloFrom X.env.cells scope.names [] := by rw [← hcenv]; rfl
  have hsc : cenv.scope = scope := by rw [← hcenv]; rfl
  have mem : ∀ {y c}, cenv.cells.lookup y = some c → X.env.cells.lookup y = some c ∧ c < s.heap.objs.size := fun {y c} e => by
    rw [hcl] at e
    rcases cloFrom_mem (PySem.mem_of_lookup e) with hm | ⟨h1, rfl⟩
    · cases hm
    · obtain ⟨c, hc⟩ := hfree _ h1 rfl
      rw [hc]
      obtain ⟨w, z⟩ := I.cell _ _ hc
      exact ⟨rfl, z.lt⟩
  have look : ∀ {y}, scope.names.lookup y = some .free → ∃ c, cenv.cells.lookup y = some c ∧ X.env.cells.lookup y = some c := fun {y} hl => by
    have hy : (y, NameKind.free) ∈ scope.names := PySem.mem_of_lookup hl
    obtain ⟨c', e'⟩ := mem_lookup (cloFrom_has (cells := X.env.cells) (acc := []) hy)
    rw [← hcl] at e'
    exact ⟨c', e', (mem e').1⟩
  have okB : (gcx X A s H cenv fp).Ok := by
    refine ⟨I.ok.mod, by show cenv.scope.kind = _; rw [hsc]; exact ok.kind, by show cenv.globals = _; rw [← hcenv]; exact I.ok.glob, by show cenv.builtins = _; rw [← hcenv]; rfl, by show s.heap.objs.size ≤ cenv.locals; rw [hL]; exact Nat.le_refl _,
      fun y z c e1 e2 => I.ok.inj y z c (mem e1).1 (mem e2).1, fun y hy => ?_, (fun y c z e => nomatch z), fun _ => hA, hfr, .inr ⟨rfl, ?_⟩, fun b hb => ⟨?_, fun y c e z => ?_⟩, I.bs, Nat.le_trans I.ok.bsz I.sz, fun b o e hb => ?_, fun b hb z => ?_, I.stack, I.stkFree⟩
    · show ∃ c, cenv.cells.lookup y = some c
      rcases hy with hy | hy
      · have e : scope.names.lookup y = some .cell := by rw [← hsc]; exact hy
        exact absurd rfl (S.cell _ (PySem.mem_of_lookup e))
      · have e : scope.names.lookup y = some .free := by rw [← hsc]; exact hy
        obtain ⟨c, h1, _⟩ := look e
        exact ⟨c, h1⟩
    · show cenv.frame = some cenv.locals
      rw [← hcenv]
      rfl
    · show b ≠ cenv.locals
      rw [hL]; exact Nat.ne_of_lt (hfp b hb).2
    · exact (hfp b hb).1.2.2.2.2.1 y c (mem e).1 z
    · rcases (hfp b hb).1.2.2.2.1 with z | z
      · exact I.ok.noex b o e z
      · exact absurd (Nat.lt_of_lt_of_le (Heap.lt_size e) (Nat.le_trans I.ok.bsz z)) (Nat.lt_irrefl _)
    · rcases List.mem_cons.mp (I.stkSub b z) with z | z
      · exact (hfp b hb).1.2.1 z
      · exact (hfp b hb).1.2.2.1 z
  refine ⟨okB, k.os, k.bare, Un.kept k.keep, ⟨m, ?_, fun i y av e1 e2 e3 => ?_⟩, fun y c e => ?_, ?_, fun y c e => I.freeC y c (mem e).1, fun p hp => ?_, I.hok.kept k.keep, by rw [wipe_length]; exact I.len⟩
  · show Heap.Ns _ cenv.locals _
    rw [hL]
    exact hns
  · obtain ⟨e2, hne⟩ := wipe_some e2
    have hfr : scope.names.lookup y = some .free := by
      have key : ∀ k, scope.names.lookup y = some k → k = .local ∨ k = .cell ∨ k = .free → scope.names.lookup y = some .free := fun k e hk' => by
        have no : ¬ (k = .local ∨ k = .cell) := fun hh => by
          rcases ok.own _ (PySem.mem_of_lookup e) hh with e' | e'
          · obtain ⟨p, hp, hpy⟩ := List.mem_map.mp e'
            have e3 := ok.ix p hp
            have : p.1 = y := hpy
            rw [this] at e3
            exact hne (List.mem_map.mpr ⟨p, hp, nodup_ix hN e3 e1⟩)
          · exact e' (List.mem_of_getElem? e1)
        rcases hk' with rfl | rfl | rfl
        · exact absurd (.inl rfl) no
        · exact absurd (.inr rfl) no
        · exact e
      have e3 : Vis cenv.scope y := e3
      rw [hsc] at e3
      rcases e3 with e3 | e3 | e3
      · exact key _ e3 (.inl rfl)
      · exact key _ e3 (.inr (.inl rfl))
      · exact key _ e3 (.inr (.inr rfl))
    obtain ⟨m2, hn, hl⟩ := I.loc
    have hvis : Vis X.env.scope y := (ok.free _ (PySem.mem_of_lookup hfr) rfl).elim (fun k => .inr (.inl k)) (fun k => .inr (.inr k))
    obtain ⟨w, r, q⟩ := hl i y av e1 e2 hvis
    refine ⟨w, r, .inr ⟨.inr (by show cenv.scope.names.lookup y = _; rw [hsc]; exact hfr), ?_⟩⟩
    obtain ⟨c, h1, h2⟩ := look hfr
    rcases q with ⟨k, _⟩ | ⟨_, c', e', z⟩
    · have k : X.env.scope.names.lookup y = some .local := k
      rcases ok.free _ (PySem.mem_of_lookup hfr) rfl with k' | k' <;> rw [show X.env.scope.names.lookup y = _ from k'] at k <;> cases k
    · rw [h2] at e'; cases e'
      exact ⟨c, h1, z.keeps k.keep⟩
  · obtain ⟨w, z⟩ := I.cell y c (mem e).1
    exact ⟨w, z.keeps k.keep⟩
  · show H cenv.locals = none
    rw [hL]; exact I.hok.fresh (Nat.le_refl _)
  · exact absurd (show p ∈ ([] : List (Addr × Obj)) ++ [] from hp) (by simp)
end
end Gx

set_option Elab.async false
set_option linter.all false
set_option maxRecDepth 100000
set_option maxHeartbeats 4000000
namespace Gx
open PySem PySem.Spec PyProof.Rows L2 GenW
/-- the end of the walk -/
def RG (X : Cx) (pz : List (Addr × Obj)) (σ0 : L2.St) (QT : Hp → Prop) : GenEnd := fun _ _ r s₁ => ((r = .ok (.ret .none) ∨ r = .ok .next) ∧ ∃ H', Inv X pz σ0 H' s₁ ∧ QT H') ∨ ∃ e, r = .error e ∧ False
/-- a truth is handed out: by d it goes on -/
def YG (X : Cx) (pz : List (Addr × Obj)) (d : Bool) (QF : Hp → Prop) : Protocol := fun _ _ v s kap => ∃ (c : Bool) (σ' : L2.St) (H' : Hp), v = .bool c ∧ Inv X pz σ' H' s ∧ (if c = d then ∀ s', Kept s s' → kap (.send .none) s' else QF H')
/-- the source's turns, the target, the tests, the element -/
def Turns (J : It) (g : TG) (tt : TT) (te : TE) (vs : List Nat) (σ : L2.St) (d : Bool) (QT QF : Hp → Prop) (W : Nat → Nat → Hp → Prop) : Prop := ∀ i m H, W i m H →
  (J.stop i H ∧ QT H) ∨ (J.go i H ∧ ∃ Nx : Hp → Prop, (∀ H', Nx H' → ∃ m', m' < m ∧ W (i + 1) m' H') ∧ ∀ x H', J.yld i H x H' → g x (wipe σ vs) H' fun σ2 H2 => wipe σ2 vs = wipe σ vs ∧ tt σ2 H2 fun b H3 =>
    if b = true then te σ2 H3 fun y H4 => ∃ c, y = .bl c ∧ (if c = d then Nx H4 else QF H4) else Nx H3)
section
variable {X : Cx} {A B : Around} {s3 : Shared} {H3 : Hp} {cenv : Env} {fp : List Addr} {σ : L2.St}
theorem seg_loop {elt tg iter : Expr} {ifs : List Expr} {scope : Scope} {pos : Pos} {it : Addr} {J : It} {tn : Nat → Heap → Prop} {g : TG} {tt : TT} {te : TE} {vs : List Nat} {d : Bool} {QT QF : Hp → Prop} {W : Nat → Nat → Hp → Prop} {pz : List (Addr × Obj)}
    (T : Turn X.prog X.w X.K tg J fp it tn) (hc : X.calm = true) (hov : B.over (.compLoop (.GeneratorExp elt [⟨tg, iter, ifs, 0⟩] scope pos) 0 (.ref it) .none cenv) [] = A) (hco : cenv.scope.isCoroutine = false) (hpz : ∀ p ∈ pz, p.1 ∉ fp)
    (pg : PG (gcx X A s3 H3 cenv fp) tg g) (pt : PTs (gcx X A s3 H3 cenv fp) ifs tt) (pe : PE (gcx X A s3 H3 cenv fp) elt te) (turn : Turns J g tt te vs σ d QT QF W) :
    ∀ (m n i : Nat) (s₀ s : Shared) (H : Hp), m < n → Inv (gcx X A s3 H3 cenv fp) pz (wipe σ vs) H s → tn i s.heap → (∀ b ∈ fp, H b = none) → W i m H →
      Seg (model X.prog X.w) B (RG (gcx X A s3 H3 cenv fp) pz (wipe σ vs) QT) (YG (gcx X A s3 H3 cenv fp) pz d QF) n s₀
        (.compLoop (.GeneratorExp elt [⟨tg, iter, ifs, 0⟩] scope pos) 0 (.ref it) .none cenv)
        ((model X.prog X.w).den (.compLoop (.GeneratorExp elt [⟨tg, iter, ifs, 0⟩] scope pos) 0 (.ref it) .none cenv)) [] s := by
  have stat : ∀ {σ' : L2.St} {H' : Hp} {s' : Shared}, Inv (gcx X A s3 H3 cenv fp) pz σ' H' s' → (∀ b ∈ fp, H' b = none) → ∀ b ∈ fp, FpOk (gcx X A s3 H3 cenv fp) pz H' b := fun {σ' H' s'} I' hn b hb =>
    ⟨hn b hb, (I'.ok.exf b hb).1, I'.ok.exfs b hb, .inl hb, fun x c e => (I'.ok.exf b hb).2 x c e, fun p hp z => hpz p (by simpa using hp) (by rw [z]; exact hb)⟩
  intro m
  induction m using Nat.strongRecOn with
  | ind m ih =>
    intro n i s₀ s H hmn I st nf w
    show Seg _ B _ _ _ s₀ _ ((compTurn (.GeneratorExp elt [⟨tg, iter, ifs, 0⟩] scope pos) 0 (.ref it) .none cenv).onRaise (leaving cenv)) [] s
    rw [compTurn_gen, Sem.onRaise_eq_wrap]
    refine seg_bind_wrap (wpAny_standAt ?_)
    rcases turn i m H w with ⟨stop, qq⟩ | ⟨go, Nx, hNx, step⟩
    · refine seg_bind_wrap ?_
      rw [hov]
      refine wpAny_mono (T.done (gcx X A s3 H3 cenv fp) rfl rfl rfl hc i pz s _ H (fun _ _ => False) I (stat I nf) st stop) (fun r s6 hx => ?_) fun _ _ e => e.elim
      obtain ⟨rfl, I6⟩ := hx
      exact seg_end (.ok .next) (.inl ⟨.inr rfl, H, I6, qq⟩)
    · refine seg_bind_wrap ?_
      rw [hov]
      refine wpAny_mono (T.item (gcx X A s3 H3 cenv fp) rfl rfl rfl hc i pz s _ H (fun _ _ => False) I (stat I nf) st go) (fun r s6 hx => ?_) fun _ _ e => e.elim
      obtain ⟨u, rfl, h6⟩ := hx
      refine seg_bind_wrap ?_
      rw [hov]
      refine wpAny_mono h6 (fun _ s7 hx => ?_) fun _ _ e => e.elim
      obtain ⟨x, H7, I7, r7, y7, st7, n7⟩ := hx
      have I7' := I7.pinned (stat I7 n7) (T.obj _ _ st7)
      refine seg_bind_wrap ?_
      rw [hov]
      refine wpAny_mono (pg.run _ s7 _ H7 x u _ I7' r7 (step x H7 y7)) (fun _ s8 hx => ?_) fun _ _ e => e.elim
      obtain ⟨σ8, H8, I8, hw8, q8⟩ := hx
      refine seg_bind_wrap ?_
      rw [hov]
      refine wpAny_mono (pt.run _ s8 σ8 H8 _ I8 q8) (fun b s9 hx => ?_) fun _ _ e => e.elim
      obtain ⟨H9, I9, q9⟩ := hx
      -- the turn's end
      have fin : ∀ {s' : Shared} {H' : Hp} {m' : Nat}, Inv (gcx X A s3 H3 cenv fp) (pz ++ pinsAt fp s7.heap) σ8 H' s' → Inv (gcx X A s3 H3 cenv fp) pz (wipe σ vs) H' s' ∧ tn (i + 1) s'.heap ∧ ∀ b ∈ fp, H' b = none := fun {s' H' m'} I' => by
        have pin' : ∀ b ∈ fp, ∀ o, s7.heap.get? b = some o → s'.heap.get? b = some o ∧ H' b = none := fun b hb o e =>
          let z := I'.pin (b, o) (List.mem_append_right _ (List.mem_append_right _ (mem_pinsAt hb e)))
          ⟨z.1, z.2.1⟩
        have hl : (wipe σ vs).length = σ8.length := by rw [← hw8, wipe_length]
        refine ⟨(I'.unpinned (pins := pz)).weak hl (fun j v e => ?_), T.keep _ _ _ st7 fun b hb o e => (pin' b hb o e).1, fun b hb => ?_⟩
        · rw [← hw8] at e
          exact (wipe_some e).1
        · obtain ⟨o, e, _⟩ := T.obj _ _ st7 b hb
          exact (pin' b hb o e).2
      cases b with
      | false =>
        simp only [Bool.false_eq_true, if_false] at q9 ⊢
        obtain ⟨m', hm, w'⟩ := hNx H9 q9
        obtain ⟨f1, f2, f3⟩ := fin (m' := m') I9
        exact seg_again rfl (ih m' hm n (i + 1) s₀ _ H9 (by omega) f1 f2 f3 w')
      | true =>
        simp only [if_true] at q9 ⊢
        have hy : ∀ v, yieldOut cenv v = yieldValue v := fun v => by simp only [yieldOut, hco, Bool.false_eq_true, if_false]
        simp only [hy]
        rw [Sem.bind_eq_wrap', Sem.bind_eq_wrap', Sem.wrap_wrap, Sem.wrap_wrap]
        refine seg_wrap ?_
        rw [hov]
        refine wpAny_mono (pe.run _ s9 σ8 H9 _ I9 q9) (fun z s10 hx => ?_) fun _ _ e => e.elim
        obtain ⟨yv, H10, I10, r10, c, rfl, nx⟩ := hx
        cases (show z = Value.bool c from r10)
        obtain ⟨n, rfl⟩ : ∃ n', n = n' + 1 := ⟨n - 1, by omega⟩
        refine seg_at (seg_yield rfl rfl rfl ⟨c, σ8, H10, rfl, I10.unpinned, ?_⟩)
        by_cases hcd : c = d
        · rw [if_pos hcd] at nx ⊢
          intro s'' hk
          obtain ⟨m', hm, w'⟩ := hNx H10 nx
          obtain ⟨f1, f2, f3⟩ := fin (m' := m') (Inv.keptS I10 hk)
          exact seg_again rfl (ih m' hm n (i + 1) s'' s'' H10 (by omega) f1 f2 f3 w')
        · rw [if_neg hcd] at nx ⊢
          exact nx
theorem seg_start {elt tg iter : Expr} {ifs : List Expr} {scope : Scope} {pos : Pos} {it : Addr} {J : It} {tn : Nat → Heap → Prop} {R : GenEnd} {Y : Protocol} {n : Nat} {s₀ s : Shared}
    (T : Turn X.prog X.w X.K tg J fp it tn) (st : tn 0 s.heap)
    (loop : Seg (model X.prog X.w) B R Y n s₀ (.compLoop (.GeneratorExp elt [⟨tg, iter, ifs, 0⟩] scope pos) 0 (.ref it) .none cenv) ((model X.prog X.w).den (.compLoop (.GeneratorExp elt [⟨tg, iter, ifs, 0⟩] scope pos) 0 (.ref it) .none cenv)) [] s) :
    Seg (model X.prog X.w) B R Y n s₀ (.compStart (.GeneratorExp elt [⟨tg, iter, ifs, 0⟩] scope pos) 0 (.ref it) .none cenv) ((model X.prog X.w).den (.compStart (.GeneratorExp elt [⟨tg, iter, ifs, 0⟩] scope pos) 0 (.ref it) .none cenv)) [] s := by
  show Seg _ B _ _ _ s₀ _ ((compStart (.GeneratorExp elt [⟨tg, iter, ifs, 0⟩] scope pos) 0 (.ref it) .none cenv).onRaise (leaving cenv)) [] s
  unfold compStart
  rw [Sem.onRaise_eq_wrap]
  show Seg _ B _ _ _ s₀ _ ((ask >>= _).wrap _ _ _ _) [] s
  refine seg_bind_wrap (wpAny_askSetting ?_)
  split
  · exact seg_again rfl loop
  · first
      | exact seg_bind_wrap (wpAny_rule (seg_bind_wrap (wpAny_standAt (seg_bind_wrap (T.self _ 0 s _ _ st (seg_again rfl loop))))))
      | (refine seg_bind_wrap (wpAny_rule ?_); show Seg _ B _ _ _ s₀ _ ((standAt iter.pos >>= _).wrap _ _ _ _) [] s; exact seg_bind_wrap (wpAny_standAt (seg_bind_wrap (T.self _ 0 s _ _ st (seg_again rfl loop)))))
end
/-- the consumer: all's loop by d = true, any's by d = false -/
def loopId (d : Bool) : String := if d then "all.loop" else "any.loop"
theorem walk_loop {X : Cx} {pz : List (Addr × Obj)} {σ0 : L2.St} {QT QF : Hp → Prop} {A : Around} {a : Addr} {g : Nat} {go : Obj} (d : Bool) {R : Result → Shared → Prop} (hpz : (a, go) ∈ pz) (hgo : ∀ h : Heap, h.get? a = some go → h.IsGen a g)
    (hh : A.handled = none) (hd : A.depth < recursionLimit)
    (hT : ∀ H' s1 s', Inv X pz σ0 H' s1 → QT H' → Kept s1 s' → R (.ok (.ret (.bool d))) s') (hF : ∀ σ' H' s1 s', Inv X pz σ' H' s1 → QF H' → Kept s1 s' → R (.ok (.ret (.bool (!d)))) s') :
    ∀ (n : Nat) (s : Shared), s.heap.IsGen a g → s.heap.NoLimit →
      (∃ gs, s.gens[g]? = some gs ∧ gs.Goes (model X.prog X.w) A.in1.in1 (RG X pz σ0 QT) (YG X pz d QF) n (.send .none) (s.setGen g .running)) →
      codeAny (model X.prog X.w) A (.builtin (loopId d) ⟨[.ref a], []⟩) R s := by
  intro n
  induction n with
  | zero =>
    intro s hg hl ⟨gs, hgs, hgo'⟩
    cases d
    · show codeAny (model X.prog X.w) A (.builtin "any.loop" ⟨[.ref a], []⟩) R s
      refine codeAny_builtin F.entry_any_loop ?_
      rw [Around.under_plainId F.plain_any_loop _]
      show wpAny _ A.in1 (pyNext (.ref a) >>= _) _ _ s
      refine wpAny_bind (next_genG (A := A.in1) (Er := fun _ _ => False) hh hl hd hg hgs hgo' (fun v s₁ gs' hbare hv => ?_) (fun s₁ hp h' hk => ?_) fun e s₁ he => he.elim)
      · obtain ⟨c, σ', H', rfl, I, hq⟩ := hv
        by_cases hcd : c = false
        · rw [if_pos hcd] at hq
          exact (hq s₁ ⟨rfl, I.bare, fun _ _ e => e⟩).elim
        · rw [if_neg hcd] at hq
          have hc : c = true := by cases c <;> simp at hcd ⊢
          subst hc
          refine wpAny_bind (wpAny_holding (wpAny_truthy_bool ?_))
          refine wpAny_bind (wpAny_letGo ?_)
          simp only [if_true]
          refine wpAny_bind (wpAny_rule (wpAny_pure ?_))
          exact hF σ' H' s₁ _ I hq ⟨rfl, allBare_setGen I.bare hbare, fun _ _ e => e⟩
      · obtain ⟨H', I, q⟩ := hp
        refine wpAny_bind (wpAny_rule (wpAny_pure ?_))
        exact hT H' s₁ _ I q ⟨rfl, allBare_setGen I.bare rfl, hk⟩
    · show codeAny (model X.prog X.w) A (.builtin "all.loop" ⟨[.ref a], []⟩) R s
      refine codeAny_builtin F.entry_all_loop ?_
      rw [Around.under_plainId F.plain_all_loop _]
      show wpAny _ A.in1 (pyNext (.ref a) >>= _) _ _ s
      refine wpAny_bind (next_genG (A := A.in1) (Er := fun _ _ => False) hh hl hd hg hgs hgo' (fun v s₁ gs' hbare hv => ?_) (fun s₁ hp h' hk => ?_) fun e s₁ he => he.elim)
      · obtain ⟨c, σ', H', rfl, I, hq⟩ := hv
        by_cases hcd : c = true
        · rw [if_pos hcd] at hq
          exact (hq s₁ ⟨rfl, I.bare, fun _ _ e => e⟩).elim
        · rw [if_neg hcd] at hq
          have hc : c = false := by cases c <;> simp at hcd ⊢
          subst hc
          refine wpAny_bind (wpAny_holding (wpAny_truthy_bool ?_))
          refine wpAny_bind (wpAny_letGo ?_)
          simp only [Bool.false_eq_true, if_false]
          refine wpAny_bind (wpAny_rule (wpAny_pure ?_))
          exact hF σ' H' s₁ _ I hq ⟨rfl, allBare_setGen I.bare hbare, fun _ _ e => e⟩
      · obtain ⟨H', I, q⟩ := hp
        refine wpAny_bind (wpAny_rule (wpAny_pure ?_))
        exact hT H' s₁ _ I q ⟨rfl, allBare_setGen I.bare rfl, hk⟩
  | succ n ih =>
    intro s hg hl ⟨gs, hgs, hgo'⟩
    have hgl : g < s.gens.size := (Array.getElem?_eq_some_iff.mp hgs).1
    have again : ∀ (σ' : L2.St) (H' : Hp) (s₁ : Shared) (gs' : GenState), gs'.bare = true → Inv X pz σ' H' s₁ → g + 1 ≤ (s₁.setGen g gs').gens.size → (∀ s', Kept s₁ s' → gs'.Goes (model X.prog X.w) A.in1.in1 (RG X pz σ0 QT) (YG X pz d QF) n (.send .none) s') →
        codeAny (model X.prog X.w) A (.builtin (loopId d) ⟨[.ref a], []⟩) R (s₁.setGen g gs') := fun σ' H' s₁ gs' hbare I hsz hq => by
      have hsz1 : g < s₁.gens.size := by
        have q : (s₁.setGen g gs').gens.size = s₁.gens.size := setGen_size _ _ _
        omega
      refine ih (s₁.setGen g gs') (hgo _ (I.pin (a, go) (List.mem_append_right _ hpz)).1) I.nolimit ⟨gs', setGen_at hsz1, hq _ ⟨rfl, allBare_setGen (s := s₁.setGen g gs') (allBare_setGen I.bare hbare) rfl, fun _ _ e => e⟩⟩
    cases d
    · show codeAny (model X.prog X.w) A (.builtin "any.loop" ⟨[.ref a], []⟩) R s
      refine codeAny_builtin F.entry_any_loop ?_
      rw [Around.under_plainId F.plain_any_loop _]
      show wpAny _ A.in1 (pyNext (.ref a) >>= _) _ _ s
      refine wpAny_bind (wpAny_gsz (n := g + 1) hgl (next_genG (A := A.in1) (Er := fun _ _ => False) hh hl hd hg hgs hgo' (fun v s₁ gs' hbare hv => ?_) (fun s₁ hp h' hk => ?_) fun e s₁ he => he.elim))
      · intro hsz
        obtain ⟨c, σ', H', rfl, I, hq⟩ := hv
        refine wpAny_bind (wpAny_holding (wpAny_truthy_bool ?_))
        refine wpAny_bind (wpAny_letGo ?_)
        cases c with
        | false =>
          rw [if_pos rfl] at hq
          simp only [Bool.false_eq_true, if_false]
          exact wpAny_pure ⟨plainId_quiet F.plain_any_loop _, again σ' H' s₁ gs' hbare I hsz hq⟩
        | true =>
          rw [if_neg (by decide)] at hq
          simp only [if_true]
          refine wpAny_bind (wpAny_rule (wpAny_pure ?_))
          exact hF σ' H' s₁ _ I hq ⟨rfl, allBare_setGen I.bare hbare, fun _ _ e => e⟩
      · intro hsz
        obtain ⟨H', I, q⟩ := hp
        refine wpAny_bind (wpAny_rule (wpAny_pure ?_))
        exact hT H' s₁ _ I q ⟨rfl, allBare_setGen I.bare rfl, hk⟩
    · show codeAny (model X.prog X.w) A (.builtin "all.loop" ⟨[.ref a], []⟩) R s
      refine codeAny_builtin F.entry_all_loop ?_
      rw [Around.under_plainId F.plain_all_loop _]
      show wpAny _ A.in1 (pyNext (.ref a) >>= _) _ _ s
      refine wpAny_bind (wpAny_gsz (n := g + 1) hgl (next_genG (A := A.in1) (Er := fun _ _ => False) hh hl hd hg hgs hgo' (fun v s₁ gs' hbare hv => ?_) (fun s₁ hp h' hk => ?_) fun e s₁ he => he.elim))
      · intro hsz
        obtain ⟨c, σ', H', rfl, I, hq⟩ := hv
        refine wpAny_bind (wpAny_holding (wpAny_truthy_bool ?_))
        refine wpAny_bind (wpAny_letGo ?_)
        cases c with
        | true =>
          rw [if_pos rfl] at hq
          simp only [if_true]
          exact wpAny_pure ⟨plainId_quiet F.plain_all_loop _, again σ' H' s₁ gs' hbare I hsz hq⟩
        | false =>
          rw [if_neg (by decide)] at hq
          simp only [Bool.false_eq_true, if_false]
          refine wpAny_bind (wpAny_rule (wpAny_pure ?_))
          exact hF σ' H' s₁ _ I hq ⟨rfl, allBare_setGen I.bare hbare, fun _ _ e => e⟩
      · intro hsz
        obtain ⟨H', I, q⟩ := hp
        refine wpAny_bind (wpAny_rule (wpAny_pure ?_))
        exact hT H' s₁ _ I q ⟨rfl, allBare_setGen I.bare rfl, hk⟩
end Gx

set_option Elab.async false
set_option linter.all false
set_option maxRecDepth 100000
set_option maxHeartbeats 4000000
namespace Gx
open PySem PySem.Spec PyProof.Rows L2 GenW
theorem over_gen {B : Around} {elt : Expr} {gens : List Comprehension} {scope : Scope} {pos : Pos} {it acc : Value} {env : Env} {st : List Env} (h : B.frames = some st) :
    (B.over (.compLoop (.GeneratorExp elt gens scope pos) 0 it acc env) []).frames = some (env :: st) := by
  have e1 : (B.over (.compLoop (.GeneratorExp elt gens scope pos) 0 it acc env) []).frames = pushEnvs (Code.envs (.compLoop (.GeneratorExp elt gens scope pos) 0 it acc env)) (pushEnvs (envsOf (([] : List Frame).map Frame.where_)) B.frames) := rfl
  rw [e1, h]
  rfl
/-- the reading: by d the walk goes on -/
def tQX (d : Bool) (wi : TI) (g : TG) (tt : TT) (te : TE) (vs : List Nat) (P : Addr) : TE := fun σ H Q => wi σ H fun J H1 => GxR.TabG H1 P ∧ ∀ H2, GxR.Tabbed P H1 H2 → ∃ W : Nat → Nat → Hp → Prop, (∃ m, W 0 m H2) ∧
  Turns J g tt te vs σ d (fun H => Q (.bl d) H) (fun H => Q (.bl (!d)) H) W
section
variable {X : Cx} {pins : List (Addr × Obj)} {σ : L2.St} {H : Hp} {s : Shared}
theorem gen_core {c P : Addr} {elt tg iter : Expr} {ifs : List Expr} {gpos : Pos} {scope : Scope} {own : List (Str × Nat)} {wi : TI} {g : TG} {tt : TT} {te : TE} {k : Nat} {d : Bool} {Q : VK}
    (hr : Room (k + 1) X.A) (hc : X.calm = true) (hN : X.N.Nodup) (TB : GxR.TabB X.base X.mg c P) (hcode : X.env.code = .ref c) (ok : BlkOk X.N X.env.scope scope own) (S : GenK scope) (hi : PI X tg iter wi) (hs : ∀ v, genFold iter X.env v = pure v)
    (hg : ∀ (A : Around) (s : Shared) (H : Hp) (C : Addr) (code : Value) (fp : List Addr), Room k A → PG (gcx X A s H (genEnv scope (cloFrom X.env.cells scope.names []) C code builtinsNs X.env) fp) tg g)
    (ht : ∀ (A : Around) (s : Shared) (H : Hp) (C : Addr) (code : Value) (fp : List Addr), Room k A → PTs (gcx X A s H (genEnv scope (cloFrom X.env.cells scope.names []) C code builtinsNs X.env) fp) ifs tt)
    (he : ∀ (A : Around) (s : Shared) (H : Hp) (C : Addr) (code : Value) (fp : List Addr), Room k A → PE (gcx X A s H (genEnv scope (cloFrom X.env.cells scope.names []) C code builtinsNs X.env) fp) elt te)
    (I : Inv X pins σ H s) (h : tQX d wi g tt te (own.map (·.2)) P σ H Q) :
    wpAny (model X.prog X.w) X.A (eval (.GeneratorExp elt [⟨tg, iter, ifs, 0⟩] scope gpos) X.env) (fun v s5 => ∃ (a : Addr) (gn : Nat), v = .ref a ∧ s5.heap.IsGen a gn ∧
      codeAny (model X.prog X.w) X.A (.builtin (loopId d) ⟨[.ref a], []⟩) (fun r s' => ∃ b, r = .ok (.ret (.bool b)) ∧ EP X pins σ Q (.bool b) s') s5) X.xe s := by
  have hfree : ∀ y ∈ scope.names, y.2 = .free → ∃ c, X.env.cells.lookup y.1 = some c := fun y hy e => by
    rcases ok.free y hy e with k | k
    · exact I.ok.has _ (.inl k)
    · exact I.ok.has _ (.inr k)
  refine wpAny_GeneratorExp_make S.co (closure_ok hfree) S.cell S.dot ok.kind hr.depth (wpAny_mono (hi.run pins s σ H _ I h) (fun xv s1 h1 => wpAny_mono h1 (fun itv s2 h2 => ?_) fun _ _ e => e) fun _ _ e => e) hs
  obtain ⟨it, fp, tn, J, H1, rfl, I2, T, st2, f2, ⟨ps, hP, htr⟩, hW⟩ := h2
  refine ⟨I2.nolimit, ?_⟩
  have tabS : s2.heap.get? P = some { cls := .none, data := .fields ps } := I2.hok P _ hP
  have hd : PySem.W.CodeHd s2.heap c P := TB.code.keeps fun b u e => I2.bk b u e
  have key : ∀ (REST : Value → Shared → Prop), (∀ (cv : Value) (h3 : Heap) (tk : Nat) (more : Array Value), Heap.ExtBut P s2.heap h3 → s2.heap.objs.size ≤ h3.objs.size → h3.get? P = some { cls := .none, data := .fields (ps ++ more) } → TriplesOk (ps ++ more).toList → REST cv { s2 with heap := h3, toks := tk }) →
      wpAny (model X.prog X.w) X.A (genexprCode X.env gpos (X.env.qual ++ "<genexpr>") scope) REST X.xe s2 := fun REST fin => by
    cases hf : codeAmong gpos ps.toList with
    | some cv =>
      have e : ps = ps ++ #[] := by simp
      exact wpAny_genexprCode_hit hcode (hd.code tabS htr) hf (fin cv _ s2.toks #[] (Heap.ExtBut.refl _ _) (Nat.le_refl _) (e ▸ tabS) (e ▸ htr))
    | none =>
      refine wpAny_genexprCodeX hcode (hd.code tabS htr) (hd.tab tabS) hf fun c' h3 tk ex ge lt ic _ ta _ => ?_
      obtain ⟨_, _, _, _, _, _, _, _, _, _, _, _, _, _, _, _, _, _, _, tr, _⟩ := ic
      exact fin _ h3 tk _ ex (Nat.le_trans ge (Nat.le_of_lt lt)) ta.2 tr
  refine key _ fun cv h3 tk more ex ge tab3 tr3 => ?_
  obtain ⟨bm, ob, b1, b2, b3, b4, b5, b6, b7, b8⟩ := TB.bm
  refine wpAny_builtinsFor (m := X.mg) (by rw [I2.ok.glob]; exact (I2.mod.glob.keeps I2.bk).extBut ex TB.gP) b1 b2 (ex _ _ b4 (I2.bk _ _ b5)) b6 b7 b8 ?_
  intro h' hn' hs'
  generalize hs3 : ({ s2 with heap := h3, toks := tk } : Shared) = s3 at hn' hs' ⊢
  have e3 : s3.heap = h3 := by rw [← hs3]
  have I3 : Inv X pins σ (upd H1 P (.tbl (ps ++ more))) s3 := by
    rw [← hs3]
    exact GxR.inv_tab (more := more) (h' := h3) (g' := s2.gens) (d' := s2.drawn) (t' := tk) I2 hP (fun b o n e => ex b o n e) tab3 I2.bare
  obtain ⟨W, ⟨m0, w0⟩, turn⟩ := hW _ ⟨⟨ps ++ more, upd_same, tr3⟩, fun b hb => upd_ne hb⟩
  have neP : ∀ b ∈ fp, b ≠ P := fun b hb z => by
    have := (f2 b hb).1
    rw [z, hP] at this
    cases this
  have f3 : ∀ b ∈ fp, FpOk X pins (upd H1 P (.tbl (ps ++ more))) b ∧ b < s3.heap.objs.size := fun b hb => by
    obtain ⟨o, e, _⟩ := T.obj _ _ st2 b hb
    refine ⟨⟨?_, (f2 b hb).2⟩, by rw [e3]; exact Nat.lt_of_lt_of_le (Heap.lt_size e) ge⟩
    rw [upd_ne (neP b hb)]
    exact (f2 b hb).1
  have st3 : tn 0 s3.heap := T.keep _ _ _ st2 fun b hb o e => by rw [e3]; exact ex b o (neP b hb) e
  generalize hH3 : upd H1 P (.tbl (ps ++ more)) = H3 at I3 w0 f3
  have nf : ∀ b ∈ fp, H3 b = none := fun b hb => (f3 b hb).1.1
  -- the generator's object
  generalize hgo : ({ cls := .type "generator", data := .fields #[.int s3.gens.size 0, .str "<genexpr>" (s3.toks + 1), .str (X.env.qual ++ "<genexpr>") (s3.toks + 1 + 1)] } : Obj) = go
  have sz' : h'.objs.size = s3.heap.objs.size + 1 := by rw [hs'.1, Heap.size_push]
  generalize hs5 : ({ s3 with gens := s3.gens.push (.fresh (.compStart (.GeneratorExp elt [⟨tg, iter, ifs, 0⟩] scope gpos) 0 (.ref it) .none (genEnv scope (cloFrom X.env.cells scope.names []) s3.heap.objs.size cv builtinsNs X.env))), toks := s3.toks + 1 + 1 + 1, heap := h'.push go } : Shared) = s5
  have h5 : s5.heap = h'.push go := by rw [← hs5]
  have kp : Kept s3 s5 := by
    refine ⟨by rw [← hs5], by rw [← hs5]; exact AllBare.push I3.bare rfl, fun b o e => ?_⟩
    rw [h5]
    exact Heap.get?_push_of_some _ (hs'.extBut b o (Nat.ne_of_lt (Heap.lt_size e)) (Heap.get?_push_of_some _ e))
  have hga : s5.heap.get? h'.objs.size = some go := by rw [h5, ← hgo]; exact Heap.get?_push_size _ rfl
  have isg : ∀ h : Heap, h.get? h'.objs.size = some go → h.IsGen h'.objs.size s3.gens.size := fun h e => ⟨go, _, _, e, by rw [← hgo], by rw [← hgo], by rw [← hgo]⟩
  have hgs : s5.gens[s3.gens.size]? = some (.fresh (.compStart (.GeneratorExp elt [⟨tg, iter, ifs, 0⟩] scope gpos) 0 (.ref it) .none (genEnv scope (cloFrom X.env.cells scope.names []) s3.heap.objs.size cv builtinsNs X.env))) := by
    rw [← hs5]
    exact Array.getElem?_push_size ..
  have hns : s5.heap.Ns s3.heap.objs.size (fun y => if y = ".0" then some (.ref it) else none) := by rw [h5]; exact hn'.push _
  have hfrX : X.A.frames = some X.stack := I3.ok.frames
  have rm : Room k (X.A.in1.in1.over (.compLoop (.GeneratorExp elt [⟨tg, iter, ifs, 0⟩] scope gpos) 0 (.ref it) .none (genEnv scope (cloFrom X.env.cells scope.names []) s3.heap.objs.size cv builtinsNs X.env)) []) := by
    have h1 := hr.dp
    have h2 := hr.un
    refine ⟨hr.hd, ?_, ?_⟩
    · show X.A.depth + 0 + 1 + 3 * k + 5 < _
      omega
    · show X.A.units + 1 + 1 + 0 + 3 + 16 * k + 200 < _
      omega
  have Ig := gen_start I3 ok S hN f3 rm.hd (over_gen (show X.A.in1.in1.frames = some X.stack from hfrX)) kp hns
  have aC : h'.objs.size ≠ s3.heap.objs.size := by omega
  have Ig2 : Inv (gcx X (X.A.in1.in1.over (.compLoop (.GeneratorExp elt [⟨tg, iter, ifs, 0⟩] scope gpos) 0 (.ref it) .none (genEnv scope (cloFrom X.env.cells scope.names []) s3.heap.objs.size cv builtinsNs X.env)) []) s3 H3 (genEnv scope (cloFrom X.env.cells scope.names []) s3.heap.objs.size cv builtinsNs X.env) fp) [(h'.objs.size, go)] (wipe σ (own.map (·.2))) H3 s5 := by
    refine Ig.pins_of fun p hp => ?_
    rw [List.mem_singleton.mp hp]
    refine ⟨hga, I3.hok.fresh (by omega), aC, fun z => ?_, fun v q => by rw [← hgo] at q; cases q⟩
    rcases List.mem_cons.mp (I3.stkSub _ z) with z | z
    · have z : h'.objs.size = X.env.locals := z
      have q : h'.objs.size < s3.heap.objs.size := by rw [z]; exact I3.lt
      omega
    · exact I3.nofs (by omega) z
  have hpz : ∀ p ∈ [(h'.objs.size, go)], p.1 ∉ fp := fun p hp z => by
    rw [List.mem_singleton.mp hp] at z
    have q : h'.objs.size < s3.heap.objs.size := (f3 _ z).2
    omega
  have back : ∀ (σ' : L2.St) (H' : Hp) (s1 s' : Shared), Inv (gcx X (X.A.in1.in1.over (.compLoop (.GeneratorExp elt [⟨tg, iter, ifs, 0⟩] scope gpos) 0 (.ref it) .none (genEnv scope (cloFrom X.env.cells scope.names []) s3.heap.objs.size cv builtinsNs X.env)) []) s3 H3 (genEnv scope (cloFrom X.env.cells scope.names []) s3.heap.objs.size cv builtinsNs X.env) fp) [(h'.objs.size, go)] σ' H' s1 → Kept s1 s' → Inv X pins σ H' s' := fun σ' H' s1 s' J1 k1 => by
    have J := Inv.keptS J1 k1
    exact I3.call' (ch := fp) J.os J.base J.hok J.bare fun b hb => ⟨(f3 b hb).1.2.2.2.1, (f3 b hb).1.2.1, (f3 b hb).1.2.2.2.2.1, (f3 b hb).1.2.2.2.2.2⟩
  refine ⟨_, s3.gens.size, rfl, isg _ hga, walk_loop (X := gcx X (X.A.in1.in1.over (.compLoop (.GeneratorExp elt [⟨tg, iter, ifs, 0⟩] scope gpos) 0 (.ref it) .none (genEnv scope (cloFrom X.env.cells scope.names []) s3.heap.objs.size cv builtinsNs X.env)) []) s3 H3 (genEnv scope (cloFrom X.env.cells scope.names []) s3.heap.objs.size cv builtinsNs X.env) fp) (pz := [(h'.objs.size, go)]) (σ0 := wipe σ (own.map (·.2))) (QT := fun H => Q (.bl d) H) (QF := fun H => Q (.bl (!d)) H) d (List.mem_singleton.mpr rfl) isg hr.hd hr.depth (fun H' s1 s' J1 q k1 => ⟨d, rfl, .bl d, H', back _ H' s1 s' J1 k1, rfl, q⟩) (fun σ' H' s1 s' J1 q k1 => ⟨!d, rfl, .bl (!d), H', back σ' H' s1 s' J1 k1, rfl, q⟩) (m0 + 1) s5 (isg _ hga) Ig2.nolimit ⟨_, hgs, rfl, ?_⟩⟩
  have k6 : Kept s5 (s5.setGen s3.gens.size .running) := ⟨rfl, allBare_setGen kp.bare rfl, fun _ _ e => e⟩
  have st5 : tn 0 (s5.setGen s3.gens.size .running).heap := T.keep _ _ _ st3 fun b hb o e => kp.keep b o e
  exact seg_start T st5 (seg_loop T hc rfl S.co hpz (hg _ _ _ _ _ _ rm) (ht _ _ _ _ _ _ rm) (he _ _ _ _ _ _ rm) turn m0 (m0 + 1) 0 _ _ H3 (Nat.lt_succ_self _) (Inv.keptS Ig2 k6) st5 nf w0)
theorem pe_allX {c P : Addr} {elt tg iter : Expr} {ifs : List Expr} {gpos p pos : Pos} {scope : Scope} {own : List (Str × Nat)} {wi : TI} {g : TG} {tt : TT} {te : TE} {k : Nat}
    (hr : Room (k + 1) X.A) (hgl : Gl X "all") (hm : X.mg "all" = none) (hc : X.calm = true) (hN : X.N.Nodup) (TB : GxR.TabB X.base X.mg c P) (hcode : X.env.code = .ref c) (ok : BlkOk X.N X.env.scope scope own) (S : GenK scope) (hi : PI X tg iter wi)
    (hg : ∀ (A : Around) (s : Shared) (H : Hp) (C : Addr) (code : Value) (fp : List Addr), Room k A → PG (gcx X A s H (genEnv scope (cloFrom X.env.cells scope.names []) C code builtinsNs X.env) fp) tg g)
    (ht : ∀ (A : Around) (s : Shared) (H : Hp) (C : Addr) (code : Value) (fp : List Addr), Room k A → PTs (gcx X A s H (genEnv scope (cloFrom X.env.cells scope.names []) C code builtinsNs X.env) fp) ifs tt)
    (he : ∀ (A : Around) (s : Shared) (H : Hp) (C : Addr) (code : Value) (fp : List Addr), Room k A → PE (gcx X A s H (genEnv scope (cloFrom X.env.cells scope.names []) C code builtinsNs X.env) fp) elt te)
    (hs : ∀ v, genFold iter X.env v = pure v := by intro _; rfl)
    (hst : starEach [.GeneratorExp elt [⟨tg, iter, ifs, 0⟩] scope gpos] X.env = (false, eval (.GeneratorExp elt [⟨tg, iter, ifs, 0⟩] scope gpos) X.env) :: starEach [] X.env := by rfl) :
    PE X (.Call (.Name "all" p) [.GeneratorExp elt [⟨tg, iter, ifs, 0⟩] scope gpos] [] pos) (tQX true wi g tt te (own.map (·.2)) P) := by
  refine ⟨fun pins s σ H Q I h => ?_⟩
  refine wpAny_Call_Name_kw (ld_blt I hgl hm boot_all (PyProof.Rows.callWith_builtin1 ?_ hst (by rfl)))
  rw [hst]
  show wpAny _ _ (spliced ((false, _) :: backTo pos (starEach [] X.env))) _ _ s
  refine Calls.spliced_cons (wpAny_mono (gen_core hr hc hN TB hcode ok S hi hs hg ht he I h) (fun v s5 hx => ?_) fun _ _ e => e)
  obtain ⟨a, gn, rfl, hgn, hcd⟩ := hx
  refine Calls.spliced_nil ?_
  refine call_function_tree F.kind_all F.plain_all F.entry_all (F.args_all1 _) ?_
  unfold Builtin.«all»
  refine wpAny_bind (m := oneArg "all" _) (wpAny_pure ?_)
  refine wpAny_bind (wpAny_pyIter_gen hgn ?_)
  exact wpAny_pure ⟨plainId_quiet F.plain_all_loop _, codeAny_mono hcd fun r s' hx => by obtain ⟨b, rfl, q⟩ := hx; exact q⟩
theorem pe_anyX {c P : Addr} {elt tg iter : Expr} {ifs : List Expr} {gpos p pos : Pos} {scope : Scope} {own : List (Str × Nat)} {wi : TI} {g : TG} {tt : TT} {te : TE} {k : Nat}
    (hr : Room (k + 1) X.A) (hgl : Gl X "any") (hm : X.mg "any" = none) (hc : X.calm = true) (hN : X.N.Nodup) (TB : GxR.TabB X.base X.mg c P) (hcode : X.env.code = .ref c) (ok : BlkOk X.N X.env.scope scope own) (S : GenK scope) (hi : PI X tg iter wi)
    (hg : ∀ (A : Around) (s : Shared) (H : Hp) (C : Addr) (code : Value) (fp : List Addr), Room k A → PG (gcx X A s H (genEnv scope (cloFrom X.env.cells scope.names []) C code builtinsNs X.env) fp) tg g)
    (ht : ∀ (A : Around) (s : Shared) (H : Hp) (C : Addr) (code : Value) (fp : List Addr), Room k A → PTs (gcx X A s H (genEnv scope (cloFrom X.env.cells scope.names []) C code builtinsNs X.env) fp) ifs tt)
    (he : ∀ (A : Around) (s : Shared) (H : Hp) (C : Addr) (code : Value) (fp : List Addr), Room k A → PE (gcx X A s H (genEnv scope (cloFrom X.env.cells scope.names []) C code builtinsNs X.env) fp) elt te)
    (hs : ∀ v, genFold iter X.env v = pure v := by intro _; rfl)
    (hst : starEach [.GeneratorExp elt [⟨tg, iter, ifs, 0⟩] scope gpos] X.env = (false, eval (.GeneratorExp elt [⟨tg, iter, ifs, 0⟩] scope gpos) X.env) :: starEach [] X.env := by rfl) :
    PE X (.Call (.Name "any" p) [.GeneratorExp elt [⟨tg, iter, ifs, 0⟩] scope gpos] [] pos) (tQX false wi g tt te (own.map (·.2)) P) := by
  refine ⟨fun pins s σ H Q I h => ?_⟩
  refine wpAny_Call_Name_kw (ld_blt I hgl hm boot_any (PyProof.Rows.callWith_builtin1 ?_ hst (by rfl)))
  rw [hst]
  show wpAny _ _ (spliced ((false, _) :: backTo pos (starEach [] X.env))) _ _ s
  refine Calls.spliced_cons (wpAny_mono (gen_core hr hc hN TB hcode ok S hi hs hg ht he I h) (fun v s5 hx => ?_) fun _ _ e => e)
  obtain ⟨a, gn, rfl, hgn, hcd⟩ := hx
  refine Calls.spliced_nil ?_
  refine call_function_tree F.kind_any F.plain_any F.entry_any (F.args_any1 _) ?_
  unfold Builtin.«any»
  refine wpAny_bind (m := oneArg "any" _) (wpAny_pure ?_)
  refine wpAny_bind (wpAny_pyIter_gen hgn ?_)
  exact wpAny_pure ⟨plainId_quiet F.plain_any_loop _, codeAny_mono hcd fun r s' hx => by obtain ⟨b, rfl, q⟩ := hx; exact q⟩
end
end Gx

set_option Elab.async false
set_option linter.all false
set_option maxRecDepth 100000
set_option maxHeartbeats 4000000
/-! the turns, by source -/
namespace Gx
open PySem PySem.Spec PyProof.Rows L2
theorem all_range {lo : Int} {n : Nat} {g : TG} {tt : TT} {te : TE} {vs : List Nat} {σ : L2.St} {d : Bool} {QT QF : Hp → Prop} {H2 : Hp} (Pv : Nat → Hp → Prop) (h0 : Pv 0 H2)
    (hs : ∀ i H, i < n → Pv i H → g (.int (lo + i)) (wipe σ vs) H fun σ2 H2 => wipe σ2 vs = wipe σ vs ∧ tt σ2 H2 fun b H3 => if b = true then te σ2 H3 fun y H4 => ∃ c, y = .bl c ∧ (if c = d then Pv (i + 1) H4 else QF H4) else Pv (i + 1) H3) (hd : ∀ H, Pv n H → QT H) :
    ∃ W : Nat → Nat → Hp → Prop, (∃ m, W 0 m H2) ∧ Turns (Itr lo n) g tt te vs σ d QT QF W := by
  refine ⟨fun i m H => m = n - i ∧ i ≤ n ∧ Pv i H, ⟨n, by simp, Nat.zero_le _, h0⟩, ?_⟩
  rintro i m H ⟨rfl, hi, p⟩
  by_cases hlt : i < n
  · refine .inr ⟨hlt, Pv (i + 1), fun H' p' => ⟨n - (i + 1), by omega, rfl, hlt, p'⟩, fun x H' y => ?_⟩
    obtain ⟨e, y⟩ := y
    subst e y
    exact hs i _ hlt p
  · have e : i = n := by omega
    subst e
    exact .inl ⟨Nat.le_refl _, hd H p⟩
theorem all_tup {K : PySem.W.Frag} {a : Addr} {xs : List V} {g : TG} {tt : TT} {te : TE} {vs : List Nat} {σ : L2.St} {d : Bool} {QT QF : Hp → Prop} {H2 : Hp} (Pv : Nat → Hp → Prop) (h0 : Pv 0 H2) (hl : ∀ i H, i ≤ xs.length → Pv i H → SqT K H a xs)
    (hs : ∀ i x H, xs[i]? = some x → Pv i H → g x (wipe σ vs) H fun σ2 H2 => wipe σ2 vs = wipe σ vs ∧ tt σ2 H2 fun b H3 => if b = true then te σ2 H3 fun y H4 => ∃ c, y = .bl c ∧ (if c = d then Pv (i + 1) H4 else QF H4) else Pv (i + 1) H3) (hd : ∀ H, Pv xs.length H → QT H) :
    ∃ W : Nat → Nat → Hp → Prop, (∃ m, W 0 m H2) ∧ Turns (Itt K a) g tt te vs σ d QT QF W := by
  refine ⟨fun i m H => m = xs.length - i ∧ i ≤ xs.length ∧ Pv i H, ⟨xs.length, by simp, Nat.zero_le _, h0⟩, ?_⟩
  rintro i m H ⟨rfl, hi, p⟩
  have q := hl i H hi p
  by_cases hlt : i < xs.length
  · refine .inr ⟨⟨xs, xs[i], q, by simp [hlt]⟩, Pv (i + 1), fun H' p' => ⟨xs.length - (i + 1), by omega, rfl, hlt, p'⟩, fun x H' y => ?_⟩
    obtain ⟨e, y⟩ := y
    subst e
    exact hs i x _ (y xs q) p
  · have e : i = xs.length := by omega
    subst e
    exact .inl ⟨⟨xs, q, Nat.le_refl _⟩, hd H p⟩
theorem all_list {K : PySem.W.Frag} {a : Addr} {xs : List V} {g : TG} {tt : TT} {te : TE} {vs : List Nat} {σ : L2.St} {d : Bool} {QT QF : Hp → Prop} {H2 : Hp} (Pv : Nat → Hp → Prop) (h0 : Pv 0 H2) (hl : ∀ i H, i ≤ xs.length → Pv i H → SqL K H a xs)
    (hs : ∀ i x H, xs[i]? = some x → Pv i H → g x (wipe σ vs) H fun σ2 H2 => wipe σ2 vs = wipe σ vs ∧ tt σ2 H2 fun b H3 => if b = true then te σ2 H3 fun y H4 => ∃ c, y = .bl c ∧ (if c = d then Pv (i + 1) H4 else QF H4) else Pv (i + 1) H3) (hd : ∀ H, Pv xs.length H → QT H) :
    ∃ W : Nat → Nat → Hp → Prop, (∃ m, W 0 m H2) ∧ Turns (Itl K a) g tt te vs σ d QT QF W := by
  refine ⟨fun i m H => m = xs.length - i ∧ i ≤ xs.length ∧ Pv i H, ⟨xs.length, by simp, Nat.zero_le _, h0⟩, ?_⟩
  rintro i m H ⟨rfl, hi, p⟩
  have q := hl i H hi p
  by_cases hlt : i < xs.length
  · refine .inr ⟨⟨xs, xs[i], q, by simp [hlt]⟩, Pv (i + 1), fun H' p' => ⟨xs.length - (i + 1), by omega, rfl, hlt, p'⟩, fun x H' y => ?_⟩
    obtain ⟨e, y⟩ := y
    subst e
    exact hs i x _ (y xs q) p
  · have e : i = xs.length := by omega
    subst e
    exact .inl ⟨⟨xs, q, by simp⟩, hd H p⟩
end Gx

set_option Elab.async false
set_option linter.all false
set_option maxRecDepth 100000
set_option maxHeartbeats 4000000
/-! tuple(..) of a generator expression: any source, any target, any element -/
namespace Gx
open PySem PySem.Spec PyProof.Rows L2 GenW
def TurnsC (J : It) (g : TG) (tt : TT) (te : TE) (vs : List Nat) (σ : L2.St) (Q : List V → Hp → Prop) (W : Nat → Nat → List V → Hp → Prop) : Prop := ∀ i m ys H, W i m ys H →
  (J.stop i H ∧ Q ys H) ∨ (J.go i H ∧ ys.length < sizeLine ∧ ∃ Nx : List V → Hp → Prop, (∀ ys' H', Nx ys' H' → ∃ m', m' < m ∧ W (i + 1) m' ys' H') ∧ ∀ x H', J.yld i H x H' → g x (wipe σ vs) H' fun σ2 H2 => wipe σ2 vs = wipe σ vs ∧ tt σ2 H2 fun b H3 =>
    if b = true then te σ2 H3 fun y H4 => Nx (ys ++ [y]) H4 else Nx ys H3)
section
variable {X : Cx} {A B : Around} {s3 : Shared} {H3 : Hp} {cenv : Env} {fp : List Addr} {σ : L2.St}
theorem seg_loopC {elt tg iter : Expr} {ifs : List Expr} {scope : Scope} {pos : Pos} {it a : Addr} {gn : Nat} {go : Obj} {J : It} {tn : Nat → Heap → Prop} {g : TG} {tt : TT} {te : TE} {vs : List Nat} {Q : List V → Hp → Prop} {W : Nat → Nat → List V → Hp → Prop} {S : Addr} {E : XK}
    (T : Turn X.prog X.w X.K tg J fp it tn) (hc : X.calm = true) (hov : B.over (.compLoop (.GeneratorExp elt [⟨tg, iter, ifs, 0⟩] scope pos) 0 (.ref it) .none cenv) [] = A) (hco : cenv.scope.isCoroutine = false) (haf : a ∉ fp) (hSf : S ∉ fp) (haS : a ≠ S) (hAp : Apart (gcx X A s3 H3 cenv fp) S)
    (hgo : ∀ h : Heap, h.get? a = some go → h.IsGen a gn)
    (pg : PG (gcx X A s3 H3 cenv fp) tg g) (pt : PTs (gcx X A s3 H3 cenv fp) ifs tt) (pe : PE (gcx X A s3 H3 cenv fp) elt te) (turn : TurnsC J g tt te vs σ Q W) :
    ∀ (m n i : Nat) (ys : List V) (s₀ s : Shared) (H : Hp), n + ys.length = sizeLine → GI (gcx X A s3 H3 cenv fp) S [(a, go)] ys (wipe σ vs) H s → tn i s.heap → (∀ b ∈ fp, H b = none) → W i m ys H →
      Seg (model X.prog X.w) B (REnd X.prog X.w X.stack H3 s3 fp S a gn Q E) (YItem s3 S a gn) n s₀
        (.compLoop (.GeneratorExp elt [⟨tg, iter, ifs, 0⟩] scope pos) 0 (.ref it) .none cenv)
        ((model X.prog X.w).den (.compLoop (.GeneratorExp elt [⟨tg, iter, ifs, 0⟩] scope pos) 0 (.ref it) .none cenv)) [] s := by
  have stat : ∀ {σ' : L2.St} {H' : Hp} {s' : Shared} {acc : Array Value} {c : Nat}, Inv (gcx X A s3 H3 cenv fp) ((S, lstObj acc c) :: [(a, go)]) σ' H' s' → (∀ b ∈ fp, H' b = none) → ∀ b ∈ fp, FpOk (gcx X A s3 H3 cenv fp) ((S, lstObj acc c) :: [(a, go)]) H' b := fun {σ' H' s' acc c} I' hn b hb =>
    ⟨hn b hb, (I'.ok.exf b hb).1, I'.ok.exfs b hb, .inl hb, fun x c e => (I'.ok.exf b hb).2 x c e, fun p hp z => by
      have hp : p ∈ (S, lstObj acc c) :: [(a, go)] := by simpa using hp
      rcases List.mem_cons.mp hp with q | q
      · rw [q] at z; exact hSf (by have z : S = b := z; rw [z]; exact hb)
      · rw [List.mem_singleton.mp q] at z; exact haf (by have z : a = b := z; rw [z]; exact hb)⟩
  intro m
  induction m using Nat.strongRecOn with
  | ind m ih =>
    intro n i ys s₀ s H hmn hG st nf w
    obtain ⟨acc, cc, rv, I⟩ := hG
    show Seg _ B _ _ _ s₀ _ ((compTurn (.GeneratorExp elt [⟨tg, iter, ifs, 0⟩] scope pos) 0 (.ref it) .none cenv).onRaise (leaving cenv)) [] s
    rw [compTurn_gen, Sem.onRaise_eq_wrap]
    refine seg_bind_wrap (wpAny_standAt ?_)
    rcases turn i m ys H w with ⟨stop, qq⟩ | ⟨go', hys, Nx, hNx, step⟩
    · refine seg_bind_wrap ?_
      rw [hov]
      refine wpAny_mono (T.done (gcx X A s3 H3 cenv fp) rfl rfl rfl hc i _ s _ H (fun _ _ => False) I (stat I nf) st stop) (fun r s6 hx => ?_) fun _ _ e => e.elim
      obtain ⟨rfl, I6⟩ := hx
      obtain ⟨z1, z2, z3, z4, _⟩ := I6.pin (S, lstObj acc cc) (List.mem_append_right _ List.mem_cons_self)
      exact seg_end (.ok .next) (.inl ⟨.inr rfl, H, ys, acc, cc, I6.os, I6.bare, I6.base, I6.hok, z2, z1, rv, by omega, qq⟩)
    · refine seg_bind_wrap ?_
      rw [hov]
      refine wpAny_mono (T.item (gcx X A s3 H3 cenv fp) rfl rfl rfl hc i _ s _ H (fun _ _ => False) I (stat I nf) st go') (fun r s6 hx => ?_) fun _ _ e => e.elim
      obtain ⟨u, rfl, h6⟩ := hx
      refine seg_bind_wrap ?_
      rw [hov]
      refine wpAny_mono h6 (fun _ s7 hx => ?_) fun _ _ e => e.elim
      obtain ⟨x, H7, I7, r7, y7, st7, n7⟩ := hx
      have I7' := I7.pinned (stat I7 n7) (T.obj _ _ st7)
      refine seg_bind_wrap ?_
      rw [hov]
      refine wpAny_mono (pg.run _ s7 _ H7 x u _ I7' r7 (step x H7 y7)) (fun _ s8 hx => ?_) fun _ _ e => e.elim
      obtain ⟨σ8, H8, I8, hw8, q8⟩ := hx
      refine seg_bind_wrap ?_
      rw [hov]
      refine wpAny_mono (pt.run _ s8 σ8 H8 _ I8 q8) (fun b s9 hx => ?_) fun _ _ e => e.elim
      obtain ⟨H9, I9, q9⟩ := hx
      have fin : ∀ {s' : Shared} {H' : Hp} {ys' : List V}, GI (gcx X A s3 H3 cenv fp) S ([(a, go)] ++ pinsAt fp s7.heap) ys' σ8 H' s' → GI (gcx X A s3 H3 cenv fp) S [(a, go)] ys' (wipe σ vs) H' s' ∧ tn (i + 1) s'.heap ∧ ∀ b ∈ fp, H' b = none := fun {s' H' ys'} hG' => by
        obtain ⟨acc', cc', rv', I'⟩ := hG'
        have I' : Inv (gcx X A s3 H3 cenv fp) (((S, lstObj acc' cc') :: [(a, go)]) ++ pinsAt fp s7.heap) σ8 H' s' := I'
        have pin' : ∀ b ∈ fp, ∀ o, s7.heap.get? b = some o → s'.heap.get? b = some o ∧ H' b = none := fun b hb o e =>
          let z := I'.pin (b, o) (List.mem_append_right _ (List.mem_append_right _ (mem_pinsAt hb e)))
          ⟨z.1, z.2.1⟩
        have hl : (wipe σ vs).length = σ8.length := by rw [← hw8, wipe_length]
        refine ⟨⟨acc', cc', rv', I'.unpinned.weak hl (fun j v e => ?_)⟩, T.keep _ _ _ st7 fun b hb o e => (pin' b hb o e).1, fun b hb => ?_⟩
        · rw [← hw8] at e
          exact (wipe_some e).1
        · obtain ⟨o, e, _⟩ := T.obj _ _ st7 b hb
          exact (pin' b hb o e).2
      cases b with
      | false =>
        simp only [Bool.false_eq_true, if_false] at q9 ⊢
        obtain ⟨m', hm, w'⟩ := hNx ys H9 q9
        obtain ⟨f1, f2, f3⟩ := fin (ys' := ys) ⟨acc, cc, rv, I9⟩
        exact seg_again rfl (ih m' hm n (i + 1) ys s₀ _ H9 hmn f1 f2 f3 w')
      | true =>
        simp only [if_true] at q9 ⊢
        have hy : ∀ v, yieldOut cenv v = yieldValue v := fun v => by simp only [yieldOut, hco, Bool.false_eq_true, if_false]
        simp only [hy]
        rw [Sem.bind_eq_wrap', Sem.bind_eq_wrap', Sem.wrap_wrap, Sem.wrap_wrap]
        refine seg_wrap ?_
        rw [hov]
        refine wpAny_mono (pe.run _ s9 σ8 H9 _ I9 q9) (fun z s10 hx => ?_) fun _ _ e => e.elim
        obtain ⟨yv, H10, I10, r10, nx⟩ := hx
        obtain ⟨n, rfl⟩ : ∃ n', n = n' + 1 := ⟨n - 1, by omega⟩
        have hasz : acc.size = ys.length := by
          have e1 := rv.length
          have e2 : acc.toList.length = acc.size := by simp
          omega
        have pS := I10.pin (S, lstObj acc cc) (List.mem_append_right _ List.mem_cons_self)
        have pA := I10.pin (a, go) (List.mem_append_right _ (List.mem_append_left _ (List.mem_cons_of_mem _ (List.mem_singleton.mpr rfl))))
        refine seg_at (seg_yield rfl rfl rfl ⟨I10.os, I10.bare, I10.nolimit, hgo _ pA.1, ⟨acc, cc, pS.1, by rw [hasz]; omega⟩, fun s'' hk => ?_⟩)
        obtain ⟨m', hm, w'⟩ := hNx (ys ++ [yv]) H10 nx
        have hG10 : GI (gcx X A s3 H3 cenv fp) S ([(a, go)] ++ pinsAt fp s7.heap) ys σ8 H10 s10 := ⟨acc, cc, rv, I10⟩
        have wk := hG10.woken (x := yv) (fun p hp => by simp at hp) (fun p hp z => by
          rcases List.mem_append.mp hp with q | q
          · rw [List.mem_singleton.mp q] at z; exact haS z
          · obtain ⟨hb, _⟩ := of_pinsAt q
            exact hSf (by rw [← z]; exact hb)) hAp r10 hk
        obtain ⟨f1, f2, f3⟩ := fin wk
        exact seg_again rfl (ih m' hm n (i + 1) (ys ++ [yv]) s'' s'' H10 (by rw [List.length_append, List.length_singleton]; omega) f1 f2 f3 w')
end
/-- tuple(g), g a generator that has not begun -/
theorem call_tuple_new {P : Program} {w : World} {outer : List Env} {H : Hp} {sc s : Shared} {ex : List Addr} {Q : List V → Hp → Prop} {A : Around} {k : Nat} {u : Value} {Q' : Value → Shared → Prop} {E : Value → Shared → Prop}
    (hr : Room (k + 1) A) (hfr : A.frames = some outer) (h : GMade P w k outer H sc ex Q (fun _ _ _ => False) u s)
    (hQ : ∀ (s' : Shared) (acc : Array Value) (H' : Hp) (ys : List V), Vals ys acc.toList → ys.length ≤ sizeLine → s'.os = sc.os → AllBare s'.gens → Un (frs outer) ex H H' sc.heap s'.heap → HOk P w H' s'.heap → Q ys H' → Q' (.ref s'.heap.objs.size) { s' with heap := s'.heap.push { cls := .type "tuple", data := .seq acc } }) :
    wpAny (model P w) A (call (.type "tuple") [u]) Q' E s := by
  obtain ⟨a, g, c, rfl, ha1, ha2, hg, hgs, hos, hb, hl, hkp, wake⟩ := h
  have hSa : s.heap.objs.size ≠ a := Nat.ne_of_gt ha2
  have hcl : cStatics < s.heap.objs.size := let ⟨_, hn, _⟩ := hl; hn.lt
  have hSc : s.heap.objs.size ≠ cStatics := Nat.ne_of_gt hcl
  refine callType_codes (Q₁ := fun obj s₁ => s₁.TypeIs obj "tuple" ∧ Q' obj s₁) F.called_tuple (F.typeCall_tuple_1 _) F.entry_object_init ?_ fun obj s₁ h₁ =>
    ⟨h₁.1, F.args_object_init_2 obj _, object_init_meets F.called_tuple.init.lookup F.called_tuple.made (by decide) P w A.in1 _ s₁ ⟨h₁.1, rfl, h₁.2⟩⟩
  refine codeAny_of_tree ?_
  show wpAny _ A.in1.in1 (do checkBuiltinCall "tuple.__new__" ⟨[.type "tuple", .ref a], []⟩; again (.builtin "tuple.__new__" ⟨[.type "tuple", .ref a], []⟩)) _ _ s
  refine wpAny_bind (wpAny_of_eq (F.newCall_tuple_1 _) (wpAny_pure ⟨plainId_quiet F.plain_tuple_new _, codeAny_builtin F.entry_tuple_new ?_⟩))
  rw [Around.under_plainId F.plain_tuple_new _]
  have hsub := sub_tuple_self
  have hinit := init_tuple_lookup
  have hmh := madeHere_tuple
  have hTI := hg.typeIs (s := s)
  have coll : ∀ {A2 : Around} {QC : List Value → Shared → Prop} {EC : Value → Shared → Prop}, A2.handled = none → A2.depth = A.depth → A2.units ≤ A.units + 8 → A2.frames = some outer →
      (∀ (s' : Shared) (acc : Array Value) (H' : Hp) (ys : List V), Vals ys acc.toList → ys.length ≤ sizeLine → s'.os = sc.os → AllBare s'.gens → Un (frs outer) ex H H' sc.heap s'.heap → HOk P w H' s'.heap → Q ys H' → QC acc.toList s') → wpAny (model P w) A2 (collect (.ref a)) QC EC s := fun {A2 QC EC} h1 h2 h3 h4 hq => by
    unfold collect
    refine wpAny_bind (wpAny_runValue (codeAny_builtin F.entry_proto_collect ?_))
    rw [Around.under_plainId F.plain_proto_collect _]
    show wpAny _ A2.in1 (newList [] >>= fun l => again (.builtin "list.__iadd__" ⟨[l, .ref a], []⟩)) _ _ s
    refine wpAny_bind (wpAny_newObj_type ?_)
    refine wpAny_pure ⟨plainId_quiet F.plain_list_iadd _, codeAny_builtin F.entry_list_iadd ?_⟩
    rw [Around.under_plainId F.plain_list_iadd _]
    show wpAny _ A2.in1 (Builtin.List.listExtendWith (.ref s.heap.objs.size) (.ref a) (.ref s.heap.objs.size)) _ _ _
    unfold Builtin.List.listExtendWith
    have up : ∀ (h : Heap) (f : Obj → Obj), (∀ b o, s.heap.get? b = some o → h.get? b = some o) → ∀ b o, s.heap.get? b = some o → (h.update s.heap.objs.size f).get? b = some o := fun h f q b o e =>
      (Heap.get?_update_other _ _ (Ne.symm (Nat.ne_of_lt (Heap.lt_size e)))).trans (q b o e)
    have k1 : ∀ b o, s.heap.get? b = some o → (s.heap.push { cls := .type "list", data := .seq ([] : List Value).toArray }).get? b = some o := fun b o e => Heap.get?_push_of_some _ e
    have gty : ∀ {h : Heap}, (∀ b o, s.heap.get? b = some o → h.get? b = some o) → h.IsGen a g := fun {h} q => hg.keeps q
    refine wpAny_bind (wpAny_typeOf (Heap.IsGen.typeIs (s := { s with heap := _ }) (gty k1)) ?_)
    have e1 : Builtin.List.listSameRef (.ref s.heap.objs.size) (.ref a) = false := by simp [Builtin.List.listSameRef, hSa]
    have e2 : (Value.type "generator" == Value.type "list") = false := by decide
    have e3 : (Value.type "generator" == Value.type "tuple") = false := by decide
    simp only [e1, e2, e3, Bool.or_false, Bool.false_eq_true, if_false]
    refine wpAny_bind (wpAny_pyIter_gen (s := { s with heap := _ }) (gty k1) ?_)
    refine wpAny_bind (wpAny_holding ?_)
    unfold Builtin.List.listLengthHint
    refine wpAny_bind (wpAny_specialOf (Heap.IsGen.typeIs (s := { s with heap := _ }) (gty k1)) F.gen_no_len ?_)
    show wpAny _ A2.in1 (specialOf (Value.ref a) (Str.ofString "__length_hint__") >>= _) _ _ _
    refine wpAny_bind (wpAny_specialOf (Heap.IsGen.typeIs (s := { s with heap := _ }) (gty k1)) F.gen_no_hint ?_)
    refine wpAny_pure ?_
    show wpAny _ A2.in1 (rule "list.extend.makes-room" >>= fun _ => Builtin.List.listTouch (.ref s.heap.objs.size) >>= fun _ =>
      again (.builtin "list.extend.loop" ⟨[.ref s.heap.objs.size, .ref a, .ref s.heap.objs.size], []⟩)) _ _ _
    refine wpAny_bind (wpAny_rule ?_)
    have hS₁ : (s.heap.push { cls := .type "list", data := .seq ([] : List Value).toArray }).get? s.heap.objs.size = some { cls := .type "list", data := .seq ([] : List Value).toArray } := Heap.get?_push_size _ rfl
    refine wpAny_bind ?_
    show wpAny _ A2.in1 (updateSeq s.heap.objs.size (·.push .none) >>= fun _ => updateSeq s.heap.objs.size (·.pop)) _ _ _
    refine wpAny_bind (wpAny_updateSeq hS₁ rfl ?_)
    have hS₂ := Heap.get?_update_self (Obj.mapSeq (·.push Value.none)) hS₁ rfl
    refine wpAny_updateSeq hS₂ rfl ?_
    have hS₃ := Heap.get?_update_self (Obj.mapSeq (·.pop)) hS₂ rfl
    have k4 := up _ (Obj.mapSeq (·.pop)) (up _ (Obj.mapSeq (·.push Value.none)) k1)
    refine wpAny_pure ⟨plainId_quiet F.plain_extend_loop _, ?_⟩
    refine drain (P := P) (w := w) (outer := outer) (H := H) (sc := sc) (ex := ex) (Q := Q) (EX := fun _ _ _ => False) (A := A2) (g := g) h1 (by have := hr.dp; omega) hSa hSc
      (fun s' acc c H' ys q1 q2 q3 q4 q5 q6 q7 q8 q9 => ?_) (fun e s' hc => by obtain ⟨_, _, _, _, _, _, _, _, _, _, _, _, hf⟩ := hc; exact hf.elim)
      sizeLine _ (gty k4) (hl.keeps k4) ⟨_, hgs, rfl, ?_⟩
    · show wpAny _ A2 (load s.heap.objs.size >>= _) _ _ s'
      refine wpAny_bind (wpAny_load q1 ?_)
      exact wpAny_pure (hq s' acc H' ys q2 q3 q4 q5 q6 q7 q9)
    · refine wake _ _ _ ⟨h1, ?_, ?_⟩ h4 (Nat.le_refl _) k4 ⟨_, hS₃⟩ hos (allBare_setGen (s := { s with heap := _ }) hb rfl)
      · have := hr.dp
        show A2.depth + 3 * k + 5 < _
        omega
      · have := hr.un
        show A2.units + 1 + 1 + 16 * k + 200 < _
        omega
  wp_walk using wpAny_typeOf hTI, coll (A2 := A.in1.in1) hr.hd rfl (by show A.units + 1 + 1 ≤ A.units + 8; omega) hfr
  intro s' acc H' ys q1 q2 q3 q4 q5 q6 q7
  show wpAny _ _ (Builtin.Tuple.tupleExact acc.toList.toArray >>= fun v => ret v) _ _ _
  unfold Builtin.Tuple.tupleExact
  have hz : acc.size ≤ sizeLine := by
    have e1 := q1.length
    have e2 : acc.toList.length = acc.size := by simp
    omega
  refine wpAny_bind (wpAny_newObj_type ?_ (by show acc.toList.toArray.size ≤ sizeLine; simp only [Array.toArray_toList]; exact hz))
  refine wpAny_pure ?_
  have e : acc.toList.toArray = acc := by simp
  rw [e]
  exact ⟨⟨_, Heap.get?_push_size _ rfl, rfl⟩, hQ s' acc H' ys q1 q2 q3 q4 q5 q6 q7⟩
end Gx

set_option Elab.async false
set_option linter.all false
set_option maxRecDepth 100000
set_option maxHeartbeats 4000000
namespace Gx
open PySem PySem.Spec PyProof.Rows L2 GenW
def tCX (wi : TI) (g : TG) (tt : TT) (te : TE) (vs : List Nat) (P : Addr) : TE := fun σ H Q => wi σ H fun J H1 => GxR.TabG H1 P ∧ ∀ H2, GxR.Tabbed P H1 H2 → ∃ W : Nat → Nat → List V → Hp → Prop, (∃ m, W 0 m [] H2) ∧
  TurnsC J g tt te vs σ (fun ys H => ∀ p, H p = none → Q (.ref p) (upd H p (.tup ys))) W
section
variable {X : Cx} {pins : List (Addr × Obj)} {σ : L2.St} {H : Hp} {s : Shared}
theorem gen_made {c P : Addr} {elt tg iter : Expr} {ifs : List Expr} {gpos : Pos} {scope : Scope} {own : List (Str × Nat)} {wi : TI} {g : TG} {tt : TT} {te : TE} {k : Nat} {QQ : List V → Hp → Prop}
    (hr : Room (k + 1) X.A) (hc : X.calm = true) (hN : X.N.Nodup) (TB : GxR.TabB X.base X.mg c P) (hcode : X.env.code = .ref c) (ok : BlkOk X.N X.env.scope scope own) (S : GenK scope) (hi : PI X tg iter wi) (hs : ∀ v, genFold iter X.env v = pure v)
    (hg : ∀ (A : Around) (s : Shared) (H : Hp) (C : Addr) (code : Value) (fp : List Addr), Room k A → PG (gcx X A s H (genEnv scope (cloFrom X.env.cells scope.names []) C code builtinsNs X.env) fp) tg g)
    (ht : ∀ (A : Around) (s : Shared) (H : Hp) (C : Addr) (code : Value) (fp : List Addr), Room k A → PTs (gcx X A s H (genEnv scope (cloFrom X.env.cells scope.names []) C code builtinsNs X.env) fp) ifs tt)
    (he : ∀ (A : Around) (s : Shared) (H : Hp) (C : Addr) (code : Value) (fp : List Addr), Room k A → PE (gcx X A s H (genEnv scope (cloFrom X.env.cells scope.names []) C code builtinsNs X.env) fp) elt te)
    (I : Inv X pins σ H s) (h : wi σ H fun J H1 => GxR.TabG H1 P ∧ ∀ H2, GxR.Tabbed P H1 H2 → ∃ W : Nat → Nat → List V → Hp → Prop, (∃ m, W 0 m [] H2) ∧ TurnsC J g tt te (own.map (·.2)) σ QQ W) :
    wpAny (model X.prog X.w) X.A (eval (.GeneratorExp elt [⟨tg, iter, ifs, 0⟩] scope gpos) X.env) (fun v s5 => ∃ (s3 : Shared) (H3 : Hp) (fp : List Addr), GMade X.prog X.w (k + 1) X.stack H3 s3 fp QQ (fun _ _ _ => False) v s5 ∧
      ∀ (H' : Hp) (s' : Shared), s'.os = s3.os → AllBare s'.gens → Un (frs X.stack) fp H3 H' s3.heap s'.heap → HOk X.prog X.w H' s'.heap → Inv X pins σ H' s') X.xe s := by
  have hfree : ∀ y ∈ scope.names, y.2 = .free → ∃ c, X.env.cells.lookup y.1 = some c := fun y hy e => by
    rcases ok.free y hy e with k | k
    · exact I.ok.has _ (.inl k)
    · exact I.ok.has _ (.inr k)
  refine wpAny_GeneratorExp_make S.co (closure_ok hfree) S.cell S.dot ok.kind hr.depth (wpAny_mono (hi.run pins s σ H _ I h) (fun xv s1 h1 => wpAny_mono h1 (fun itv s2 h2 => ?_) fun _ _ e => e) fun _ _ e => e) hs
  obtain ⟨it, fp, tn, J, H1, rfl, I2, T, st2, f2, ⟨ps, hP, htr⟩, hW⟩ := h2
  refine ⟨I2.nolimit, ?_⟩
  have tabS : s2.heap.get? P = some { cls := .none, data := .fields ps } := I2.hok P _ hP
  have hd : PySem.W.CodeHd s2.heap c P := TB.code.keeps fun b u e => I2.bk b u e
  have key : ∀ (REST : Value → Shared → Prop), (∀ (cv : Value) (h3 : Heap) (tk : Nat) (more : Array Value), Heap.ExtBut P s2.heap h3 → s2.heap.objs.size ≤ h3.objs.size → h3.get? P = some { cls := .none, data := .fields (ps ++ more) } → TriplesOk (ps ++ more).toList → REST cv { s2 with heap := h3, toks := tk }) →
      wpAny (model X.prog X.w) X.A (genexprCode X.env gpos (X.env.qual ++ "<genexpr>") scope) REST X.xe s2 := fun REST fin => by
    cases hf : codeAmong gpos ps.toList with
    | some cv =>
      have e : ps = ps ++ #[] := by simp
      exact wpAny_genexprCode_hit hcode (hd.code tabS htr) hf (fin cv _ s2.toks #[] (Heap.ExtBut.refl _ _) (Nat.le_refl _) (e ▸ tabS) (e ▸ htr))
    | none =>
      refine wpAny_genexprCodeX hcode (hd.code tabS htr) (hd.tab tabS) hf fun c' h3 tk ex ge lt ic _ ta _ => ?_
      obtain ⟨_, _, _, _, _, _, _, _, _, _, _, _, _, _, _, _, _, _, _, tr, _⟩ := ic
      exact fin _ h3 tk _ ex (Nat.le_trans ge (Nat.le_of_lt lt)) ta.2 tr
  refine key _ fun cv h3 tk more ex ge tab3 tr3 => ?_
  obtain ⟨bm, ob, b1, b2, b3, b4, b5, b6, b7, b8⟩ := TB.bm
  refine wpAny_builtinsFor (m := X.mg) (by rw [I2.ok.glob]; exact (I2.mod.glob.keeps I2.bk).extBut ex TB.gP) b1 b2 (ex _ _ b4 (I2.bk _ _ b5)) b6 b7 b8 ?_
  intro h' hn' hs'
  generalize hs3 : ({ s2 with heap := h3, toks := tk } : Shared) = s3 at hn' hs' ⊢
  have e3 : s3.heap = h3 := by rw [← hs3]
  have I3 : Inv X pins σ (upd H1 P (.tbl (ps ++ more))) s3 := by
    rw [← hs3]
    exact GxR.inv_tab (more := more) (h' := h3) (g' := s2.gens) (d' := s2.drawn) (t' := tk) I2 hP (fun b o n e => ex b o n e) tab3 I2.bare
  obtain ⟨W, ⟨m0, w0⟩, turn⟩ := hW _ ⟨⟨ps ++ more, upd_same, tr3⟩, fun b hb => upd_ne hb⟩
  have neP : ∀ b ∈ fp, b ≠ P := fun b hb z => by
    have := (f2 b hb).1
    rw [z, hP] at this
    cases this
  have f3 : ∀ b ∈ fp, FpOk X pins (upd H1 P (.tbl (ps ++ more))) b ∧ b < s3.heap.objs.size := fun b hb => by
    obtain ⟨o, e, _⟩ := T.obj _ _ st2 b hb
    refine ⟨⟨?_, (f2 b hb).2⟩, by rw [e3]; exact Nat.lt_of_lt_of_le (Heap.lt_size e) ge⟩
    rw [upd_ne (neP b hb)]
    exact (f2 b hb).1
  have st3 : tn 0 s3.heap := T.keep _ _ _ st2 fun b hb o e => by rw [e3]; exact ex b o (neP b hb) e
  generalize hH3 : upd H1 P (.tbl (ps ++ more)) = H3 at I3 w0 f3
  have nf : ∀ b ∈ fp, H3 b = none := fun b hb => (f3 b hb).1.1
  generalize hgo : ({ cls := .type "generator", data := .fields #[.int s3.gens.size 0, .str "<genexpr>" (s3.toks + 1), .str (X.env.qual ++ "<genexpr>") (s3.toks + 1 + 1)] } : Obj) = go
  have sz' : h'.objs.size = s3.heap.objs.size + 1 := by rw [hs'.1, Heap.size_push]
  generalize hs5 : ({ s3 with gens := s3.gens.push (.fresh (.compStart (.GeneratorExp elt [⟨tg, iter, ifs, 0⟩] scope gpos) 0 (.ref it) .none (genEnv scope (cloFrom X.env.cells scope.names []) s3.heap.objs.size cv builtinsNs X.env))), toks := s3.toks + 1 + 1 + 1, heap := h'.push go } : Shared) = s5
  have h5 : s5.heap = h'.push go := by rw [← hs5]
  have sz5 : s5.heap.objs.size = h'.objs.size + 1 := by rw [h5, Heap.size_push]
  have kp : Kept s3 s5 := by
    refine ⟨by rw [← hs5], by rw [← hs5]; exact AllBare.push I3.bare rfl, fun b o e => ?_⟩
    rw [h5]
    exact Heap.get?_push_of_some _ (hs'.extBut b o (Nat.ne_of_lt (Heap.lt_size e)) (Heap.get?_push_of_some _ e))
  have hga : s5.heap.get? h'.objs.size = some go := by rw [h5, ← hgo]; exact Heap.get?_push_size _ rfl
  have isg : ∀ h : Heap, h.get? h'.objs.size = some go → h.IsGen h'.objs.size s3.gens.size := fun h e => ⟨go, _, _, e, by rw [← hgo], by rw [← hgo], by rw [← hgo]⟩
  have hgs : s5.gens[s3.gens.size]? = some (.fresh (.compStart (.GeneratorExp elt [⟨tg, iter, ifs, 0⟩] scope gpos) 0 (.ref it) .none (genEnv scope (cloFrom X.env.cells scope.names []) s3.heap.objs.size cv builtinsNs X.env))) := by
    rw [← hs5]
    exact Array.getElem?_push_size ..
  have hns : s5.heap.Ns s3.heap.objs.size (fun y => if y = ".0" then some (.ref it) else none) := by rw [h5]; exact hn'.push _
  have nstk : ∀ b, s3.heap.objs.size ≤ b → b ∉ frs X.stack := fun b hb z => by
    rcases List.mem_cons.mp (I3.stkSub _ z) with z | z
    · exact absurd (Nat.lt_of_lt_of_le I3.lt (show s3.heap.objs.size ≤ X.env.locals by rw [← z]; exact hb)) (Nat.lt_irrefl _)
    · exact I3.nofs hb z
  have lt35 : s3.heap.objs.size < s5.heap.objs.size := by omega
  refine ⟨s3, H3, fp, ⟨h'.objs.size, s3.gens.size, _, rfl, (show s3.heap.objs.size ≤ h'.objs.size by omega), (show h'.objs.size < s5.heap.objs.size by omega), isg _ hga, hgs, kp.os, kp.bare, I3.nolimit.keeps kp.keep, kp.keep, fun A' Sx s6 hrA hfrA hSx hk6 hSo hos hba => ?_⟩, fun H' s' ho hb hu hok => I3.call' (ch := fp) ho hu hok hb fun b hb => ⟨(f3 b hb).1.2.2.2.1, (f3 b hb).1.2.1, (f3 b hb).1.2.2.2.2.1, (f3 b hb).1.2.2.2.2.2⟩⟩
  have k6 : Kept s3 s6 := ⟨hos, hba, fun b o e => hk6 b o (kp.keep b o e)⟩
  have rm : Room k (A'.over (.compLoop (.GeneratorExp elt [⟨tg, iter, ifs, 0⟩] scope gpos) 0 (.ref it) .none (genEnv scope (cloFrom X.env.cells scope.names []) s3.heap.objs.size cv builtinsNs X.env)) []) := by
    have h1 := hrA.dp
    have h2 := hrA.un
    refine ⟨hrA.hd, ?_, ?_⟩
    · show A'.depth + 0 + 1 + 3 * k + 5 < _
      omega
    · show A'.units + 0 + 3 + 16 * k + 200 < _
      omega
  have Ig := gen_start I3 ok S hN f3 rm.hd (over_gen hfrA) k6 (hns.keeps hk6)
  obtain ⟨cS, heS⟩ := hSo
  have Sx3 : s3.heap.objs.size ≤ Sx := Nat.le_trans (Nat.le_of_lt lt35) hSx
  have SxC : Sx ≠ s3.heap.objs.size := Nat.ne_of_gt (Nat.lt_of_lt_of_le lt35 hSx)
  have aS : h'.objs.size ≠ Sx := Nat.ne_of_lt (Nat.lt_of_lt_of_le (by omega) hSx)
  have hG : GI (gcx X (A'.over (.compLoop (.GeneratorExp elt [⟨tg, iter, ifs, 0⟩] scope gpos) 0 (.ref it) .none (genEnv scope (cloFrom X.env.cells scope.names []) s3.heap.objs.size cv builtinsNs X.env)) []) s3 H3 (genEnv scope (cloFrom X.env.cells scope.names []) s3.heap.objs.size cv builtinsNs X.env) fp) Sx [(h'.objs.size, go)] [] (wipe σ (own.map (·.2))) H3 s6 := by
    refine ⟨#[], cS, .nil, Ig.pins_of fun p hp => ?_⟩
    rcases List.mem_cons.mp hp with z | z
    · rw [z]
      exact ⟨heS, I3.hok.fresh Sx3, SxC, nstk _ Sx3, fun v q => by cases q⟩
    · rw [List.mem_singleton.mp z]
      exact ⟨hk6 _ _ hga, I3.hok.fresh (by omega), by show h'.objs.size ≠ s3.heap.objs.size; omega, nstk _ (by omega), fun v q => by rw [← hgo] at q; cases q⟩
  have st6 : tn 0 s6.heap := T.keep _ _ _ st3 fun b hb o e => k6.keep b o e
  have hAp : Apart (gcx X (A'.over (.compLoop (.GeneratorExp elt [⟨tg, iter, ifs, 0⟩] scope gpos) 0 (.ref it) .none (genEnv scope (cloFrom X.env.cells scope.names []) s3.heap.objs.size cv builtinsNs X.env)) []) s3 H3 (genEnv scope (cloFrom X.env.cells scope.names []) s3.heap.objs.size cv builtinsNs X.env) fp) Sx := by
    refine ⟨Sx3, SxC, fun x c e z => ?_⟩
    obtain ⟨v, q⟩ := Ig.cell x c e
    have hcl : X.env.cells.lookup x = some c := by
      have e : (cloFrom X.env.cells scope.names []).lookup x = some c := e
      rcases cloFrom_mem (PySem.mem_of_lookup e) with hm | ⟨h1, rfl⟩
      · cases hm
      · obtain ⟨c, hc⟩ := hfree _ h1 rfl
        rw [hc]
        rfl
    obtain ⟨v3, q3⟩ := I3.cell x c hcl
    exact absurd (Nat.lt_of_lt_of_le q3.lt (by rw [z]; exact Sx3)) (Nat.lt_irrefl _)
  refine seg_start T st6 (seg_loopC T hc rfl S.co (fun z => ?_) (fun z => ?_) aS hAp isg (hg _ _ _ _ _ _ rm) (ht _ _ _ _ _ _ rm) (he _ _ _ _ _ _ rm) turn m0 sizeLine 0 [] _ _ H3 (Nat.add_zero _) hG st6 nf w0)
  · have q : h'.objs.size < s3.heap.objs.size := (f3 _ z).2
    omega
  · exact absurd (Nat.lt_of_lt_of_le (f3 _ z).2 Sx3) (Nat.lt_irrefl _)
theorem pe_tupX {c P : Addr} {elt tg iter : Expr} {ifs : List Expr} {gpos p pos : Pos} {scope : Scope} {own : List (Str × Nat)} {wi : TI} {g : TG} {tt : TT} {te : TE} {k : Nat}
    (hr : Room (k + 2) X.A) (hgl : Gl X "tuple") (hm : X.mg "tuple" = none) (hc : X.calm = true) (hN : X.N.Nodup) (TB : GxR.TabB X.base X.mg c P) (hcode : X.env.code = .ref c) (ok : BlkOk X.N X.env.scope scope own) (S : GenK scope) (hi : PI X tg iter wi)
    (hg : ∀ (A : Around) (s : Shared) (H : Hp) (C : Addr) (code : Value) (fp : List Addr), Room k A → PG (gcx X A s H (genEnv scope (cloFrom X.env.cells scope.names []) C code builtinsNs X.env) fp) tg g)
    (ht : ∀ (A : Around) (s : Shared) (H : Hp) (C : Addr) (code : Value) (fp : List Addr), Room k A → PTs (gcx X A s H (genEnv scope (cloFrom X.env.cells scope.names []) C code builtinsNs X.env) fp) ifs tt)
    (he : ∀ (A : Around) (s : Shared) (H : Hp) (C : Addr) (code : Value) (fp : List Addr), Room k A → PE (gcx X A s H (genEnv scope (cloFrom X.env.cells scope.names []) C code builtinsNs X.env) fp) elt te)
    (hs : ∀ v, genFold iter X.env v = pure v := by intro _; rfl)
    (hst : starEach [.GeneratorExp elt [⟨tg, iter, ifs, 0⟩] scope gpos] X.env = (false, eval (.GeneratorExp elt [⟨tg, iter, ifs, 0⟩] scope gpos) X.env) :: starEach [] X.env := by rfl) :
    PE X (.Call (.Name "tuple" p) [.GeneratorExp elt [⟨tg, iter, ifs, 0⟩] scope gpos] [] pos) (tCX wi g tt te (own.map (·.2)) P) := by
  refine ⟨fun pins s σ H Q I h => ?_⟩
  refine wpAny_Call_Name_kw (ld_blt I hgl hm boot_tuple (PyProof.Rows.callWith_type1 ?_ hst (by rfl)))
  rw [hst]
  show wpAny _ _ (spliced ((false, _) :: backTo pos (starEach [] X.env))) _ _ s
  refine Calls.spliced_cons (wpAny_mono (gen_made (k := k) (hr.mono (by omega)) hc hN TB hcode ok S hi hs hg ht he I h) (fun v s5 hx => ?_) fun _ _ e => e)
  obtain ⟨s3, H3, fp, hG, back⟩ := hx
  refine Calls.spliced_nil (call_tuple_new hr I.ok.frames hG fun s' acc H' ys q1 q2 q3 q4 q5 q6 q7 => ?_)
  have J := back H' s' q3 q4 q5 q6
  refine ⟨.ref s'.heap.objs.size, _, J.laid (t' := s'.toks) (o := .tup ys) (fun b u e => Heap.get?_push_of_some _ e) (Nat.le_refl _) ⟨q2, acc.toList, q1, ?_⟩, rfl, q7 _ (J.hok.fresh (Nat.le_refl _))⟩
  have z := IsTup.new s'.heap acc
  simpa using z
end
/-! ### turns, by source -/
theorem tup_tup {K : PySem.W.Frag} {a : Addr} {xs : List V} {g : TG} {tt : TT} {te : TE} {vs : List Nat} {σ : L2.St} {Q : List V → Hp → Prop} {H2 : Hp} (hz : xs.length ≤ sizeLine) (Pv : Nat → List V → Hp → Prop) (h0 : Pv 0 [] H2) (hl : ∀ i ys H, i ≤ xs.length → Pv i ys H → SqT K H a xs) (hy : ∀ i ys H, Pv i ys H → ys.length ≤ i)
    (hs : ∀ i x ys H, xs[i]? = some x → Pv i ys H → g x (wipe σ vs) H fun σ2 H2 => wipe σ2 vs = wipe σ vs ∧ tt σ2 H2 fun b H3 => if b = true then te σ2 H3 fun y H4 => Pv (i + 1) (ys ++ [y]) H4 else Pv (i + 1) ys H3) (hd : ∀ ys H, Pv xs.length ys H → Q ys H) :
    ∃ W : Nat → Nat → List V → Hp → Prop, (∃ m, W 0 m [] H2) ∧ TurnsC (Itt K a) g tt te vs σ Q W := by
  refine ⟨fun i m ys H => m = xs.length - i ∧ i ≤ xs.length ∧ Pv i ys H, ⟨xs.length, by simp, Nat.zero_le _, h0⟩, ?_⟩
  rintro i m ys H ⟨rfl, hi, p⟩
  have q := hl i ys H hi p
  by_cases hlt : i < xs.length
  · refine .inr ⟨⟨xs, xs[i], q, by simp [hlt]⟩, Nat.lt_of_le_of_lt (hy i ys H p) (Nat.lt_of_lt_of_le hlt hz), Pv (i + 1), fun ys' H' p' => ⟨xs.length - (i + 1), by omega, rfl, hlt, p'⟩, fun x H' y => ?_⟩
    obtain ⟨e, y⟩ := y
    subst e
    exact hs i x ys _ (y xs q) p
  · have e : i = xs.length := by omega
    subst e
    exact .inl ⟨⟨xs, q, Nat.le_refl _⟩, hd ys H p⟩
end Gx

set_option Elab.async false
set_option linter.all false
set_option maxRecDepth 100000
set_option maxHeartbeats 4000000
/-! runs, by themselves -/
namespace Dt
open PySem PySem.Spec PyProof.Rows L2
abbrev Log := List (Int × List Int)
abbrev Res := Bool × List Int × Log
def stand (tb : List (List Int)) (tk : List Int) : List Int := List.zipWith atF tb tk
def leftOf (tb : List (List Int)) (tk : List Int) : List (List Int) := List.zipWith (fun ds k => ds.drop (k.toNat + 1)) tb tk
def firstB (fs : List Int) (wds : List WD) (ord : List Int) : Option Int := ord.find? fun n => brkAt fs wds n.toNat
def plc (wds : List WD) (k : Int) : List Int := (wds.getD k.toNat ([], [])).1
def lenAt (tb : List (List Int)) (p : Int) : Int := ((tb.getD p.toNat []).length : Int)
def canN (tb : List (List Int)) (tk ps : List Int) : Bool := ps.all fun p => decide (atF tk p + 1 < lenAt tb p)
def bumpA (tk ps : List Int) : List Int := ps.foldl (fun t p => bump t p.toNat) tk
def goR (wds : List WD) (tb : List (List Int)) (ord : List Int) : Nat → List Int → Log → Option Res
  | 0, _, _ => none
  | n + 1, tk, log => match firstB (stand tb tk) wds ord with
    | none => some (true, stand tb tk, log)
    | some k => if canN tb tk (plc wds k) = true then goR wds tb ord n (bumpA tk (plc wds k)) (log ++ [(k, huesA (stand tb tk) (plc wds k))]) else some (false, stand tb tk, log)
structure GoodT (many hues : Int) (tb : List (List Int)) : Prop where
  len : (tb.length : Int) = many
  one : ∀ ds ∈ tb, 1 ≤ ds.length
  few : ∀ ds ∈ tb, ds.length ≤ 1000
  hue : ∀ ds ∈ tb, ∀ h ∈ ds, 0 ≤ h ∧ h < hues
structure GoodK (tb : List (List Int)) (tk : List Int) : Prop where
  len : tk.length = tb.length
  at_ : ∀ p : Nat, p < tb.length → 0 ≤ tk.getD p 0 ∧ tk.getD p 0 < ((tb.getD p []).length : Int)
/-- an order of so many numbers -/
structure GoodO (n : Nat) (ord : List Int) : Prop where
  mem : ∀ z ∈ ord, 0 ≤ z ∧ z < (n : Int)
  all : ∀ k : Nat, k < n → (k : Int) ∈ ord
  len : ord.length ≤ n
def zerosI (n : Nat) : List Int := List.replicate n 0
def rem (tb : List (List Int)) (tk : List Int) : Nat := (List.zipWith (fun (ds : List Int) (k : Int) => ds.length - 1 - k.toNat) tb tk).sum
def runOf (wds : List WD) (tb : List (List Int)) (ord : List Int) : Option Res := goR wds tb ord (rem tb (zerosI tb.length) + 1) (zerosI tb.length) []
theorem getD_get {α : Type} {l : List α} {p : Nat} {d : α} (h : p < l.length) : l.getD p d = l[p] := by
  rw [List.getD_eq_getElem?_getD, List.getElem?_eq_getElem h]
  rfl
theorem getD_mem {α : Type} {l : List α} {p : Nat} {d : α} (h : p < l.length) : l.getD p d ∈ l := by
  rw [getD_get h]
  exact List.getElem_mem h
theorem bump_get (tk : List Int) (p i : Nat) : (bump tk p).getD i 0 = if i = p ∧ p < tk.length then tk.getD p 0 + 1 else tk.getD i 0 := by
  unfold bump
  rw [List.getD_eq_getElem?_getD, List.getElem?_set]
  by_cases h : p = i
  · subst h
    by_cases h2 : p < tk.length
    · rw [if_pos rfl, if_pos h2, if_pos ⟨rfl, h2⟩]
      rfl
    · rw [if_pos rfl, if_neg h2, if_neg (fun z => h2 z.2), List.getD_eq_getElem?_getD, List.getElem?_eq_none (by omega)]
  · rw [if_neg h, if_neg (fun z => h z.1.symm), List.getD_eq_getElem?_getD]
theorem zeros_get (n p : Nat) : (zerosI n).getD p 0 = 0 := by
  unfold zerosI
  rw [List.getD_eq_getElem?_getD, List.getElem?_replicate]
  split <;> rfl
theorem zeros_good {many hues : Int} {tb : List (List Int)} (g : GoodT many hues tb) : GoodK tb (zerosI tb.length) := by
  refine ⟨by simp [zerosI], fun p hp => ?_⟩
  rw [zeros_get]
  have := g.one _ (getD_mem (d := []) hp)
  omega
theorem stand_len {tb : List (List Int)} {tk : List Int} (g : GoodK tb tk) : (stand tb tk).length = tb.length := by
  unfold stand
  rw [List.length_zipWith, g.len, Nat.min_self]
theorem left_len {tb : List (List Int)} {tk : List Int} (g : GoodK tb tk) : (leftOf tb tk).length = tb.length := by
  unfold leftOf
  rw [List.length_zipWith, g.len, Nat.min_self]
theorem stand_get {tb : List (List Int)} {tk : List Int} (g : GoodK tb tk) {p : Nat} (hp : p < tb.length) : (stand tb tk)[p]? = some (atF (tb.getD p []) (tk.getD p 0)) := by
  have h2 : p < tk.length := by rw [g.len]; exact hp
  unfold stand
  rw [List.getElem?_zipWith, List.getElem?_eq_getElem hp, List.getElem?_eq_getElem h2, getD_get hp, getD_get h2]
theorem left_get {tb : List (List Int)} {tk : List Int} (g : GoodK tb tk) {p : Nat} (hp : p < tb.length) : (leftOf tb tk)[p]? = some ((tb.getD p []).drop ((tk.getD p 0).toNat + 1)) := by
  have h2 : p < tk.length := by rw [g.len]; exact hp
  unfold leftOf
  rw [List.getElem?_zipWith, List.getElem?_eq_getElem hp, List.getElem?_eq_getElem h2, getD_get hp, getD_get h2]
theorem stand_good {many hues : Int} {tb : List (List Int)} {tk : List Int} (gt : GoodT many hues tb) (g : GoodK tb tk) : GoodF many hues (stand tb tk) := by
  refine ⟨by rw [stand_len g]; exact gt.len, fun h hh => ?_⟩
  obtain ⟨p, hp, e⟩ := List.getElem_of_mem hh
  rw [stand_len g] at hp
  have e2 := stand_get g hp
  rw [List.getElem?_eq_getElem (by rw [stand_len g]; exact hp), e] at e2
  cases e2
  have a := g.at_ p hp
  have m : (tk.getD p 0).toNat < (tb.getD p []).length := by omega
  exact gt.hue _ (getD_mem hp) _ (getD_mem m)
theorem first_some {fs : List Int} {wds : List WD} {ord : List Int} {k : Int} (h : firstB fs wds ord = some k) : k ∈ ord ∧ brkAt fs wds k.toNat = true := ⟨List.mem_of_find?_eq_some h, by
  have z := List.find?_some (p := fun n : Int => brkAt fs wds n.toNat) (l := ord) (a := k) h
  exact z⟩
theorem wd_of {wds : List WD} {k : Int} (h0 : 0 ≤ k) (h1 : k < (wds.length : Int)) : ∃ wd, wds[k.toNat]? = some wd ∧ plc wds k = wd.1 := by
  have h : k.toNat < wds.length := by omega
  exact ⟨wds[k.toNat], List.getElem?_eq_getElem h, by rw [plc, getD_get h]⟩
/-! ### one more draw at a place -/
theorem rem_bump : ∀ {tb : List (List Int)} {tk : List Int} {p : Nat}, p < tb.length → p < tk.length → 0 ≤ tk.getD p 0 → tk.getD p 0 + 1 < ((tb.getD p []).length : Int) → rem tb (bump tk p) + 1 = rem tb tk
  | [], _, _, h, _, _, _ => absurd h (Nat.not_lt_zero _)
  | _ :: _, [], _, _, h, _, _ => absurd h (Nat.not_lt_zero _)
  | ds :: r, k :: q, 0, _, _, h0, h1 => by
    simp only [List.getD_cons_zero] at h0 h1
    unfold rem bump
    simp only [List.getD_cons_zero, List.set_cons_zero, List.zipWith_cons_cons, List.sum_cons]
    omega
  | ds :: r, k :: q, p + 1, hp, hq, h0, h1 => by
    simp only [List.getD_cons_succ] at h0 h1
    have ih := rem_bump (tb := r) (tk := q) (p := p) (Nat.lt_of_succ_lt_succ hp) (Nat.lt_of_succ_lt_succ hq) h0 h1
    unfold rem bump at ih ⊢
    simp only [List.getD_cons_succ, List.set_cons_succ, List.zipWith_cons_cons, List.sum_cons] at ih ⊢
    omega
theorem good_bump {tb : List (List Int)} {tk : List Int} {p : Nat} (g : GoodK tb tk) (hp : p < tb.length) (h : tk.getD p 0 + 1 < ((tb.getD p []).length : Int)) : GoodK tb (bump tk p) := by
  refine ⟨by rw [bump_len]; exact g.len, fun i hi => ?_⟩
  have a := g.at_ i hi
  rw [bump_get]
  by_cases e : i = p
  · subst e
    rw [if_pos ⟨rfl, by rw [g.len]; exact hp⟩]
    omega
  · rw [if_neg (fun z => e z.1)]
    exact a
theorem stand_bump {tb : List (List Int)} {tk : List Int} {p : Nat} {x : Int} {r : List Int} (g : GoodK tb tk) (hp : p < tb.length) (h : (leftOf tb tk)[p]? = some (x :: r)) : stand tb (bump tk p) = (stand tb tk).set p x ∧ leftOf tb (bump tk p) = (leftOf tb tk).set p r ∧ tk.getD p 0 + 1 < ((tb.getD p []).length : Int) := by
  rw [left_get g hp] at h
  have a := g.at_ p hp
  have e := Option.some.inj h
  have hl : (tk.getD p 0).toNat + 1 < (tb.getD p []).length := by
    have z := congrArg List.length e
    rw [List.length_drop, List.length_cons] at z
    omega
  have hc : tk.getD p 0 + 1 < ((tb.getD p []).length : Int) := by omega
  have g2 := good_bump g hp hc
  have en : (tk.getD p 0 + 1).toNat = (tk.getD p 0).toNat + 1 := by omega
  have ex : (tb.getD p []).getD ((tk.getD p 0).toNat + 1) 0 = x := by
    have z := congrArg (fun l : List Int => l[0]?) e
    simp only [List.getElem?_drop, List.getElem?_cons_zero, Nat.add_zero] at z
    rw [List.getD_eq_getElem?_getD, z]
    rfl
  have er : (tb.getD p []).drop ((tk.getD p 0).toNat + 1 + 1) = r := by
    have z := congrArg (fun l : List Int => l.drop 1) e
    simp only [List.drop_drop, List.drop_succ_cons, List.drop_zero] at z
    exact z
  refine ⟨?_, ?_, hc⟩
  · refine List.ext_getElem? fun i => ?_
    rw [List.getElem?_set]
    by_cases hi : i < tb.length
    · rw [stand_get g2 hi, bump_get]
      by_cases e2 : p = i
      · subst e2
        rw [if_pos ⟨rfl, by rw [g.len]; exact hp⟩, if_pos rfl, if_pos (by rw [stand_len g]; exact hp)]
        unfold atF
        rw [en, ex]
      · rw [if_neg (fun z => e2 z.1.symm), if_neg e2, stand_get g hi]
    · rw [List.getElem?_eq_none (by rw [stand_len g2]; omega), if_neg (by omega), List.getElem?_eq_none (by rw [stand_len g]; omega)]
  · refine List.ext_getElem? fun i => ?_
    rw [List.getElem?_set]
    by_cases hi : i < tb.length
    · rw [left_get g2 hi, bump_get]
      by_cases e2 : p = i
      · subst e2
        rw [if_pos ⟨rfl, by rw [g.len]; exact hp⟩, if_pos rfl, if_pos (by rw [left_len g]; exact hp), en, er]
      · rw [if_neg (fun z => e2 z.1.symm), if_neg e2, left_get g hi]
    · rw [List.getElem?_eq_none (by rw [left_len g2]; omega), if_neg (by omega), List.getElem?_eq_none (by rw [left_len g]; omega)]
/-! ### one more draw at some places -/
structure Can (tb : List (List Int)) (tk ps : List Int) : Prop where
  nd : ps.Nodup
  pl : ∀ p ∈ ps, 0 ≤ p ∧ p < (tb.length : Int)
  nx : ∀ p ∈ ps, atF tk p + 1 < lenAt tb p
theorem Can.tail {tb : List (List Int)} {tk ps : List Int} {p : Int} (c : Can tb tk (p :: ps)) : Can tb (bump tk p.toNat) ps := by
  refine ⟨(List.nodup_cons.mp c.nd).2, fun q hq => c.pl q (List.mem_cons_of_mem _ hq), fun q hq => ?_⟩
  have hp := c.pl p List.mem_cons_self
  have hq2 := c.pl q (List.mem_cons_of_mem _ hq)
  have hne : q ≠ p := fun z => (List.nodup_cons.mp c.nd).1 (z ▸ hq)
  have := c.nx q (List.mem_cons_of_mem _ hq)
  unfold atF at this ⊢
  rw [bump_get, if_neg (fun z => hne (by omega))]
  exact this
theorem bumpA_good : ∀ {ps : List Int} {tb : List (List Int)} {tk : List Int}, GoodK tb tk → Can tb tk ps → GoodK tb (bumpA tk ps) ∧ rem tb (bumpA tk ps) + ps.length = rem tb tk
  | [], _, _, g, _ => ⟨g, rfl⟩
  | p :: ps, tb, tk, g, c => by
    have hp := c.pl p List.mem_cons_self
    have hn := c.nx p List.mem_cons_self
    have hpn : p.toNat < tb.length := by omega
    have g2 := good_bump g hpn hn
    have a := g.at_ _ hpn
    have r := rem_bump (tb := tb) (tk := tk) hpn (by rw [g.len]; exact hpn) a.1 hn
    obtain ⟨i1, i2⟩ := bumpA_good (ps := ps) g2 c.tail
    refine ⟨i1, ?_⟩
    show rem tb (bumpA (bump tk p.toNat) ps) + (ps.length + 1) = rem tb tk
    omega
theorem can_of {many hues : Int} {wds : List WD} {tb : List (List Int)} {tk : List Int} {k : Int} {wd : WD} (gr : GoodR many hues wds) (nd : ∀ wd ∈ wds, wd.1.Nodup) (gt : GoodT many hues tb) (hw : wds[k.toNat]? = some wd) (he : plc wds k = wd.1) (h : canN tb tk (plc wds k) = true) : Can tb tk (plc wds k) := by
  have hm := List.mem_of_getElem? hw
  rw [he] at h ⊢
  refine ⟨nd wd hm, fun p hp => ?_, fun p hp => ?_⟩
  · have := (gr.each wd hm).pl p hp
    have := gt.len
    omega
  · exact of_decide_eq_true (List.all_eq_true.mp h p hp)
def LogOk (wds : List WD) (log : Log) : Prop := ∀ e ∈ log, 0 ≤ e.1 ∧ e.1 < (wds.length : Int) ∧ ∃ wd, wds[e.1.toNat]? = some wd ∧ e.2 ∈ wd.2
theorem LogOk.nil (wds : List WD) : LogOk wds [] := fun _ h => nomatch h
theorem LogOk.snoc {wds : List WD} {log : Log} {fs : List Int} {k : Int} {wd : WD} (h : LogOk wds log) (h0 : 0 ≤ k) (h1 : k < (wds.length : Int)) (hw : wds[k.toNat]? = some wd) (he : plc wds k = wd.1) (hb : brkAt fs wds k.toNat = true) : LogOk wds (log ++ [(k, huesA fs (plc wds k))]) := by
  intro e hm
  rcases List.mem_append.mp hm with z | z
  · exact h e z
  · rw [List.mem_singleton.mp z]
    refine ⟨h0, h1, wd, hw, ?_⟩
    rw [brkAt_of hw] at hb
    rw [he]
    exact of_decide_eq_true hb
theorem goR_total {many hues : Int} {wds : List WD} {tb : List (List Int)} {ord : List Int} (gr : GoodR many hues wds) (nd : ∀ wd ∈ wds, wd.1.Nodup) (gt : GoodT many hues tb) (go : GoodO wds.length ord) :
    ∀ (n : Nat) (tk : List Int) (log : Log), GoodK tb tk → LogOk wds log → rem tb tk < n → ∃ R, goR wds tb ord n tk log = some R ∧ GoodF many hues R.2.1 ∧ LogOk wds R.2.2 ∧ R.2.2.length ≤ log.length + rem tb tk
  | 0, _, _, _, _, h => absurd h (Nat.not_lt_zero _)
  | n + 1, tk, log, g, hl, h => by
    cases e : firstB (stand tb tk) wds ord with
    | none => exact ⟨(true, stand tb tk, log), by simp only [goR, e], stand_good gt g, hl, Nat.le_add_right _ _⟩
    | some k =>
      obtain ⟨hk, hb⟩ := first_some e
      obtain ⟨k0, k1⟩ := go.mem k hk
      obtain ⟨wd, hw, he⟩ := wd_of k0 k1
      cases c : canN tb tk (plc wds k) with
      | false => exact ⟨(false, stand tb tk, log), by simp only [goR, e, c]; rfl, stand_good gt g, hl, Nat.le_add_right _ _⟩
      | true =>
        have cn := can_of gr nd gt hw he c
        obtain ⟨g2, r2⟩ := bumpA_good g cn
        have one := (gr.each wd (List.mem_of_getElem? hw)).one
        rw [← he] at one
        obtain ⟨R, hR, a1, a2, a3⟩ := goR_total gr nd gt go n (bumpA tk (plc wds k)) (log ++ [(k, huesA (stand tb tk) (plc wds k))]) g2 (hl.snoc k0 k1 hw he hb) (by omega)
        refine ⟨R, by simp only [goR, e, c, if_true]; exact hR, a1, a2, ?_⟩
        rw [List.length_append, List.length_singleton] at a3
        omega
theorem rem_le : ∀ (tb : List (List Int)) (tk : List Int) (b : Nat), (∀ ds ∈ tb, ds.length ≤ b) → rem tb tk ≤ tb.length * b
  | [], _, _, _ => by simp [rem]
  | _ :: _, [], _, _ => by simp [rem]
  | ds :: r, k :: q, b, h => by
    have ih := rem_le r q b fun d hd => h d (List.mem_cons_of_mem _ hd)
    have a := h ds List.mem_cons_self
    unfold rem at ih ⊢
    rw [List.zipWith_cons_cons, List.sum_cons, List.length_cons, Nat.succ_mul]
    omega
theorem runOf_some {many hues : Int} {wds : List WD} {tb : List (List Int)} {ord : List Int} (gr : GoodR many hues wds) (nd : ∀ wd ∈ wds, wd.1.Nodup) (gt : GoodT many hues tb) (go : GoodO wds.length ord) :
    ∃ R, runOf wds tb ord = some R ∧ GoodF many hues R.2.1 ∧ LogOk wds R.2.2 ∧ R.2.2.length ≤ 6000 := by
  obtain ⟨R, h1, h2, h3, h4⟩ := goR_total gr nd gt go (rem tb (zerosI tb.length) + 1) (zerosI tb.length) [] (zeros_good gt) (LogOk.nil _) (Nat.lt_succ_self _)
  refine ⟨R, h1, h2, h3, ?_⟩
  have a := rem_le tb (zerosI tb.length) 1000 gt.few
  have b := gt.len
  have c := gr.m6
  rw [List.length_nil] at h4
  have : tb.length ≤ 6 := by omega
  omega
/-! ### the first broken one, as the law finds it -/
theorem broL_iff {fs : List Int} {wds : List WD} {n : Nat} {z : Int} : z ∈ broL fs wds n ↔ 0 ≤ z ∧ z < (n : Int) ∧ brkAt fs wds z.toNat = true := by
  unfold broL
  rw [List.mem_map]
  constructor
  · rintro ⟨k, hk, rfl⟩
    obtain ⟨h1, h2⟩ := List.mem_filter.mp hk
    have := List.mem_range.mp h1
    exact ⟨by omega, by omega, by rw [Int.toNat_natCast]; exact h2⟩
  · rintro ⟨h0, h1, h2⟩
    exact ⟨z.toNat, List.mem_filter.mpr ⟨List.mem_range.mpr (by omega), h2⟩, by omega⟩
theorem first_filter {fs : List Int} {wds : List WD} {ord : List Int} (go : GoodO wds.length ord) : (ord.filter fun z => decide (z ∈ broL fs wds wds.length)).head? = firstB fs wds ord := by
  unfold firstB
  rw [List.head?_filter]
  have e : ∀ l : List Int, (∀ z ∈ l, 0 ≤ z ∧ z < (wds.length : Int)) → l.find? (fun z => decide (z ∈ broL fs wds wds.length)) = l.find? (fun n => brkAt fs wds n.toNat) := by
    intro l
    induction l with
    | nil => intro _; rfl
    | cons a r ih =>
      intro h
      have ha := h a List.mem_cons_self
      have hq : decide (a ∈ broL fs wds wds.length) = brkAt fs wds a.toNat := by
        cases c : brkAt fs wds a.toNat with
        | true => exact decide_eq_true (broL_iff.mpr ⟨ha.1, ha.2, c⟩)
        | false => exact decide_eq_false fun z => by rw [(broL_iff.mp z).2.2] at c; cases c
      rw [List.find?_cons, List.find?_cons, hq, ih fun z hz => h z (List.mem_cons_of_mem _ hz)]
  exact e ord go.mem
theorem first_none {fs : List Int} {wds : List WD} {ord : List Int} (go : GoodO wds.length ord) : firstB fs wds ord = none ↔ broL fs wds wds.length = [] := by
  constructor
  · intro h
    rw [List.eq_nil_iff_forall_not_mem]
    intro z hz
    obtain ⟨h0, h1, h2⟩ := broL_iff.mp hz
    have hm := go.all z.toNat (by omega)
    have e : ((z.toNat : Nat) : Int) = z := by omega
    rw [e] at hm
    have := List.find?_eq_none.mp h z hm
    exact this h2
  · intro h
    refine List.find?_eq_none.mpr fun z hz c => ?_
    have hm := go.mem z hz
    have : z ∈ broL fs wds wds.length := broL_iff.mpr ⟨hm.1, hm.2, c⟩
    rw [h] at this
    cases this
end Dt

set_option Elab.async false
set_option linter.all false
set_option maxRecDepth 100000
set_option maxHeartbeats 4000000
/-! calls, frames, tables, logs: over no program -/
namespace Rd
open PySem PySem.Spec PyProof.Rows L2 Dt
theorem same_upd {H : Hp} {p : Addr} {o : HO} (h : H p = none) : Same H (upd H p o) := fun b x e => by
  rw [upd_ne (ne_of_none e h)]
  exact e
def Cal (P : Program) (w : World) (K : PySem.W.Frag) (mg : Str → Option Value) (base : Heap) (k : Nat) (x : Str) (ps : List Str) (sp : Sp) : Prop :=
  ∃ (f : Addr) (fd : FuncData), FnOk P w K mg base CX0 k f fd ps sp ∧ mg x = some (.ref f) ∧ PySem.W.keepIn K (.ref f) = true ∧ Binds K fd ps []
theorem pe_cal {X : Cx} {k : Nat} {x : Str} {ps : List Str} {sp : Sp} {p pos : Pos} {e : Expr} {es : List Expr} {t : TA} (C : Cal X.prog X.w X.K X.mg X.base k x ps sp) (hr : Room k X.A) (hg : Gl X x)
    (ha : PA X (e :: es) t) (hdb : (x == ("__debug__" : Str)) = false := by decide) (he : starEach (e :: es) X.env = (false, eval e X.env) :: starEach es X.env := by rfl) (hpl : (backTo pos (starEach es X.env)).any (·.1) = false := by rfl) :
    PE X (.Call (.Name x p) (e :: es) [] pos) (tCall sp [] E0 t) := by
  obtain ⟨f, fd, F, hm, hk, hb⟩ := C
  exact pe_call F hr hg hm hk hb .nil pass0 ha hdb he hpl
/-- a def whose code object is known -/
structure FunC (K : PySem.W.Frag) (x qual : Str) (st : Stmt) (f : Addr) (fd : FuncData) (cdv : Value) : Prop where
  ex : ∃ (oc : Value) (od : Option Addr) (kV doc pm : Value) (an : Option Addr) (ct : Value) (osl : Array (Option Value)),
    fd = PySem.W.fnOf x qual (defArgs st) (defBody st) (defScope st) .none kV doc pm an cdv ct ∧ K.lookup f = some ⟨oc, od, .func fd, osl⟩ ∧ PySem.W.codeIn K cdv qual = true
theorem FunC.ok {P : Program} {w : World} {K : PySem.W.Frag} {mg : Str → Option Value} {base : Heap} {x qual : Str} {st : Stmt} {f : Addr} {fd : FuncData} {cdv : Value} {N ps : List Str} {k : Nat} {sp : Sp} (F : FunC K x qual st f fd cdv) (S : FnScope N ps (defScope st)) (len : ∀ vs H Q E, sp vs H Q E → vs.length = ps.length)
    (body : ∀ (A : Around) (outer : List Env) (s : Shared) (H : Hp) (vs : List V) (Q : VK) (E : XK), Room k (A.deeper (envOfC qual (defScope st) s.heap.objs.size f cdv)) → sp vs H Q E →
      ∃ t, PSs (cxOf CX0 P w K mg base N qual (defScope st) f cdv A outer s H E).nox (defBody st) t ∧ t { nx := fun _ H' => Q .non H', rt := Q } (start N vs) H) : FnOk P w K mg base CX0 (k + 1) f fd ps sp := by
  obtain ⟨oc, od, kV, doc, pm, an, ct, osl, rfl, lk, hcd⟩ := F.ex
  refine fn_of lk hcd S len fun A outer s H vs Q E hr hsp => ?_
  obtain ⟨t, h, q⟩ := body A outer s H vs Q E hr hsp
  exact ⟨t, h.nox, q⟩
theorem units65 {A : Around} {k : Nat} (hr : Room k A) : A.units + 65 < cLine := by have := hr.un; omega
/-! ### frames but for some tables -/
def Tabs (Ps : List Addr) (H : Hp) : Prop := ∀ P ∈ Ps, GxR.TabG H P
def FrS (Ps : List Addr) (H H' : Hp) : Prop := (∀ b o, b ∉ Ps → H b = some o → H' b = some o) ∧ Tabs Ps H'
/-- tuples and lists stay -/
def Seqs (H H' : Hp) : Prop := Tups H H' ∧ ∀ b xs, H b = some (.lst xs) → H' b = some (.lst xs)
theorem Seqs.refl (H : Hp) : Seqs H H := ⟨Tups.refl H, fun _ _ e => e⟩
theorem Seqs.trans {H H1 H2 : Hp} (a : Seqs H H1) (b : Seqs H1 H2) : Seqs H H2 := ⟨a.1.trans b.1, fun c xs e => b.2 c xs (a.2 c xs e)⟩
theorem seqs_same {H H' : Hp} (s : Same H H') : Seqs H H' := ⟨tups_same s, fun b xs e => s b _ e⟩
theorem FrS.refl {Ps : List Addr} {H : Hp} (t : Tabs Ps H) : FrS Ps H H := ⟨fun _ _ _ e => e, t⟩
theorem FrS.trans {Ps : List Addr} {H H1 H2 : Hp} (a : FrS Ps H H1) (b : FrS Ps H1 H2) : FrS Ps H H2 := ⟨fun x o n e => b.1 x o n (a.1 x o n e), b.2⟩
theorem FrS.of {Ps : List Addr} {H H' : Hp} (t : Tabs Ps H) (s : Same H H') : FrS Ps H H' := ⟨fun b o _ e => s b o e, fun P hP => let ⟨ps, h, q⟩ := t P hP; ⟨ps, s _ _ h, q⟩⟩
theorem FrS.same {Ps : List Addr} {H H1 H2 : Hp} (a : FrS Ps H H1) (s : Same H1 H2) : FrS Ps H H2 := a.trans (FrS.of a.2 s)
theorem FrS.one {Ps : List Addr} {P : Addr} {H H' : Hp} (t : Tabs Ps H) (hP : P ∈ Ps) (f : GxR.Tabbed P H H') : FrS Ps H H' := by
  refine ⟨fun b o n e => ?_, fun Q hQ => ?_⟩
  · rw [f.2 b (fun z => n (by rw [z]; exact hP))]
    exact e
  · by_cases z : Q = P
    · rw [z]; exact f.1
    · obtain ⟨ps, h, q⟩ := t Q hQ
      exact ⟨ps, by rw [f.2 Q z]; exact h, q⟩
theorem Tabs.tup {Ps : List Addr} {H : Hp} (t : Tabs Ps H) {b : Addr} {xs : List V} (e : H b = some (.tup xs)) : b ∉ Ps := fun z => by
  obtain ⟨ps, h, _⟩ := t b z
  rw [e] at h
  cases h
theorem Tabs.lst {Ps : List Addr} {H : Hp} (t : Tabs Ps H) {b : Addr} {xs : List V} (e : H b = some (.lst xs)) : b ∉ Ps := fun z => by
  obtain ⟨ps, h, _⟩ := t b z
  rw [e] at h
  cases h
theorem FrS.seqs {Ps : List Addr} {H H' : Hp} (t : Tabs Ps H) (f : FrS Ps H H') : Seqs H H' := ⟨fun b xs e => f.1 b _ (t.tup e) e, fun b xs e => f.1 b _ (t.lst e) e⟩
theorem FrS.tups {Ps : List Addr} {H H' : Hp} (t : Tabs Ps H) (f : FrS Ps H H') : Tups H H' := (f.seqs t).1
theorem FrS.free {Ps : List Addr} {H H' : Hp} {b : Addr} (f : FrS Ps H H') (h : H' b = none) : H b = none := by
  cases e : H b with
  | none => rfl
  | some o =>
    by_cases z : b ∈ Ps
    · obtain ⟨ps, q, _⟩ := f.2 b z
      rw [q] at h
      cases h
    · rw [f.1 b o z e] at h
      cases h
/-- a store at a place that wasn't there at first -/
theorem FrS.put {Ps : List Addr} {H H1 : Hp} {b : Addr} {o : HO} (a : FrS Ps H H1) (n : H b = none) (nb : b ∉ Ps) : FrS Ps H (upd H1 b o) :=
  ⟨fun x u nx e => by rw [upd_ne (ne_of_none e n)]; exact a.1 x u nx e, fun P hP => by
    obtain ⟨ps, h, q⟩ := a.2 P hP
    exact ⟨ps, by rw [upd_ne (fun z : P = b => nb (by rw [← z]; exact hP))]; exact h, q⟩⟩
theorem Tabs.new {Ps : List Addr} {H : Hp} (t : Tabs Ps H) {b : Addr} (n : H b = none) : b ∉ Ps := fun z => by
  obtain ⟨ps, h, _⟩ := t b z
  rw [n] at h
  cases h
theorem Tabs.same {Ps : List Addr} {H H' : Hp} (t : Tabs Ps H) (s : Same H H') : Tabs Ps H' := (FrS.of t s).2
theorem Tabs.put {Ps : List Addr} {H : Hp} (t : Tabs Ps H) {b : Addr} {o : HO} (nb : b ∉ Ps) : Tabs Ps (upd H b o) := fun P hP => by
  obtain ⟨ps, h, q⟩ := t P hP
  exact ⟨ps, by rw [upd_ne (fun z : P = b => nb (by rw [← z]; exact hP))]; exact h, q⟩
theorem free_same {H H' : Hp} {b : Addr} (s : Same H H') (h : H' b = none) : H b = none := s.free h
theorem same_put {H H1 : Hp} {b : Addr} {o : HO} (s : Same H H1) (n : H b = none) : Same H (upd H1 b o) := fun x u e => by
  rw [upd_ne (ne_of_none e n)]
  exact s x u e
/-! ### numbers, lists -/
theorem cut_from {α : Type} (f : α → V) (l : List α) (k : Nat) : cutV (l.map f) (some (k : Int)) none = (l.drop k).map f := by
  unfold cutV
  rw [HT.sIx_nat, HT.sIx_none, List.length_map, ← List.map_drop]
  by_cases h : k ≤ l.length
  · rw [Nat.min_eq_left h, List.take_of_length_le (by rw [List.length_map, List.length_drop]; exact Nat.le_refl _)]
  · have h2 : l.drop k = [] := List.drop_eq_nil_of_le (by omega)
    rw [Nat.min_eq_right (by omega), Nat.sub_self, List.take_zero, h2]
    rfl
theorem cut_to {α : Type} (f : α → V) (l : List α) (k : Nat) : cutV (l.map f) none (some (k : Int)) = (l.take k).map f := by
  unfold cutV
  rw [HT.sIx_nat, HT.sIx_none, List.length_map, List.drop_zero, Nat.sub_zero, ← List.map_take]
  by_cases h : k ≤ l.length
  · rw [Nat.min_eq_left h]
  · rw [Nat.min_eq_right (by omega), List.take_of_length_le (Nat.le_refl _), List.take_of_length_le (by omega)]
theorem log_small {m : Int} (h0 : 0 ≤ m) (h : m < 4294967296) : m.natAbs.log2 < 9000 := by
  have e : m.natAbs < 2 ^ 32 := by omega
  by_cases z : m.natAbs = 0
  · rw [z]; decide
  · have := (Nat.log2_lt z).mpr e
    omega
def toI : V → Int
  | .int i => i
  | _ => 0
def rowAt (H : Hp) (t : Addr) : List Int := match H t with
  | some (.tup xs) => xs.map toI
  | _ => []
theorem rowAt_of {H : Hp} {t : Addr} {row : Dt.Row} (h : IsRow H t row) : rowAt H t = row := by
  unfold rowAt
  rw [show H t = some (.tup (row.map V.int)) from h]
  show (row.map V.int).map toI = row
  rw [List.map_map]
  have e : (toI ∘ V.int) = id := by funext z; rfl
  rw [e, List.map_id]
def rngI (m : Int) : List Int := (List.range m.toNat).map fun (i : Nat) => (i : Int)
theorem rngI_len (m : Int) : (rngI m).length = m.toNat := by
  unfold rngI
  rw [List.length_map, List.length_range]
theorem rngI_mem {m z : Int} (h : z ∈ rngI m) : 0 ≤ z ∧ z < m := by
  obtain ⟨i, hi, rfl⟩ := List.mem_map.mp h
  have := List.mem_range.mp hi
  omega
theorem rngI_all {m : Int} {k : Nat} (h : (k : Int) < m) : (k : Int) ∈ rngI m := List.mem_map.mpr ⟨k, List.mem_range.mpr (by omega), rfl⟩
theorem rngI_nodup (m : Int) : (rngI m).Nodup := by
  unfold rngI
  refine List.Pairwise.map _ (fun a b h z => h ?_) (List.nodup_range (n := m.toNat))
  omega
theorem rgV_eq (m : Int) : rgV 0 m = (rngI m).map V.int := by
  unfold rgV rngI
  rw [List.map_map]
  have e : (m - 0).toNat = m.toNat := by rw [Int.sub_zero]
  rw [e]
  refine List.map_congr_left fun i _ => ?_
  show V.int (0 + (i : Int)) = V.int (i : Int)
  rw [Int.zero_add]
theorem map_erase {α : Type} (f : α → V) (ls : List α) (k : Nat) : (ls.map f).eraseIdx k = (ls.eraseIdx k).map f := by
  induction ls generalizing k with
  | nil => rfl
  | cons a r ih => cases k with
    | zero => rfl
    | succ k => simp [ih]
theorem erase_perm {α : Type} : ∀ (l : List α) (k : Nat) (h : k < l.length), (l[k] :: l.eraseIdx k).Perm l
  | [], k, h => absurd h (Nat.not_lt_zero _)
  | a :: r, 0, _ => List.Perm.refl _
  | a :: r, k + 1, h => by
    have ih := erase_perm r k (Nat.lt_of_succ_lt_succ h)
    show ((r[k]'(Nat.lt_of_succ_lt_succ h)) :: a :: r.eraseIdx k).Perm (a :: r)
    exact (List.Perm.swap a _ _).trans (List.Perm.cons a ih)
theorem map_get {α : Type} {f : α → V} {l : List α} {i : Nat} {x : V} (h : (l.map f)[i]? = some x) : ∃ a, l[i]? = some a ∧ x = f a := by
  rw [List.getElem?_map] at h
  cases e : l[i]? with
  | none => rw [e] at h; cases h
  | some a => rw [e] at h; cases h; exact ⟨a, rfl, rfl⟩
theorem map_at {α : Type} {f : α → V} {l : List α} {i : Nat} {a : α} (h : l[i]? = some a) : (l.map f)[i]? = some (f a) := by
  rw [List.getElem?_map, h]
  rfl
theorem atI_of {α : Type} {f : α → V} {l : List α} {p : Int} {a : α} (h0 : 0 ≤ p) (h : l[p.toNat]? = some a) : atI (l.map f) p = some (f a) := by
  have e : p = ((p.toNat : Nat) : Int) := by omega
  have q := atI_nat (xs := l.map f) (j := p.toNat) (v := f a) (map_at h)
  rw [← e] at q
  exact q
theorem ixN_of {n : Nat} {p : Int} (h0 : 0 ≤ p) (h1 : p < n) : ixN n p = some p.toNat := by
  unfold ixN
  rw [if_pos h0, if_pos h1]
theorem take_snoc {α : Type} {l : List α} {i : Nat} {a : α} (h : l[i]? = some a) : l.take (i + 1) = l.take i ++ [a] := by
  rw [List.take_add_one, h]
  rfl
/-! ### the tape -/
def Tape (H : Hp) (tp : Addr) : Prop := ∃ b c : Int, H tp = some (.lst [.int b, .int c]) ∧ 0 ≤ b ∧ 0 ≤ c ∧ c ≤ 2147483647
def Taped (tp : Addr) (H H' : Hp) : Prop := (∀ b o, b ≠ tp → H b = some o → H' b = some o) ∧ Tape H' tp
theorem Tape.same {H H' : Hp} {tp : Addr} (h : Tape H tp) (s : Same H H') : Tape H' tp := let ⟨b, c, h1, r⟩ := h; ⟨b, c, s _ _ h1, r⟩
theorem Tape.seqs {H H' : Hp} {tp : Addr} (h : Tape H tp) (s : Seqs H H') : Tape H' tp := let ⟨b, c, h1, r⟩ := h; ⟨b, c, s.2 _ _ h1, r⟩
theorem Tape.new {H : Hp} {tp b : Addr} (h : Tape H tp) (n : H b = none) : b ≠ tp := fun z => by
  obtain ⟨_, _, h1, _⟩ := h
  rw [z, h1] at n
  cases n
theorem Tape.put {H : Hp} {tp b : Addr} {o : HO} (h : Tape H tp) (n : b ≠ tp) : Tape (upd H b o) tp := let ⟨x, c, h1, r⟩ := h; ⟨x, c, by rw [upd_ne n.symm]; exact h1, r⟩
theorem Taped.refl {H : Hp} {tp : Addr} (h : Tape H tp) : Taped tp H H := ⟨fun _ _ _ e => e, h⟩
theorem Taped.trans {H H1 H2 : Hp} {tp : Addr} (a : Taped tp H H1) (b : Taped tp H1 H2) : Taped tp H H2 := ⟨fun x o n e => b.1 x o n (a.1 x o n e), b.2⟩
theorem Taped.same {H H1 H2 : Hp} {tp : Addr} (a : Taped tp H H1) (s : Same H1 H2) : Taped tp H H2 := ⟨fun x o n e => s _ _ (a.1 x o n e), a.2.same s⟩
theorem Taped.put {H H1 : Hp} {tp b : Addr} {o : HO} (a : Taped tp H H1) (n : H b = none) (nb : b ≠ tp) : Taped tp H (upd H1 b o) :=
  ⟨fun x u nx e => by rw [upd_ne (ne_of_none e n)]; exact a.1 x u nx e, a.2.put nb⟩
theorem Taped.tups {H H' : Hp} {tp : Addr} (t : Tape H tp) (a : Taped tp H H') : Tups H H' := fun b xs e => by
  obtain ⟨_, _, h1, _⟩ := t
  exact a.1 b _ (fun z => by rw [z, h1] at e; cases e) e
theorem Taped.free {H H' : Hp} {tp b : Addr} (a : Taped tp H H') (n : H' b = none) : H b = none := by
  cases e : H b with
  | none => rfl
  | some o =>
    have m := a.2.new n
    rw [a.1 b o m e] at n
    cases n
theorem Taped.tabs {Ps : List Addr} {H H' : Hp} {tp : Addr} (t : Tape H tp) (a : Taped tp H H') (tt : Tabs Ps H) : Tabs Ps H' := fun P hP => by
  obtain ⟨ps, h, q⟩ := tt P hP
  obtain ⟨_, _, h1, _⟩ := t
  exact ⟨ps, a.1 P _ (fun z => by rw [z, h1] at h; cases h) h, q⟩
/-- len of a list or a tuple -/
def rLen (K : PySem.W.Frag) : List V → Hp → VK → Prop := fun xs H Q => ∃ p ys, xs = [.ref p] ∧ (SqL K H p ys ∨ SqT K H p ys) ∧ Q (.int (ys.length : Nat)) H
/-! ### pairs of ints, written -/
def pairsT : List (Int × Int) → TA
  | [] => tNil
  | p :: r => tCons (tTup (tCons (tC (.int p.1)) (tCons (tC (.int p.2)) tNil))) (pairsT r)
def IsPr (H : Hp) (t : Addr) (p : Int × Int) : Prop := H t = some (.tup [.int p.1, .int p.2])
theorem pairs_read {σ : L2.St} : ∀ (prs : List (Int × Int)) (H : Hp) (k : List V → Hp → Prop), (∀ ts H', Same H H' → Paired (IsPr H') ts prs → k (ts.map V.ref) H') → pairsT prs σ H k
  | [], H, k, h => h [] H (fun _ _ e => e) .nil
  | p :: r, H, k, h => by
    refine ⟨(by show 2 ≤ sizeLine; decide), fun t nt => ?_⟩
    refine pairs_read r _ _ fun ts H' sm pr => ?_
    exact h (t :: ts) H' ((same_upd nt).trans sm) (.cons (sm _ _ upd_same) pr)
theorem pairs_list {σ : L2.St} {prs : List (Int × Int)} {H : Hp} {Q : VK} (hl : prs.length ≤ 1000) (h : ∀ l ts H', Same H H' → H l = none → H' l = some (.lst (ts.map V.ref)) → Paired (IsPr H') ts prs → Q (.ref l) H') : tLst (pairsT prs) σ H Q := by
  refine pairs_read prs H _ fun ts H' sm pr => ?_
  refine ⟨by rw [List.length_map, pairedLen pr]; exact Nat.le_of_lt (small1000 hl), fun l nl => ?_⟩
  have sl := same_upd (o := .lst (ts.map V.ref)) nl
  exact h l ts _ (sm.trans sl) (sm.free nl) upd_same (pairedMap (fun _ _ e => sl _ _ e) pr)
theorem pairs_asg {i : Nat} {prs : List (Int × Int)} {D : Ends} {σ : L2.St} {H : Hp} (hl : prs.length ≤ 1000) (h : ∀ l ts H', Same H H' → H l = none → H' l = some (.lst (ts.map V.ref)) → Paired (IsPr H') ts prs → D.nx (σ.set i (some (.ref l))) H') : tAsg (tLst (pairsT prs)) (gName i) D σ H := by
  unfold tAsg
  exact pairs_list hl fun l ts H' a b c d => h l ts H' a b c d
theorem pairs_set {i : Nat} {prs : List (Int × Int)} {u : TS} {D : Ends} {σ : L2.St} {H : Hp} (hl : prs.length ≤ 1000) (h : ∀ l ts H', Same H H' → H l = none → H' l = some (.lst (ts.map V.ref)) → Paired (IsPr H') ts prs → u D (σ.set i (some (.ref l))) H') : tSeq (tAsg (tLst (pairsT prs)) (gName i)) u D σ H := pairs_asg hl h
/-! ### things popped at drawn places -/
structure Pops {α : Type} (f : α → V) (tp : Addr) (H : Hp) (l D : Addr) (zs0 : List α) (i : Nat) (H5 : Hp) (acc ls : List α) : Prop where
  fr : Taped tp H H5
  hL : H5 l = some (.lst (ls.map f))
  hD : H5 D = some (.lst (acc.map f))
  la : acc.length = i
  ll : ls.length + i = zs0.length
  pm : (acc ++ ls).Perm zs0
theorem pop_step {α : Type} {f : α → V} {tp : Addr} {H : Hp} {l D : Addr} {zs0 : List α} {i : Nat} {H5 H6 : Hp} {acc ls : List α} {d : Int} (nl : H l = none) (nlt : l ≠ tp) (nD : H D = none) (nDt : D ≠ tp) (nlD : l ≠ D) (hz : zs0.length ≤ 999) (p : Pops f tp H l D zs0 i H5 acc ls) (D6 : Taped tp H5 H6) (d0 : 0 ≤ d) (d1 : d < (ls.length : Int)) :
    ∃ y, (ls.map f)[d.toNat]? = some y ∧ H6 l = some (.lst (ls.map f)) ∧ seqIndex? d (ls.map f).length = some d.toNat ∧ ∃ acc', upd H6 l (.lst ((ls.map f).eraseIdx d.toNat)) D = some (.lst acc') ∧ acc'.length < sizeLine ∧ ∃ acc2 ls2, Pops f tp H l D zs0 (i + 1) (upd (upd H6 l (.lst ((ls.map f).eraseIdx d.toNat))) D (.lst (acc' ++ [y]))) acc2 ls2 := by
  have hd : d.toNat < ls.length := by omega
  have hL6 := D6.1 l _ nlt p.hL
  have hD6 := D6.1 D _ nDt p.hD
  have la := p.la
  have ll := p.ll
  refine ⟨f ls[d.toNat], map_at (List.getElem?_eq_getElem hd), hL6, seqIndex_of d0 (by rw [List.length_map]; exact d1), acc.map f, ?_, ?_, acc ++ [ls[d.toNat]], ls.eraseIdx d.toNat, ?_, ?_, ?_, ?_, ?_, ?_⟩
  · rw [upd_ne (Ne.symm nlD)]
    exact hD6
  · rw [List.length_map]
    exact small1000 (by omega)
  · exact ((p.fr.trans D6).put nl nlt).put nD nDt
  · rw [upd_ne nlD, upd_same, map_erase]
  · rw [upd_same, List.map_append]
    rfl
  · rw [List.length_append, la]
    rfl
  · rw [List.length_eraseIdx_of_lt hd]
    omega
  · refine List.Perm.trans ?_ p.pm
    rw [List.append_assoc]
    exact List.Perm.append_left acc (erase_perm ls _ hd)
/-! ### lists of rows -/
def IsFills (H : Hp) (l : Addr) (fss : List (List Int)) : Prop := ∃ as : List Addr, H l = some (.lst (as.map V.ref)) ∧ Paired (IsRow H) as fss
theorem pairedSnoc {α β : Type} {F : α → β → Prop} {a : α} {b : β} : ∀ {l : List α} {m : List β}, Paired F l m → F a b → Paired F (l ++ [a]) (m ++ [b])
  | _, _, .nil, h => .cons h .nil
  | _, _, .cons h t, k => .cons h (pairedSnoc t k)
theorem pairedApp {α β : Type} {F : α → β → Prop} {l2 : List α} {m2 : List β} : ∀ {l : List α} {m : List β}, Paired F l m → Paired F l2 m2 → Paired F (l ++ l2) (m ++ m2)
  | _, _, .nil, h => h
  | _, _, .cons h t, k => .cons h (pairedApp t k)
theorem yes_if {σ : L2.St} {H : Hp} {A B : Hp → Prop} (h : A H) : tYes σ H (fun b H3 => if b = true then A H3 else B H3) := by
  dsimp only [tYes]
  rw [if_pos rfl]
  exact h
theorem longer_at {hues j : Nat} (f : List Int) (h : j < hues) : (longer hues f)[j]? = some (f ++ [(j : Int)]) := by
  unfold longer
  rw [List.getElem?_map, List.getElem?_range h]
  rfl
theorem pairedZip {α β : Type} {F : α → β → Prop} : ∀ {l : List α} {m : List β}, Paired F l m → ∃ zs : List (α × β), zs.map (·.1) = l ∧ zs.map (·.2) = m ∧ ∀ z ∈ zs, F z.1 z.2
  | _, _, .nil => ⟨[], rfl, rfl, fun _ h => nomatch h⟩
  | a :: _, b :: _, .cons h t => by
    obtain ⟨zs, h1, h2, h3⟩ := pairedZip t
    refine ⟨(a, b) :: zs, by rw [List.map_cons, h1], by rw [List.map_cons, h2], fun z hz => ?_⟩
    rcases List.mem_cons.mp hz with e | e
    · rw [e]; exact h
    · exact h3 z e
theorem pairedOf {α β : Type} {F : α → β → Prop} {g : α → β} : ∀ {l : List α}, (∀ a ∈ l, F a (g a)) → Paired F l (l.map g)
  | [], _ => .nil
  | a :: r, h => .cons (h a List.mem_cons_self) (pairedOf fun b hb => h b (List.mem_cons_of_mem _ hb))
theorem longer_nodup (hues : Nat) (f : List Int) : (longer hues f).Nodup := by
  unfold longer
  refine List.Pairwise.map _ (fun a b h z => h ?_) (List.nodup_range (n := hues))
  have := List.append_cancel_left z
  simp only [List.cons.injEq, and_true] at this
  omega
theorem flat_nodup {hues : Nat} : ∀ {l : List (List Int)}, l.Nodup → (l.flatMap (longer hues)).Nodup
  | [], _ => by simp
  | f :: r, h => by
    rw [List.flatMap_cons]
    have hh := List.nodup_cons.mp h
    refine List.nodup_append.mpr ⟨longer_nodup hues f, flat_nodup hh.2, fun a ha b hb e => ?_⟩
    obtain ⟨i, _, rfl⟩ := List.mem_map.mp ha
    obtain ⟨g, hg, hb2⟩ := List.mem_flatMap.mp hb
    obtain ⟨j, _, rfl⟩ := List.mem_map.mp hb2
    have e2 : f = g := by
      have := congrArg List.dropLast e
      simpa using this
    exact hh.1 (e2 ▸ hg)
theorem fill_nodup (hues : Nat) : ∀ n : Nat, (fillL hues n).Nodup
  | 0 => by simp [fillL]
  | n + 1 => flat_nodup (fill_nodup hues n)
/-- places rising, no row twice -/
structure Neat (wd : WD) : Prop where
  pl : wd.1.Pairwise (· < ·)
  rows : wd.2.Nodup
theorem Neat.nd {wd : WD} (h : Neat wd) : wd.1.Nodup := h.pl.imp fun z e => by omega
theorem rise_of {ps : List Int} (h : ps.Pairwise (· ≤ ·)) (n : ps.Nodup) : ps.Pairwise (· < ·) := by
  have z := List.Pairwise.and h n
  exact z.imp fun ⟨a, b⟩ => by omega
/-! ### tables of draws -/
abbrev IsInts (H : Hp) (a : Addr) (ns : List Int) : Prop := H a = some (.lst (ns.map V.int))
/-- a list of lists of ints, none of them in Av -/
def IsTab (Av : Addr → Prop) (H : Hp) (ta : Addr) (tb : List (List Int)) : Prop := ∃ das : List Addr, H ta = some (.lst (das.map V.ref)) ∧ ¬ Av ta ∧ (∀ d ∈ das, ¬ Av d) ∧ Paired (IsInts H) das tb
theorem IsTab.mono {Av : Addr → Prop} {H H' : Hp} {ta : Addr} {tb : List (List Int)} (h : IsTab Av H ta tb) (k : ∀ b xs, ¬ Av b → H b = some (.lst xs) → H' b = some (.lst xs)) : IsTab Av H' ta tb := by
  obtain ⟨das, h1, h2, h3, h4⟩ := h
  refine ⟨das, k _ _ h2 h1, h2, h3, ?_⟩
  clear h1
  induction h4 with
  | nil => exact .nil
  | @cons a b l m e t ih => exact .cons (k _ _ (h3 a List.mem_cons_self) e) (ih fun d hd => h3 d (List.mem_cons_of_mem _ hd))
theorem IsTab.seqs {Av : Addr → Prop} {H H' : Hp} {ta : Addr} {tb : List (List Int)} (h : IsTab Av H ta tb) (s : Seqs H H') : IsTab Av H' ta tb := h.mono fun b xs _ e => s.2 b xs e
theorem IsTab.weak {Av Bv : Addr → Prop} {H : Hp} {ta : Addr} {tb : List (List Int)} (h : IsTab Av H ta tb) (k : ∀ b, Bv b → Av b) : IsTab Bv H ta tb := let ⟨das, h1, h2, h3, h4⟩ := h; ⟨das, h1, fun z => h2 (k _ z), fun d hd z => h3 d hd (k _ z), h4⟩
theorem IsTab.none {Av : Addr → Prop} {H : Hp} {ta : Addr} {tb : List (List Int)} (h : IsTab Av H ta tb) : IsTab (fun _ => False) H ta tb := h.weak fun _ z => z.elim
abbrev Old (H : Hp) : Addr → Prop := fun b => H b ≠ none
theorem IsTab.taped {tp : Addr} {H H' : Hp} {ta : Addr} {tb : List (List Int)} (h : IsTab (· = tp) H ta tb) (f : Taped tp H H') : IsTab (· = tp) H' ta tb := h.mono fun b xs n e => f.1 b _ n e
theorem Tape.old {H : Hp} {tp : Addr} (h : Tape H tp) : ∀ b, b = tp → Old H b := fun b e z => by
  obtain ⟨_, _, h1, _⟩ := h
  rw [e, h1] at z
  cases z
theorem dpTabs {K : PySem.W.Frag} {H : Hp} : ∀ {das : List Addr} {tb : List (List Int)}, Paired (IsInts H) das tb → DpAll K H (das.map V.ref) (tb.map fun l => .list (l.map .int))
  | _, _, .nil => .nil
  | _, _, .cons h t => .cons (.lst (.inl (.inl h)) (dpInts _)) (dpTabs t)
theorem dpTab {K : PySem.W.Frag} {Av : Addr → Prop} {H : Hp} {ta : Addr} {tb : List (List Int)} (h : IsTab Av H ta tb) : Dp K H (.ref ta) (listsD tb) := by
  obtain ⟨das, h1, _, _, h4⟩ := h
  exact .lst (.inl (.inl h1)) (dpTabs h4)
/-! ### logs and what a run tells -/
def IsEnt (H : Hp) (e : Addr) (x : Int × List Int) : Prop := ∃ r, H e = some (.tup [.int x.1, .ref r]) ∧ IsRow H r x.2
def IsLog (H : Hp) (la : Addr) (log : Log) : Prop := ∃ es : List Addr, H la = some (.lst (es.map V.ref)) ∧ Paired (IsEnt H) es log
theorem IsEnt.mono {H H' : Hp} {e : Addr} {x : Int × List Int} (h : IsEnt H e x) (t : Tups H H') : IsEnt H' e x := let ⟨r, h1, h2⟩ := h; ⟨r, t _ _ h1, t _ _ h2⟩
theorem IsLog.seqs {H H' : Hp} {la : Addr} {log : Log} (h : IsLog H la log) (s : Seqs H H') : IsLog H' la log := let ⟨es, h1, h2⟩ := h; ⟨es, s.2 _ _ h1, pairedMap (fun _ _ e => e.mono s.1) h2⟩
theorem IsLog.keep {H H' : Hp} {la : Addr} {log : Log} (h : IsLog H la log) (t : Tups H H') (k : ∀ xs, H la = some (.lst xs) → H' la = some (.lst xs)) : IsLog H' la log := let ⟨es, h1, h2⟩ := h; ⟨es, k _ h1, pairedMap (fun _ _ e => e.mono t) h2⟩
def entD (x : Int × List Int) : PyData := .tuple [.int x.1, rowD x.2]
def logD (log : Log) : PyData := .list (log.map entD)
def endS (b : Bool) : Str := if b = true then "kept" else "spent"
def resD (R : Res) : PyData := .tuple [.str (endS R.1), rowD R.2.1, logD R.2.2]
theorem dpEnts {K : PySem.W.Frag} {H : Hp} : ∀ {es : List Addr} {log : Log}, Paired (IsEnt H) es log → DpAll K H (es.map V.ref) (log.map entD)
  | _, _, .nil => .nil
  | _, _, .cons ⟨r, h1, h2⟩ t => .cons (.tup (.inl (.inl h1)) (.cons (.int _) (.cons (dpRow h2) .nil))) (dpEnts t)
theorem dpLog {K : PySem.W.Frag} {H : Hp} {la : Addr} {log : Log} (h : IsLog H la log) : Dp K H (.ref la) (logD log) := let ⟨es, h1, h2⟩ := h; .lst (.inl (.inl h1)) (dpEnts h2)
/-- what a run tells: the tuple, the filling and the log's list, which is new -/
def IsRes (H0 H : Hp) (t : Addr) (R : Res) : Prop := ∃ fa la, H t = some (.tup [.str (endS R.1), .ref fa, .ref la]) ∧ IsRow H fa R.2.1 ∧ IsLog H la R.2.2 ∧ H0 la = none
theorem dpRes {K : PySem.W.Frag} {H0 H : Hp} {t : Addr} {R : Res} (h : IsRes H0 H t R) : Dp K H (.ref t) (resD R) := let ⟨fa, la, h1, h2, h3, _⟩ := h; .tup (.inl (.inl h1)) (.cons (.str _) (.cons (dpRow h2) (.cons (dpLog h3) .nil)))
theorem IsRes.seqs {H0 H H' : Hp} {t : Addr} {R : Res} (h : IsRes H0 H t R) (s : Seqs H H') : IsRes H0 H' t R := let ⟨fa, la, h1, h2, h3, h4⟩ := h; ⟨fa, la, s.1 _ _ h1, s.1 _ _ h2, h3.seqs s, h4⟩
theorem IsRes.old {H0 H1 H : Hp} {t : Addr} {R : Res} (h : IsRes H1 H t R) (k : ∀ b, H1 b = none → H0 b = none) : IsRes H0 H t R := let ⟨fa, la, h1, h2, h3, h4⟩ := h; ⟨fa, la, h1, h2, h3, k _ h4⟩
/-- each log's pair is fine -/
theorem fine_ent {many hues : Int} {wds : List WD} (gr : GoodR many hues wds) {x : Int × List Int} (h : 0 ≤ x.1 ∧ x.1 < (wds.length : Int) ∧ ∃ wd, wds[x.1.toNat]? = some wd ∧ x.2 ∈ wd.2) : Fine (entD x) 3 80 := by
  obtain ⟨h0, h1, wd, hw, hr⟩ := h
  have e8 := gr.eight
  have g := gr.each wd (List.mem_of_getElem? hw)
  have a := fine_int (i := x.1) h0 (by omega)
  have b : Fine (rowD x.2) 2 64 := fine_row (fun z hz => ⟨((g.row _ hr).2 z hz).1, by have := ((g.row _ hr).2 z hz).2; have := gr.h4; omega⟩) (by have := (g.row _ hr).1; have := g.three; omega)
  exact (Fine.tuple (FineAll.cons (a.mono (by omega) (Nat.le_refl _)) (FineAll.cons b (FineAll.nil _)))).mono (Nat.le_refl _) (by omega)
theorem fine_log {many hues : Int} {wds : List WD} (gr : GoodR many hues wds) {log : Log} (h : LogOk wds log) (hl : log.length ≤ 6000) : Fine (logD log) 4 600000 :=
  (Fine.list (fineAll_map log fun x hx => fine_ent gr (h x hx))).mono (Nat.le_refl _) (by omega)
theorem fine_end (b : Bool) : Fine (.str (endS b)) 1 64 := by
  cases b <;> exact ⟨by decide +kernel, by decide +kernel, by decide +kernel, by decide +kernel, by decide +kernel, by decide +kernel⟩
theorem fine_res {many hues : Int} {wds : List WD} (gr : GoodR many hues wds) {R : Res} (gf : GoodF many hues R.2.1) (h : LogOk wds R.2.2) (hl : R.2.2.length ≤ 6000) : Fine (resD R) 5 700000 :=
  (Fine.tuple (FineAll.cons ((fine_end R.1).mono (by omega) (Nat.le_refl _)) (FineAll.cons ((fine_fill gf gr.m6 gr.h4).mono (by omega) (Nat.le_refl _)) (FineAll.cons (fine_log gr h hl) (FineAll.nil _))))).mono (Nat.le_refl _) (by omega)
theorem fine_tabT {many hues : Int} {tb : List (List Int)} (m6 : many ≤ 6) (h4 : hues ≤ 4) (g : GoodT many hues tb) : Fine (listsD tb) 3 100000 := by
  have hl := g.len
  refine (Fine.list (fineAll_map tb (n := 2) (w := 15000) fun l hm => (fine_ints fun z hz => ⟨(g.hue l hm z hz).1, by have := (g.hue l hm z hz).2; omega⟩).mono (Nat.le_refl _) (by have := g.few l hm; omega))).mono (Nat.le_refl _) ?_
  have : tb.length ≤ 6 := by omega
  omega
/-! ### equality of data -/
theorem eqv_str (a b : Str) : PyData.eqv (.str a) (.str b) = (a == b) := by simp [PyData.eqv]
end Rd
namespace Gx
open PySem PySem.Spec PyProof.Rows L2 GenW
theorem tup_zipL {K : PySem.W.Frag} {a b : Addr} {xs ys : List V} {g : TG} {tt : TT} {te : TE} {vs : List Nat} {σ : L2.St} {Q : List V → Hp → Prop} {H2 : Hp} (hl : xs.length = ys.length) (hz : xs.length ≤ sizeLine) (Pv : Nat → List V → Hp → Prop) (h0 : Pv 0 [] H2) (hq : ∀ i zs H, Pv i zs H → SqL K H a xs ∧ SqL K H b ys) (hy : ∀ i zs H, Pv i zs H → zs.length ≤ i)
    (hs : ∀ i x y T zs H, xs[i]? = some x → ys[i]? = some y → Pv i zs H → H T = none → g (.ref T) (wipe σ vs) (upd H T (.tup [x, y])) fun σ2 H2 => wipe σ2 vs = wipe σ vs ∧ tt σ2 H2 fun b H3 => if b = true then te σ2 H3 fun y H4 => Pv (i + 1) (zs ++ [y]) H4 else Pv (i + 1) zs H3) (hd : ∀ zs H, Pv xs.length zs H → Q zs H) :
    ∃ W : Nat → Nat → List V → Hp → Prop, (∃ m, W 0 m [] H2) ∧ TurnsC (Itz K a b) g tt te vs σ Q W := by
  refine ⟨fun i m zs H => m = xs.length - i ∧ i ≤ xs.length ∧ Pv i zs H, ⟨xs.length, by simp, Nat.zero_le _, h0⟩, ?_⟩
  rintro i m zs H ⟨rfl, hi, p⟩
  obtain ⟨qx, qy⟩ := hq i zs H p
  by_cases hlt : i < xs.length
  · have hx : xs[i]? = some xs[i] := List.getElem?_eq_getElem hlt
    have hlt2 : i < ys.length := by omega
    have hy2 : ys[i]? = some ys[i] := List.getElem?_eq_getElem hlt2
    refine .inr ⟨⟨xs, ys, _, _, qx, qy, hx, hy2⟩, Nat.lt_of_le_of_lt (hy i zs H p) (Nat.lt_of_lt_of_le hlt hz), Pv (i + 1), fun zs' H' p' => ⟨xs.length - (i + 1), by omega, rfl, hlt, p'⟩, fun v H' y => ?_⟩
    obtain ⟨T, x', y', rfl, hT, rfl, f1, f2⟩ := y
    exact hs i x' y' T zs H (f1 xs qx) (f2 ys qy) p hT
  · have e : i = xs.length := by omega
    subst e
    exact .inl ⟨⟨xs, ys, qx, qy, Or.inl (Nat.le_refl _)⟩, hd zs H p⟩
end Gx
namespace Rd
open PySem PySem.Spec PyProof.Rows L2 Dt
def leftAt (tb : List (List Int)) (tk : List Int) (p : Int) : List Int := (leftOf tb tk).getD p.toNat []
theorem leftAt_get {tb : List (List Int)} {tk : List Int} {p : Int} (g : GoodK tb tk) (h0 : 0 ≤ p) (h1 : p < (tb.length : Int)) : (leftOf tb tk)[p.toNat]? = some (leftAt tb tk p) := by
  have h : p.toNat < (leftOf tb tk).length := by rw [left_len g]; omega
  rw [leftAt, getD_get h]
  exact List.getElem?_eq_getElem h
theorem leftAt_nil {tb : List (List Int)} {tk : List Int} {p : Int} (g : GoodK tb tk) (h0 : 0 ≤ p) (h1 : p < (tb.length : Int)) : (leftAt tb tk p = []) ↔ ¬ (atF tk p + 1 < lenAt tb p) := by
  have hp : p.toNat < tb.length := by omega
  have e := left_get g hp
  rw [leftAt_get g h0 h1] at e
  rw [Option.some.inj e, List.drop_eq_nil_iff]
  have a := g.at_ _ hp
  unfold atF lenAt
  omega
theorem eqv_ints_nil (l : List Int) : PyData.eqv (.list (l.map .int)) (.list []) = decide (l = []) := by
  cases l with
  | nil => simp [PyData.eqv, PyData.eqvAll]
  | cons a r => simp [PyData.eqv, PyData.eqvAll]
theorem any_left {tb : List (List Int)} {tk : List Int} (g : GoodK tb tk) : ∀ ps : List Int, (∀ p ∈ ps, 0 ≤ p ∧ p < (tb.length : Int)) → ((ps.map fun p => PyData.list ((leftAt tb tk p).map .int)).any fun z => PyData.eqv z (.list [])) = !canN tb tk ps
  | [], _ => rfl
  | p :: r, h => by
    have hp := h p List.mem_cons_self
    rw [List.map_cons, List.any_cons, any_left g r fun q hq => h q (List.mem_cons_of_mem _ hq), eqv_ints_nil]
    unfold canN
    rw [List.all_cons, Bool.not_and]
    congr 1
    by_cases e : leftAt tb tk p = []
    · rw [decide_eq_true e, decide_eq_false ((leftAt_nil g hp.1 hp.2).mp e)]
      rfl
    · rw [decide_eq_false e, decide_eq_true (Classical.not_not.mp fun z => e ((leftAt_nil g hp.1 hp.2).mpr z))]
      rfl
theorem stand0 {many hues : Int} {tb : List (List Int)} (g : GoodT many hues tb) {i : Nat} {ds : List Int} (h : tb[i]? = some ds) : (stand tb (zerosI tb.length))[i]? = some (atF ds 0) := by
  have hi : i < tb.length := (List.getElem?_eq_some_iff.mp h).1
  rw [stand_get (zeros_good g) hi, zeros_get, List.getD_eq_getElem?_getD, h]
  rfl
theorem left0 {many hues : Int} {tb : List (List Int)} (g : GoodT many hues tb) {i : Nat} {ds : List Int} (h : tb[i]? = some ds) : (leftOf tb (zerosI tb.length))[i]? = some (ds.drop 1) := by
  have hi : i < tb.length := (List.getElem?_eq_some_iff.mp h).1
  rw [left_get (zeros_good g) hi, zeros_get, List.getD_eq_getElem?_getD, h]
  rfl
theorem paired_upd {H : Hp} {D : Addr} {o : HO} : ∀ {l : List Addr} {m : List (List Int)}, Paired (IsInts H) l m → (∀ d ∈ l, d ≠ D) → Paired (IsInts (upd H D o)) l m
  | _, _, .nil, _ => .nil
  | a :: _, _, .cons h t, n => .cons (by show upd H D o a = _; rw [upd_ne (n a List.mem_cons_self)]; exact h) (paired_upd t fun d hd => n d (List.mem_cons_of_mem _ hd))
theorem paired_set {α β : Type} {F : α → β → Prop} : ∀ {l : List α} {m : List β} {i : Nat} {a : α} {b : β}, Paired F l m → F a b → Paired F (l.set i a) (m.set i b)
  | _, _, _, _, _, .nil, _ => .nil
  | _, _, 0, _, _, .cons _ t, h => .cons h t
  | _, _, i + 1, _, _, .cons e t, h => .cons e (paired_set (i := i) t h)
theorem paired_fresh {H : Hp} {D : Addr} {l : List Addr} {m : List (List Int)} (p : Paired (IsInts H) l m) (n : H D = none) : ∀ d ∈ l, d ≠ D := fun d hd z => by
  obtain ⟨j, hj⟩ := List.getElem?_of_mem hd
  obtain ⟨row, _, e⟩ := pairedGetL p hj
  have e2 : H d = some (.lst (row.map V.int)) := e
  rw [z, n] at e2
  cases e2
end Rd
namespace Rd
open PySem PySem.Spec PyProof.Rows L2 Dt
/-! ### the script's list, the tape and the tables, together -/
def rListO (K : PySem.W.Frag) : List V → Hp → VK → Prop := fun xs H Q => ∃ p ys, xs = [.ref p] ∧ (SqL K H p ys ∨ SqT K H p ys) ∧ ∀ l, H l = none → Q (.ref l) (upd H l (.lst ys))
theorem sq_keep {K : PySem.W.Frag} {H H' : Hp} {a : Addr} {xs : List V} (h : SqL K H a xs) (k : ∀ o, H a = some o → H' a = some o) : SqL K H' a xs := by
  rcases h with (h | ⟨o, h⟩) | h
  · exact .inl (.inl (k _ h))
  · exact .inl (.inr ⟨o, k _ h⟩)
  · exact .inr h
theorem sq_new {K : PySem.W.Frag} {H : Hp} {a tp : Addr} {xs : List V} (h : SqL K H a xs) (n : H tp = none) (e : a = tp) (H' : Hp) : SqL K H' a xs := by
  rcases h with (h | ⟨o, h⟩) | h
  · rw [e, n] at h; cases h
  · rw [e, n] at h; cases h
  · exact .inr h
theorem Tabs.sq {K : PySem.W.Frag} {Ps : List Addr} {H H' : Hp} {a : Addr} {xs : List V} (t : Tabs Ps H) (f : FrS Ps H H') (h : SqL K H a xs) : SqL K H' a xs := by
  rcases h with (h | ⟨o, h⟩) | h
  · exact .inl (.inl (f.1 _ _ (t.lst h) h))
  · exact .inl (.inr ⟨o, f.1 _ _ (fun z => by obtain ⟨ps, q, _⟩ := t a z; rw [h] at q; cases q) h⟩)
  · exact .inr h
structure LI (K : PySem.W.Frag) (a : Addr) (xs : List V) (Ps : List Addr) (tp : Addr) (H : Hp) : Prop where
  tape : Tape H tp
  tabs : Tabs Ps H
  scr : SqL K H a xs
  far : a = tp → ∀ H', SqL K H' a xs
theorem LI.frs {K : PySem.W.Frag} {a : Addr} {xs : List V} {Ps : List Addr} {tp : Addr} {H H' : Hp} (h : LI K a xs Ps tp H) (f : FrS Ps H H') : LI K a xs Ps tp H' := ⟨h.tape.seqs (f.seqs h.tabs), f.2, h.tabs.sq f h.scr, h.far⟩
theorem LI.same {K : PySem.W.Frag} {a : Addr} {xs : List V} {Ps : List Addr} {tp : Addr} {H H' : Hp} (h : LI K a xs Ps tp H) (s : Same H H') : LI K a xs Ps tp H' := h.frs (FrS.of h.tabs s)
theorem LI.taped {K : PySem.W.Frag} {a : Addr} {xs : List V} {Ps : List Addr} {tp : Addr} {H H' : Hp} (h : LI K a xs Ps tp H) (f : Taped tp H H') : LI K a xs Ps tp H' := by
  refine ⟨f.2, f.tabs h.tape h.tabs, ?_, h.far⟩
  by_cases e : a = tp
  · exact h.far e H'
  · exact sq_keep h.scr fun o => f.1 a o e
theorem fine_eqv {d : PyData} {n w : Nat} (h : Fine d n w) : PyData.eqv d d = true := PySem.SeqAt.eqv_refl d h.lay
theorem pairedRep {α β : Type} {F : α → β → Prop} {a : α} {b : β} (h : F a b) : ∀ n : Nat, Paired F (List.replicate n a) (List.replicate n b)
  | 0 => .nil
  | n + 1 => .cons h (pairedRep h n)
theorem rep_flat {α : Type} (f : α → V) (a : α) (n : Nat) : (List.replicate n [f a]).flatten = (List.replicate n a).map f := by
  rw [List.map_replicate]
  induction n with
  | zero => rfl
  | succ n ih => rw [List.replicate_succ, List.flatten_cons, ih, List.replicate_succ]; rfl
theorem goodT_rep {many hues : Int} {tb : List (List Int)} {ds : List Int} (g : GoodT many hues tb) (h : ds ∈ tb) (m0 : 0 ≤ many) : GoodT many hues (List.replicate many.toNat ds) := by
  refine ⟨by rw [List.length_replicate]; omega, fun x hx => ?_, fun x hx => ?_, fun x hx => ?_⟩
  · rw [(List.mem_replicate.mp hx).2]; exact g.one ds h
  · rw [(List.mem_replicate.mp hx).2]; exact g.few ds h
  · rw [(List.mem_replicate.mp hx).2]; exact g.hue ds h
end Rd

set_option Elab.async false
set_option linter.all false
set_option maxRecDepth 100000
set_option maxHeartbeats 4000000
/-! tuple.index of whole numbers; sorted of a tuple of tuples -/
namespace Rd
open PySem PySem.Spec PyProof.Rows L2 Dt
def rIdxT (K : PySem.W.Frag) : V → List V → Hp → VK → Prop := fun x xs H Q => ∃ (a : Addr) (ns : List Int) (k : Int), x = .ref a ∧ xs = [.int k] ∧ SqT K H a (ns.map V.int) ∧ k ∈ ns ∧ Q (.int (ns.idxOf k : Nat)) H
theorem mt_indexT {X : Cx} : MtR X "tuple.index" (rIdxT X.K) := by
  intro pins s σ H x xs v us Q I rx rxs h
  obtain ⟨a, ns, k, rfl, rfl, hs, hk, q⟩ := h
  cases rx
  obtain ⟨u, rfl, ru⟩ := rxs.one
  obtain ⟨t, rfl⟩ := ru
  obtain ⟨its, rv, ht, hz⟩ := I.tuple hs
  exact PySem.SeqAt.tuple_index_ints ht rv.ints hk ⟨.int (ns.idxOf k : Nat), H, I.tok _, ⟨_, rfl⟩, q⟩
section
variable {prog : Program} {w : World} {A : Around} {E : Value → Shared → Prop} {s : Shared}
theorem coll_tup {l : Addr} {vs : List Value} {Q : List Value → Shared → Prop} (hz : vs.length ≤ sizeLine) (hl : s.heap.IsTuple l vs.toArray) (h : Q vs { s with heap := (s.heap.push (seqObj "list" #[] 0)).update s.heap.objs.size (Obj.mapSeq (· ++ vs.toArray)) }) : wpAny (model prog w) A (collect (.ref l)) Q E s := by
  obtain ⟨o, he, hc, n, hd⟩ := id hl; unfold collect; refine wpAny_bind (wpAny_runValue (codeAny_builtin entry_proto_collect' ?_)); show wpAny _ _ (do again (.builtin "list.__iadd__" ⟨[← newList [], .ref l], []⟩)) _ _ s; refine wpAny_bind (wpAny_newList (wpAny_pure ⟨Code.quiet_builtin _ (by decide +kernel), codeAny_builtin entry_list_iadd' ?_⟩)); show wpAny _ _ (Builtin.List.listExtendWith (.ref s.heap.objs.size) (.ref l) (.ref s.heap.objs.size)) _ _ { s with heap := s.heap.push (seqObj "list" #[] 0) }; unfold Builtin.List.listExtendWith; have he2 : (s.heap.push (seqObj "list" #[] 0)).get? l = some o := Heap.get?_push_of_some _ he; refine wpAny_bind (wpAny_typeOf (T := "tuple") ⟨o, he2, hc⟩ ?_); have hy : (Value.type "tuple" == Value.type "tuple") = true := (by rfl); rw [if_pos (by rw [hy]; simp)]; refine wpAny_bind (listItems_at he2 hd ?_); refine wpAny_bind (listItems_at (xs := #[]) (n := 0) (Heap.get?_push_size _ rfl) rfl ?_); rw [if_neg (by simp)]; refine wpAny_bind (listUpdate_at (xs := #[]) (n := 0) (Heap.get?_push_size _ rfl) rfl ?_ (Nat.zero_le _) (by show (#[] ++ vs.toArray).size ≤ sizeLine + 1; simp only [Array.size_append, List.size_toArray, List.length_nil]; omega)); refine wpAny_pure ?_; show wpAny (model prog w) A (load s.heap.objs.size >>= fun ob => match ob.data with | .seq ys _ => pure ys.toList | _ => unsupported "internal:collect") Q E { s with heap := (s.heap.push (seqObj "list" #[] 0)).update s.heap.objs.size (Obj.mapSeq (· ++ vs.toArray)) }; refine wpAny_bind (wpAny_load (get?_update_seq (Heap.get?_push_size _ rfl) _) ?_); show wpAny _ _ (pure ((#[] : Array Value) ++ vs.toArray).toList) Q E _; rw [show ((#[] : Array Value) ++ vs.toArray).toList = vs by simp]; exact wpAny_pure h
theorem sorted_tup {l : Addr} {vs : List Value} {ltv : Value → Value → Bool} {Q : Value → Shared → Prop} (O : SrtO.Swo ltv) (hl : s.heap.IsTuple l vs.toArray) (hz : vs.length ≤ sizeLine)
    (hS : 2 ≤ vs.length → ∀ (h₁ : Heap) (a : Addr), h₁.get? a = some (seqObj "list" vs.toArray 0) → (∀ b o, s.heap.get? b = some o → b ≠ a ∧ h₁.get? b = some o) → SrtO.SortableO prog w A.in1.in1 { s with heap := h₁ } a vs ltv)
    (h : ∀ out : List Value, SrtO.Srtd ltv out → SrtO.Stb ltv out vs → Q (.ref (s.heap.objs.size + 1)) { s with heap := sortedAll s.heap vs out.toArray }) : wpAny (model prog w) A (call (.builtin "sorted") [.ref l]) Q E s := by
  refine Calls.call_function_entry kind_sorted plain_sorted entry_sorted (args_sorted1 _) ?_; unfold Builtin.«sorted»; refine wpAny_bind (m := checkCount "sorted" 1 1 _) (wpAny_pure ?_); refine wpAny_bind (coll_tup hz hl (wpAny_bind (wpAny_newList ?_ hz))); have e1 : ((s.heap.push (seqObj "list" #[] 0)).update s.heap.objs.size (Obj.mapSeq (· ++ vs.toArray))).objs.size = s.heap.objs.size + 1 := (by rw [Heap.size_update, size_push']); have e2 : (((s.heap.push (seqObj "list" #[] 0)).update s.heap.objs.size (Obj.mapSeq (· ++ vs.toArray))).push (seqObj "list" vs.toArray 0)).get? (s.heap.objs.size + 1) = some (seqObj "list" vs.toArray 0) := (by rw [← e1]; exact Heap.get?_push_size _ rfl)
  have kp : ∀ b o, s.heap.get? b = some o → b ≠ s.heap.objs.size + 1 ∧ (((s.heap.push (seqObj "list" #[] 0)).update s.heap.objs.size (Obj.mapSeq (· ++ vs.toArray))).push (seqObj "list" vs.toArray 0)).get? b = some o := fun b o q => by
    have lt : b < s.heap.objs.size := Heap.lt_size q
    refine ⟨Nat.ne_of_lt (Nat.lt_succ_of_lt lt), Heap.get?_push_of_some _ ?_⟩
    rw [Heap.get?_update_ne _ _ _ _ (Nat.ne_of_lt lt)]
    exact Heap.get?_push_of_some _ q
  show wpAny _ _ _ _ _ { s with heap := ((s.heap.push (seqObj "list" #[] 0)).update s.heap.objs.size (Obj.mapSeq (· ++ vs.toArray))).push (seqObj "list" vs.toArray 0) }; rw [e1]; refine wpAny_bind (wpAny_holding (wpAny_call_entry slot_list_sort ⟨_, e2, rfl⟩ entry_list_sort (SrtO.list_sort_ord O e2 hz (fun h2 => hS h2 _ _ e2 kp) fun out hs hb => ⟨_, rfl, ?_⟩) (args_list_sort _))); exact wpAny_pure ⟨_, rfl, h out hs hb⟩
end
def rSortedU (K : PySem.W.Frag) : List V → Hp → VK → Prop := fun vs H Q => ∃ (a : Addr) (ts : List Addr) (k : Addr → List Int) (d : Nat) (B : Int), vs = [.ref a] ∧ SqT K H a (ts.map V.ref) ∧ 1 ≤ d ∧ (∀ t ∈ ts, H t = some (.tup ((k t).map V.int)) ∧ (k t).length = d ∧ TS.Bd B (k t)) ∧
  ∀ (ts' : List Addr) (p : Addr), ts'.Perm ts → H p = none → Q (.ref p) (upd H p (.lst (ts'.map V.ref)))
theorem cr_sortedU {X : Cx} : CallR X (.builtin "sorted") (rSortedU X.K) := by
  intro pins s σ H vs us Q I r h
  obtain ⟨a, ts, k, d, B, rfl, hs, hd, ht, q⟩ := h
  obtain ⟨its, rv, hl, hz⟩ := I.tuple hs
  obtain ⟨u, rfl, ru⟩ := vals1 r
  cases (show u = Value.ref a from ru)
  obtain rfl := Tt.vals_refs rv
  have tup : ∀ t ∈ ts, TS.TupInts s.heap (.ref t) (k t) := fun t hm => by
    obtain ⟨_, its, rr, hT⟩ := I.hok t _ (ht t hm).1
    exact ⟨t, its.toArray, rfl, hT, by simpa using rr.ints⟩
  have ok : TS.TupsOk s.heap d B (ts.map Value.ref) := fun v hv => by
    obtain ⟨t, hm, rfl⟩ := List.mem_map.mp hv
    exact ⟨k t, tup t hm, (ht t hm).2.1, (ht t hm).2.2⟩
  have rk_at : ∀ v ∈ ts.map Value.ref, ∀ ns, TS.TupInts s.heap v ns → Tt.rk s.heap B v = TS.code B ns := fun v _ ns t => by
    unfold Tt.rk
    rw [t.ints]
  refine sorted_tup (Tt.swo_rk (Tt.rk s.heap B)) hl (by rw [← rv.length]; exact hz) (fun h2 h₁ a' ha' kk => ?_) fun out so sb => ?_
  · have keep : ∀ b o, s.heap.get? b = some o → o.cls = .type "tuple" → h₁.get? b = some o := fun b o e _ => (kk b o e).2
    refine Tt.sortable (s := { s with heap := h₁ }) hd h2 (ok.keeps keep) (fun o e c => ?_) (Tt.rk s.heap B) fun v hv ns t => ?_
    · have e' := Option.some.inj (e.symm.trans ha')
      rw [e'] at c
      exact absurd (Value.type.inj c) (by decide)
    · obtain ⟨n0, t0, _⟩ := ok v hv
      rw [show ns = n0 from t.ints.symm.trans (t0.keeps keep).ints]
      exact rk_at v hv n0 t0
  · obtain ⟨ep, he⟩ := PyProof.Rows.sortedAll_at s.heap (ts.map Value.ref) out.toArray
    have pm := sb.perm
    obtain ⟨ts', rfl, pt⟩ : ∃ ts' : List Addr, out = ts'.map Value.ref ∧ ts'.Perm ts := by
      have back : ∀ v ∈ out, ∃ t, v = Value.ref t := fun v hv => by
        obtain ⟨t, _, e⟩ := List.mem_map.mp (pm.mem_iff.mp hv)
        exact ⟨t, e.symm⟩
      have g : ∀ l : List Value, (∀ v ∈ l, ∃ t, v = Value.ref t) → ∃ m : List Addr, l = m.map Value.ref := by
        intro l
        induction l with
        | nil => intro _; exact ⟨[], rfl⟩
        | cons v r ih =>
          intro hv
          obtain ⟨t, rfl⟩ := hv v List.mem_cons_self
          obtain ⟨m, rfl⟩ := ih fun z hz => hv z (List.mem_cons_of_mem _ hz)
          exact ⟨t :: m, rfl⟩
      obtain ⟨m, rfl⟩ := g out back
      let f : Value → Addr := fun v => match v with | .ref t => t | _ => 0
      have q2 := pm.map f
      rw [List.map_map, List.map_map] at q2
      have e1 : (f ∘ Value.ref) = id := by funext z; rfl
      rw [e1, List.map_id, List.map_id] at q2
      exact ⟨m, rfl, q2⟩
    refine ⟨.ref (s.heap.objs.size + 1), _, I.laid (t' := s.toks) (o := .lst (ts'.map V.ref)) (fun _ _ => PyProof.Rows.sortedAll_old) (Nat.le_succ _) ⟨?_, ts'.map Value.ref, ep, Tt.refs_vals ts', he⟩, rfl, q ts' _ pt (I.hok.fresh (Nat.le_succ _))⟩
    rw [List.length_map, pt.length_eq]
    rw [List.length_map] at hz
    exact hz
theorem for_enumL {K : PySem.W.Frag} {a : Addr} {xs : List V} {g : TG} {tb : TS} {D : Ends} {σ : L2.St} {H : Hp} (Pv : Nat → L2.St → Hp → Prop) (h0 : Pv 0 σ H) (hl : ∀ i σ H, i ≤ xs.length → Pv i σ H → SqL K H a xs)
    (hs : ∀ i x σ H T, xs[i]? = some x → Pv i σ H → H T = none → g (.ref T) σ (upd H T (.tup [.int (i : Nat), x])) fun σ2 H2 => tb { D with nx := Pv (i + 1), ct := Pv (i + 1), bk := D.nx } σ2 H2) (hd : ∀ σ H, Pv xs.length σ H → D.nx σ H) :
    ∃ W : Nat → Nat → L2.St → Hp → Prop, (∃ m, W 0 m σ H) ∧ ∀ i m σ H, W i m σ H →
      ((Ite K a).stop i H ∧ D.nx σ H) ∨ ((Ite K a).go i H ∧ ∃ N : L2.St → Hp → Prop, (∀ σ' H', N σ' H' → ∃ m', m' < m ∧ W (i + 1) m' σ' H') ∧ ∀ x H', (Ite K a).yld i H x H' → g x σ H' fun σ2 H2 => tb { D with nx := N, ct := N, bk := D.nx } σ2 H2) := by
  refine ⟨fun i m σ H => i + m = xs.length ∧ Pv i σ H, ⟨xs.length, by omega, h0⟩, ?_⟩
  rintro i m σ H ⟨e, p⟩
  have q := hl i σ H (by omega) p
  by_cases c : i < xs.length
  · refine .inr ⟨⟨xs, xs[i], q, List.getElem?_eq_getElem c⟩, Pv (i + 1), fun σ' H' p' => ⟨m - 1, by omega, by omega, p'⟩, fun v H' hy => ?_⟩
    obtain ⟨T, x, rfl, nT, rfl, fx⟩ := hy
    exact hs i x σ H T (fx xs q) p nT
  · have e2 : i = xs.length := by omega
    subst e2
    exact .inl ⟨⟨xs, q, Nat.le_refl _⟩, hd σ H p⟩
theorem ip_mul {X : Cx} : PIp X .Mult (fun x y H Q => ∃ i j, x = .int i ∧ y = .int j ∧ CMul i j ∧ Q (.int (i * j)) H) := by
  intro pins s σ H x y v u Q I r1 r2 h
  obtain ⟨i, j, e1, e2, hm, q⟩ := h
  subst e1; subst e2
  obtain ⟨t, rfl⟩ := r1
  obtain ⟨t', rfl⟩ := r2
  exact imul_int ⟨.int _, H, I.tok _, ⟨_, rfl⟩, q⟩ hm.ok
theorem pow_bd {n : Int} (h0 : 0 ≤ n) (h4 : n ≤ 4) {i : Nat} (hi : i ≤ 6) : 0 ≤ n ^ i ∧ n ^ i ≤ 4096 := by
  obtain ⟨m, rfl⟩ : ∃ m : Nat, n = m := ⟨n.toNat, by omega⟩
  have := pow_le_4096 (show m ≤ 4 by omega) hi
  constructor
  · exact Int.pow_nonneg h0
  · exact_mod_cast this
end Rd

set_option Elab.async false
set_option linter.all false
set_option maxRecDepth 100000
set_option maxHeartbeats 4000000
/-! fractions, weights, and what they show -/
namespace Gx
open PySem PySem.Spec PyProof.Rows L2
theorem all_enumL {K : PySem.W.Frag} {a : Addr} {xs : List V} {g : TG} {tt : TT} {te : TE} {vs : List Nat} {σ : L2.St} {d : Bool} {QT QF : Hp → Prop} {H2 : Hp} (Pv : Nat → Hp → Prop) (h0 : Pv 0 H2) (hl : ∀ i H, i ≤ xs.length → Pv i H → SqL K H a xs)
    (hs : ∀ i x H T, xs[i]? = some x → Pv i H → H T = none → g (.ref T) (wipe σ vs) (upd H T (.tup [.int (i : Nat), x])) fun σ2 H2 => wipe σ2 vs = wipe σ vs ∧ tt σ2 H2 fun b H3 => if b = true then te σ2 H3 fun y H4 => ∃ c, y = .bl c ∧ (if c = d then Pv (i + 1) H4 else QF H4) else Pv (i + 1) H3) (hd : ∀ H, Pv xs.length H → QT H) :
    ∃ W : Nat → Nat → Hp → Prop, (∃ m, W 0 m H2) ∧ Turns (Ite K a) g tt te vs σ d QT QF W := by
  refine ⟨fun i m H => m = xs.length - i ∧ i ≤ xs.length ∧ Pv i H, ⟨xs.length, by simp, Nat.zero_le _, h0⟩, ?_⟩
  rintro i m H ⟨rfl, hi, p⟩
  have q := hl i H hi p
  by_cases hlt : i < xs.length
  · refine .inr ⟨⟨xs, xs[i], q, by simp [hlt]⟩, Pv (i + 1), fun H' p' => ⟨xs.length - (i + 1), by omega, rfl, hlt, p'⟩, fun v H' hy => ?_⟩
    obtain ⟨T, x, rfl, nT, rfl, fx⟩ := hy
    exact hs i x H T (fx xs q) p nT
  · have e : i = xs.length := by omega
    subst e
    exact .inl ⟨⟨xs, q, Nat.le_refl _⟩, hd H p⟩
end Gx
namespace Rd
open PySem PySem.Spec PyProof.Rows L2 Dt
abbrev Fc := Int × Int
def gcdI (a b : Int) : Int := ((Nat.gcd a.toNat b.toNat : Nat) : Int)
def lowI (a b : Int) : Fc := (a / gcdI a b, b / gcdI a b)
theorem gcdI_step {a b : Int} (ha : 0 ≤ a) (hb : 0 < b) : gcdI b (a % b) = gcdI a b := by
  obtain ⟨m, rfl⟩ : ∃ m : Nat, a = m := ⟨a.toNat, by omega⟩
  obtain ⟨n, rfl⟩ : ∃ n : Nat, b = n := ⟨b.toNat, by omega⟩
  unfold gcdI
  rw [← Int.natCast_emod, Int.toNat_natCast, Int.toNat_natCast, Int.toNat_natCast, Nat.gcd_comm m n, Nat.gcd_rec n m, Nat.gcd_comm]
theorem gcdI_zero {a : Int} (ha : 0 ≤ a) : gcdI a 0 = a := by
  unfold gcdI
  rw [show (0 : Int).toNat = 0 from rfl, Nat.gcd_zero_right]
  omega
theorem gcdI_pos {a b : Int} (hb : 1 ≤ b) : 1 ≤ gcdI a b := by
  unfold gcdI
  have := Nat.gcd_pos_of_pos_right a.toNat (show 0 < b.toNat by omega)
  omega
theorem gcdI_le {a b : Int} (hb : 1 ≤ b) : gcdI a b ≤ b := by
  unfold gcdI
  have := Nat.le_of_dvd (show 0 < b.toNat by omega) (Nat.gcd_dvd_right a.toNat b.toNat)
  omega
theorem low_mul {a b : Int} (ha : 0 ≤ a) (hb : 1 ≤ b) : a = gcdI a b * (lowI a b).1 ∧ b = gcdI a b * (lowI a b).2 := by
  unfold lowI
  dsimp only
  have d1 : gcdI a b ∣ a := by
    have := Int.natCast_dvd_natCast.mpr (Nat.gcd_dvd_left a.toNat b.toNat)
    rw [Int.toNat_of_nonneg ha] at this
    exact this
  have d2 : gcdI a b ∣ b := by
    have := Int.natCast_dvd_natCast.mpr (Nat.gcd_dvd_right a.toNat b.toNat)
    rw [Int.toNat_of_nonneg (show 0 ≤ b by omega)] at this
    exact this
  exact ⟨(Int.mul_ediv_cancel' d1).symm, (Int.mul_ediv_cancel' d2).symm⟩
theorem pos_of_mul {g x : Int} (hg : 1 ≤ g) (h : 1 ≤ g * x) : 1 ≤ x := by
  by_cases c : 1 ≤ x
  · exact c
  · have : g * x ≤ g * 0 := Int.mul_le_mul_of_nonneg_left (by omega) (by omega)
    omega
theorem lt_of_mul {g x y : Int} (hg : 1 ≤ g) (h : g * x < g * y) : x < y := by
  by_cases c : x < y
  · exact c
  · have : g * y ≤ g * x := Int.mul_le_mul_of_nonneg_left (by omega) (by omega)
    omega
theorem le_mul {g x : Int} (hg : 1 ≤ g) (h : 0 ≤ x) : x ≤ g * x := by
  have : 1 * x ≤ g * x := Int.mul_le_mul_of_nonneg_right hg h
  omega
theorem low_ok {a b : Int} (ha : 0 ≤ a) (hb : 1 ≤ b) : 0 ≤ (lowI a b).1 ∧ 1 ≤ (lowI a b).2 ∧ (lowI a b).2 ≤ b ∧ (lowI a b).1 ≤ a := by
  have g1 := gcdI_pos (a := a) hb
  obtain ⟨e1, e2⟩ := low_mul ha hb
  have p1 : 0 ≤ (lowI a b).1 := Int.ediv_nonneg ha (by omega)
  have p2 : 1 ≤ (lowI a b).2 := pos_of_mul g1 (by omega)
  have l1 := le_mul g1 p1
  have l2 := le_mul g1 (show 0 ≤ (lowI a b).2 by omega)
  omega
theorem low_lt {a b : Int} (ha : 1 ≤ a) (h : a < b) : 1 ≤ (lowI a b).1 ∧ (lowI a b).1 < (lowI a b).2 := by
  have g1 := gcdI_pos (a := a) (show 1 ≤ b by omega)
  obtain ⟨e1, e2⟩ := low_mul (show 0 ≤ a by omega) (show 1 ≤ b by omega)
  exact ⟨pos_of_mul g1 (by omega), lt_of_mul g1 (by omega)⟩
theorem low_le {r e A B : Int} (hr : 0 ≤ r) (he : 1 ≤ e) (hA : 0 ≤ A) (hB : 1 ≤ B) : (lowI r e).1 * (lowI A B).2 ≤ (lowI A B).1 * (lowI r e).2 ↔ r * B ≤ A * e := by
  have g1 := gcdI_pos (a := r) he
  have k1 := gcdI_pos (a := A) hB
  obtain ⟨e1, e2⟩ := low_mul hr he
  obtain ⟨e3, e4⟩ := low_mul hA hB
  generalize gcdI r e = g at *
  generalize gcdI A B = k at *
  generalize (lowI r e).1 = r', (lowI r e).2 = e', (lowI A B).1 = A', (lowI A B).2 = B' at *
  subst e1 e2 e3 e4
  have gk : 0 < g * k := Int.mul_pos (by omega) (by omega)
  have x1 : g * r' * (k * B') = g * k * (r' * B') := by
    rw [Int.mul_assoc, Int.mul_assoc, Int.mul_left_comm r' k B']
  have x2 : k * A' * (g * e') = g * k * (A' * e') := by
    rw [Int.mul_assoc, Int.mul_comm g k, Int.mul_assoc, Int.mul_left_comm A' g e']
  rw [x1, x2]
  constructor
  · exact fun h => Int.mul_le_mul_of_nonneg_left h (by omega)
  · exact fun h => Int.le_of_mul_le_mul_left h gk
/-! ### weights -/
def wAt (ws : List Fc) (i : Nat) : Fc := ws.getD i (1, 2)
structure GoodW (B : Int) (ws : List Fc) : Prop where
  each : ∀ x ∈ ws, 1 ≤ x.1 ∧ x.1 < x.2 ∧ x.2 ≤ B
def IsFrs (H : Hp) (l : Addr) (ws : List Fc) : Prop := ∃ ts : List Addr, H l = some (.lst (ts.map V.ref)) ∧ Paired (IsPr H) ts ws
theorem IsFrs.mono {H H' : Hp} {l : Addr} {ws : List Fc} (h : IsFrs H l ws) (t : Tups H H') (k : ∀ xs, H l = some (.lst xs) → H' l = some (.lst xs)) : IsFrs H' l ws := let ⟨ts, h1, h2⟩ := h; ⟨ts, k _ h1, pairedMap (fun _ _ e => t _ _ e) h2⟩
theorem IsFrs.seqs {H H' : Hp} {l : Addr} {ws : List Fc} (h : IsFrs H l ws) (s : Seqs H H') : IsFrs H' l ws := h.mono s.1 fun xs e => s.2 _ _ e
def frD (x : Fc) : PyData := .tuple [.int x.1, .int x.2]
def frsD (ws : List Fc) : PyData := .list (ws.map frD)
theorem dpFrL {K : PySem.W.Frag} {H : Hp} : ∀ {ts : List Addr} {ws : List Fc}, Paired (IsPr H) ts ws → DpAll K H (ts.map V.ref) (ws.map frD)
  | _, _, .nil => .nil
  | _, _, .cons h t => .cons (.tup (.inl (.inl h)) (.cons (.int _) (.cons (.int _) .nil))) (dpFrL t)
theorem dpFrs {K : PySem.W.Frag} {H : Hp} {l : Addr} {ws : List Fc} (h : IsFrs H l ws) : Dp K H (.ref l) (frsD ws) := let ⟨ts, h1, h2⟩ := h; .lst (.inl (.inl h1)) (dpFrL h2)
theorem fine_intX {i : Int} (h0 : 0 ≤ i) (h1 : i < 10 ^ 9) : Fine (.int i) 1 34 := by
  obtain ⟨n, rfl⟩ : ∃ n : Nat, i = n := ⟨i.toNat, by omega⟩
  have hn : n < 10 ^ 9 := by omega
  have hl : n.log2 ≤ 29 := by
    by_cases e : n = 0
    · subst e; decide
    · have := (Nat.log2_lt e).mpr (show n < 2 ^ 30 by omega)
      omega
  refine ⟨rfl, by simp [PyData.depth], ?_, ?_, rfl, short_int n (by omega)⟩
  · simp only [PyData.weight]
    split
    · omega
    · have e : ((n : Int)).natAbs = n := by omega
      rw [e]
      omega
  · simp only [PyData.showable]
    have e : ((n : Int)).natAbs = n := by omega
    rw [e]
    exact decide_eq_true (by omega)
theorem fine_fr {x : Fc} (h1 : 0 ≤ x.1) (h2 : x.1 < 10 ^ 9) (h3 : 0 ≤ x.2) (h4 : x.2 < 10 ^ 9) : Fine (frD x) 2 80 :=
  (Fine.tuple (.cons (fine_intX h1 h2) (.cons (fine_intX h3 h4) (.nil _)))).mono (by omega) (by omega)
theorem fine_frs {B : Int} {ws : List Fc} (hB : B < 10 ^ 9) (g : GoodW B ws) (hl : ws.length ≤ 100) : Fine (frsD ws) 3 9000 := by
  refine (Fine.list (fineAll_map (n := 2) (w := 80) ws fun x hx => ?_)).mono (by omega) (by omega)
  have := g.each x hx
  exact fine_fr (by omega) (by omega) (by omega) (by omega)
theorem wAt_get {ws : List Fc} {i : Nat} (h : i < ws.length) : ws[i]? = some (wAt ws i) := by
  unfold wAt
  rw [List.getD_eq_getElem?_getD, List.getElem?_eq_getElem h]
  rfl
theorem wAt_ok {B : Int} {ws : List Fc} {i : Nat} (g : GoodW B ws) (h : i < ws.length) : 1 ≤ (wAt ws i).1 ∧ (wAt ws i).1 < (wAt ws i).2 ∧ (wAt ws i).2 ≤ B := g.each _ (List.mem_of_getElem? (wAt_get h))
/-! ### the room of a wish -/
def stepW (ws : List Fc) (i : Nat) (p : Fc) (z : Int) : Fc := if z = (i : Int) then p else (p.1 * ((wAt ws z.toNat).2 - (wAt ws z.toNat).1), p.2 * (wAt ws z.toNat).2)
def roomF (ws : List Fc) (i : Nat) (l : List Int) : Fc := l.foldl (stepW ws i) (wAt ws i)
theorem room_snoc (ws : List Fc) (i : Nat) (l : List Int) (z : Int) : roomF ws i (l ++ [z]) = stepW ws i (roomF ws i l) z := by
  unfold roomF
  rw [List.foldl_append]
  rfl
theorem mul_pos1 {x y : Int} (h : 1 ≤ x) (k : 1 ≤ y) : 1 ≤ x * y := by
  have := Int.mul_pos (show 0 < x by omega) (show 0 < y by omega)
  omega
theorem step_ok {B : Int} {ws : List Fc} {i : Nat} {p : Fc} {z : Int} (g : GoodW B ws) (hz : 0 ≤ z) (hz2 : z.toNat < ws.length) (h1 : 1 ≤ p.1) (h2 : 1 ≤ p.2) : 1 ≤ (stepW ws i p z).1 ∧ 1 ≤ (stepW ws i p z).2 := by
  unfold stepW
  have := wAt_ok g hz2
  split
  · exact ⟨h1, h2⟩
  · exact ⟨mul_pos1 h1 (by omega), mul_pos1 h2 (by omega)⟩
theorem room_ok {B : Int} {ws : List Fc} {i : Nat} (g : GoodW B ws) (hi : i < ws.length) (hB : 1 ≤ B) : ∀ (l : List Int), (∀ z ∈ l, 0 ≤ z ∧ z.toNat < ws.length) → ∀ p : Fc, 1 ≤ p.1 → 1 ≤ p.2 → 1 ≤ (l.foldl (stepW ws i) p).1 ∧ 1 ≤ (l.foldl (stepW ws i) p).2 ∧ (l.foldl (stepW ws i) p).2 ≤ p.2 * B ^ l.length
  | [], _, p, h1, h2 => ⟨h1, h2, by simp⟩
  | z :: r, h, p, h1, h2 => by
    have hz := h z List.mem_cons_self
    obtain ⟨s1, s2⟩ := step_ok (i := i) g hz.1 hz.2 h1 h2
    have ih := room_ok g hi hB r (fun y hy => h y (List.mem_cons_of_mem _ hy)) (stepW ws i p z) s1 s2
    rw [List.foldl_cons]
    refine ⟨ih.1, ih.2.1, Int.le_trans ih.2.2 ?_⟩
    have hw := wAt_ok g hz.2
    have e : (stepW ws i p z).2 ≤ p.2 * B := by
      unfold stepW
      split
      · have : p.2 * 1 ≤ p.2 * B := Int.mul_le_mul_of_nonneg_left hB (by omega)
        omega
      · exact Int.mul_le_mul_of_nonneg_left hw.2.2 (by omega)
    have pp : (0 : Int) ≤ B ^ r.length := Int.pow_nonneg (by omega)
    have := Int.mul_le_mul_of_nonneg_right e pp
    rw [List.length_cons, Int.pow_succ, Int.mul_comm (B ^ r.length) B, ← Int.mul_assoc]
    exact this
theorem log_big {x : Int} (h0 : 1 ≤ x) (h : x < 2 ^ 250) : x.natAbs.log2 < 9000 := by
  have hz : x.natAbs ≠ 0 := by omega
  have h2 : x.natAbs < 2 ^ 250 := by
    have e : ((x.natAbs : Nat) : Int) = x := by omega
    have : ((x.natAbs : Nat) : Int) < ((2 ^ 250 : Nat) : Int) := by rw [e]; exact_mod_cast h
    exact_mod_cast this
  have := (Nat.log2_lt hz).mpr h2
  omega
theorem room_log {ws : List Fc} {i : Nat} {l : List Int} (g : GoodW 20000 ws) (hi : i < ws.length) (hl : l.length ≤ 8) (h : ∀ z ∈ l, 0 ≤ z ∧ z.toNat < ws.length) : 1 ≤ (roomF ws i l).1 ∧ 1 ≤ (roomF ws i l).2 ∧ (roomF ws i l).2.natAbs.log2 < 9000 := by
  have hw := wAt_ok g hi
  obtain ⟨a, b, c⟩ := room_ok g hi (by decide) l h (wAt ws i) (by omega) (by omega)
  refine ⟨a, b, log_big b (Int.lt_of_le_of_lt c ?_)⟩
  have p1 : (20000 : Int) ^ l.length ≤ 20000 ^ 8 := by
    have := Nat.pow_le_pow_right (show 0 < 20000 by decide) hl
    exact_mod_cast this
  have p2 : (wAt ws i).2 * (20000 : Int) ^ l.length ≤ 20000 * 20000 ^ 8 := Int.mul_le_mul hw.2.2 p1 (Int.pow_nonneg (by decide)) (by decide)
  refine Int.lt_of_le_of_lt p2 ?_
  have : (20000 * 20000 ^ 8 : Nat) < 2 ^ 250 := by
    refine Nat.lt_of_lt_of_le (show (20000 * 20000 ^ 8 : Nat) < 2 ^ 200 by decide) (Nat.pow_le_pow_right (by decide) (by decide))
  exact_mod_cast this
/-! ### what is shown -/
def everyI (wd : WD) (hues : Int) : Int := hues ^ wd.1.length
def okW (wds : List WD) (hues : Int) (ws : List Fc) (i : Nat) : Bool := match wds[i]? with
  | some wd => decide ((wd.2.length : Int) * (roomF ws i (clsL wds wd wds.length)).2 ≤ (roomF ws i (clsL wds wd wds.length)).1 * everyI wd hues)
  | none => true
def shownB (wds : List WD) (hues : Int) (ws : List Fc) : Bool := (List.range wds.length).all (okW wds hues ws)
theorem okW_of {wds : List WD} {hues : Int} {ws : List Fc} {i : Nat} {wd : WD} (h : wds[i]? = some wd) : okW wds hues ws i = decide ((wd.2.length : Int) * (roomF ws i (clsL wds wd wds.length)).2 ≤ (roomF ws i (clsL wds wd wds.length)).1 * everyI wd hues) := by
  unfold okW
  rw [h]
theorem shown_yes {wds : List WD} {hues : Int} {ws : List Fc} (h : ∀ i, i < wds.length → okW wds hues ws i = true) : shownB wds hues ws = true := by
  unfold shownB
  rw [List.all_eq_true]
  exact fun i hi => h i (List.mem_range.mp hi)
theorem shown_no {wds : List WD} {hues : Int} {ws : List Fc} {i : Nat} (hi : i < wds.length) (h : okW wds hues ws i = false) : shownB wds hues ws = false := by
  unfold shownB
  rw [List.all_eq_false]
  exact ⟨i, List.mem_range.mpr hi, by rw [h]; decide⟩
theorem every_pos {wd : WD} {hues : Int} (h : 2 ≤ hues) : 1 ≤ everyI wd hues := by
  unfold everyI
  have : 0 < hues ^ wd.1.length := Int.pow_pos (by omega)
  omega
theorem every_le {wd : WD} {hues : Int} (h2 : 2 ≤ hues) (h4 : hues ≤ 4) (l3 : wd.1.length ≤ 3) : everyI wd hues ≤ 64 := by
  unfold everyI
  obtain ⟨n, rfl⟩ : ∃ n : Nat, hues = n := ⟨hues.toNat, by omega⟩
  have : n ^ wd.1.length ≤ 64 := Nat.le_trans (Nat.pow_le_pow_left (show n ≤ 4 by omega) _) (Nat.le_trans (Nat.pow_le_pow_right (by decide) l3) (by decide))
  exact_mod_cast this
end Rd

set_option Elab.async false
set_option linter.all false
set_option maxRecDepth 100000
set_option maxHeartbeats 4000000
/-! where a mending may lead, and how likely -/
namespace Rd
open PySem PySem.Spec PyProof.Rows L2 Dt
theorem fill_allC {hues : Nat} : ∀ (n : Nat) (f : List Int), f.length = n → (∀ h ∈ f, 0 ≤ h ∧ h < (hues : Int)) → f ∈ fillL hues n
  | 0, f, hl, _ => by
    rw [List.length_eq_zero_iff.mp hl]
    exact List.mem_singleton.mpr rfl
  | n + 1, f, hl, h => by
    have ne : f ≠ [] := fun z => by rw [z] at hl; cases hl
    have e := List.dropLast_concat_getLast ne
    refine List.mem_flatMap.mpr ⟨f.dropLast, fill_allC n _ (by rw [List.length_dropLast]; omega) fun z hz => h z (by have y : z ∈ f.dropLast ++ [f.getLast ne] := List.mem_append_left _ hz; rw [e] at y; exact y), ?_⟩
    have hb := h _ (List.getLast_mem ne)
    refine List.mem_map.mpr ⟨(f.getLast ne).toNat, List.mem_range.mpr (by omega), ?_⟩
    have e2 : (((f.getLast ne).toNat : Nat) : Int) = f.getLast ne := by omega
    rw [e2]
    exact e
/-- the filling with a row's hues at these places -/
def anewL (f ps r : List Int) : List Int := (ps.zip r).foldl (fun g x => g.set x.1.toNat x.2) f
theorem anewL_len (f ps r : List Int) : (anewL f ps r).length = f.length := by
  unfold anewL
  generalize ps.zip r = zs
  induction zs generalizing f with
  | nil => rfl
  | cons z zs ih => rw [List.foldl_cons, ih, List.length_set]
theorem anewL_mem {P : Int → Prop} {f : List Int} (hf : ∀ h ∈ f, P h) {ps r : List Int} (hr : ∀ h ∈ r, P h) : ∀ h ∈ anewL f ps r, P h := by
  unfold anewL
  have hz : ∀ z ∈ ps.zip r, P z.2 := fun z hz => hr _ (List.of_mem_zip hz).2
  generalize ps.zip r = zs at hz
  induction zs generalizing f with
  | nil => exact hf
  | cons z zs ih =>
    rw [List.foldl_cons]
    refine ih (fun h hh => ?_) fun y hy => hz y (List.mem_cons_of_mem _ hy)
    rcases List.mem_or_eq_of_mem_set hh with e | e
    · exact hf h e
    · rw [e]; exact hz z List.mem_cons_self
/-- the places of the wish of a number -/
def plcs (wds : List WD) (k : Int) : List Int := (wds.getD k.toNat ([], [])).1
/-- where the mending of the first broken wish may lead; nowhere where none is broken -/
def mendsL (hues : Nat) (wds : List WD) (f : List Int) : List (List Int) := match broL f wds wds.length with
  | [] => []
  | k :: _ => (fillL hues (plcs wds k).length).map (anewL f (plcs wds k))
theorem mendsL_nil {hues : Nat} {wds : List WD} {f : List Int} (h : broL f wds wds.length = []) : mendsL hues wds f = [] := by
  unfold mendsL
  rw [h]
theorem mendsL_cons {hues : Nat} {wds : List WD} {f : List Int} {k : Int} {r : List Int} (h : broL f wds wds.length = k :: r) : mendsL hues wds f = (fillL hues (plcs wds k).length).map (anewL f (plcs wds k)) := by
  unfold mendsL
  rw [h]
/-- where it stands one mending later -/
def thL (hues : Nat) (wds : List WD) (f : List Int) : List (List Int) := if mendsL hues wds f = [] then [f] else mendsL hues wds f
structure WdsOk (many hues : Int) (wds : List WD) : Prop where
  good : GoodR many hues wds
  nd : ∀ wd ∈ wds, wd.1.Nodup
section
variable {many hues : Int} {wds : List WD}
theorem plcs_ok (g : WdsOk many hues wds) {f : List Int} {k : Int} {r : List Int} (h : broL f wds wds.length = k :: r) : ∃ wd, wds[k.toNat]? = some wd ∧ wd ∈ wds ∧ plcs wds k = wd.1 ∧ 0 ≤ k ∧ k < wds.length := by
  obtain ⟨k0, k1⟩ := broL_mem (show k ∈ broL f wds wds.length by rw [h]; exact List.mem_cons_self)
  have kl : k.toNat < wds.length := by omega
  refine ⟨wds[k.toNat], List.getElem?_eq_getElem kl, List.getElem_mem kl, ?_, k0, k1⟩
  unfold plcs
  rw [List.getD_eq_getElem?_getD, List.getElem?_eq_getElem kl]
  rfl
/-- at most as many places as there are -/
theorem nodup_le {l : List Int} {n : Int} (hn : 0 ≤ n) (nd : l.Nodup) (h : ∀ p ∈ l, 0 ≤ p ∧ p < n) : (l.length : Int) ≤ n := by
  have sub : l ⊆ (List.range n.toNat).map fun (k : Nat) => (k : Int) := fun p hp => by
    obtain ⟨a, b⟩ := h p hp
    exact List.mem_map.mpr ⟨p.toNat, List.mem_range.mpr (by omega), by omega⟩
  have z := List.Nodup.length_le_of_subset nd sub
  rw [List.length_map, List.length_range] at z
  omega
theorem mends_mem (g : WdsOk many hues wds) {f a : List Int} (hf : f ∈ fillL hues.toNat many.toNat) (ha : a ∈ mendsL hues.toNat wds f) : a ∈ fillL hues.toNat many.toNat := by
  obtain ⟨fl, fh⟩ := fill_good hf
  have h2 := g.good.h2
  cases hb : broL f wds wds.length with
  | nil => rw [mendsL_nil hb] at ha; exact nomatch ha
  | cons k r =>
    rw [mendsL_cons hb] at ha
    obtain ⟨row, hrow, rfl⟩ := List.mem_map.mp ha
    obtain ⟨_, rh⟩ := fill_good hrow
    exact fill_allC _ _ (by rw [anewL_len, fl]) (anewL_mem (P := fun h => 0 ≤ h ∧ h < (hues.toNat : Int)) fh rh)
theorem th_mem (g : WdsOk many hues wds) {f a : List Int} (hf : f ∈ fillL hues.toNat many.toNat) (ha : a ∈ thL hues.toNat wds f) : a ∈ fillL hues.toNat many.toNat := by
  unfold thL at ha
  split at ha
  · rw [List.mem_singleton.mp ha]; exact hf
  · exact mends_mem g hf ha
/-- how many ways there are: a power of the number of hues -/
theorem th_len (g : WdsOk many hues wds) {f : List Int} : ∃ s : Nat, s ≤ 3 ∧ s ≤ many.toNat ∧ (thL hues.toNat wds f).length = hues.toNat ^ s ∧ (s = 0 → thL hues.toNat wds f = [f]) := by
  unfold thL
  split
  · exact ⟨0, by omega, by omega, rfl, fun _ => rfl⟩
  · rename_i hm
    cases hb : broL f wds wds.length with
    | nil => exact (hm (mendsL_nil hb)).elim
    | cons k r =>
      obtain ⟨wd, _, hw, ep, _⟩ := plcs_ok g hb
      have gd := g.good.each wd hw
      have m1 := g.good.m1
      refine ⟨wd.1.length, gd.three, ?_, ?_, fun z => ?_⟩
      · have := nodup_le (n := many) (by omega) (g.nd wd hw) gd.pl
        omega
      · rw [mendsL_cons hb, List.length_map, fill_len, ep]
      · have := gd.one
        omega
end
/-- what comes to g from all that stands at es, where c tells what each of so many ways gets -/
def stpC (th : List Int → List (List Int)) (c : Nat → Int) (es : List (List Int × Int)) (g : List Int) : Int := (es.map fun e => e.2 * c (th e.1).length * ((th e.1).count g : Int)).sum
def valL (es : List (List Int × Int)) (g : List Int) : Int := ((es.find? fun e => decide (e.1 = g)).map (·.2)).getD 0
theorem valL_cons {e : List Int × Int} {es : List (List Int × Int)} {g : List Int} : valL (e :: es) g = if e.1 = g then e.2 else valL es g := by
  unfold valL
  rw [List.find?_cons]
  by_cases h : e.1 = g
  · rw [if_pos h, decide_eq_true h]; rfl
  · rw [if_neg h, decide_eq_false h]
theorem valL_not {es : List (List Int × Int)} {g : List Int} (h : g ∉ es.map (·.1)) : valL es g = 0 := by
  induction es with
  | nil => rfl
  | cons e es ih =>
    rw [List.map_cons, List.mem_cons, not_or] at h
    rw [valL_cons, if_neg (fun z => h.1 z.symm)]
    exact ih h.2
/-- a sum over what stands somewhere is a sum over all -/
theorem sum_all {φ : List Int → Int} : ∀ {es : List (List Int × Int)} {Fs : List (List Int)}, (es.map (·.1)).Nodup → Fs.Nodup → (∀ e ∈ es, e.1 ∈ Fs) → (es.map fun e => e.2 * φ e.1).sum = (Fs.map fun f => valL es f * φ f).sum
  | [], Fs, _, _, _ => by
    have : (Fs.map fun f => valL [] f * φ f) = Fs.map fun _ => (0 : Int) := List.map_congr_left fun f _ => by
      show 0 * φ f = 0
      rw [Int.zero_mul]
    rw [this]
    have z : ∀ l : List (List Int), (l.map fun _ => (0 : Int)).sum = 0 := fun l => by
      induction l with
      | nil => rfl
      | cons f r ih => rw [List.map_cons, List.sum_cons, ih]; rfl
    exact (z Fs).symm
  | e :: es, Fs, nd, nf, sub => by
    rw [List.map_cons, List.nodup_cons] at nd
    have ih := sum_all (φ := φ) (es := es) nd.2 nf fun x hx => sub x (List.mem_cons_of_mem _ hx)
    rw [List.map_cons, List.sum_cons, ih]
    have key : ∀ {l : List (List Int)}, l.Nodup → e.1 ∈ l → (l.map fun f => valL (e :: es) f * φ f).sum = e.2 * φ e.1 + (l.map fun f => valL es f * φ f).sum := by
      intro l nl hm
      induction l with
      | nil => exact nomatch hm
      | cons f r ihl =>
        rw [List.nodup_cons] at nl
        rw [List.map_cons, List.sum_cons, List.map_cons, List.sum_cons]
        by_cases h : e.1 = f
        · subst h
          have same : (r.map fun f => valL (e :: es) f * φ f) = r.map fun f => valL es f * φ f := List.map_congr_left fun g hg => by
            rw [valL_cons, if_neg (fun z : e.1 = g => nl.1 (by rw [z]; exact hg))]
          rw [same, valL_cons, if_pos rfl, valL_not nd.1]
          rw [Int.zero_mul]
          omega
        · rcases List.mem_cons.mp hm with z | z
          · exact (h z).elim
          · rw [ihl nl.2 z, valL_cons, if_neg h]
            omega
    exact (key nf (sub e List.mem_cons_self)).symm
theorem stpC_snoc {th : List Int → List (List Int)} {c : Nat → Int} {es : List (List Int × Int)} {e : List Int × Int} {g : List Int} : stpC th c (es ++ [e]) g = stpC th c es g + e.2 * c (th e.1).length * ((th e.1).count g : Int) := by
  unfold stpC
  rw [List.map_append, List.sum_append]
  simp
/-- the same by a list of values -/
theorem stpC_all {th : List Int → List (List Int)} {c : Nat → Int} {es : List (List Int × Int)} {Fs : List (List Int)} {g : List Int} (nd : (es.map (·.1)).Nodup) (nf : Fs.Nodup) (sub : ∀ e ∈ es, e.1 ∈ Fs) : stpC th c es g = (Fs.map fun f => valL es f * (c (th f).length * ((th f).count g : Int))).sum := by
  rw [← sum_all nd nf sub]
  unfold stpC
  congr 1
  exact List.map_congr_left fun e _ => Int.mul_assoc _ _ _
def withP (Fs : List (List Int)) (p : List Int → Int) : List (List Int × Int) := Fs.map fun f => (f, p f)
theorem stpC_with {th : List Int → List (List Int)} {c : Nat → Int} {Fs : List (List Int)} {p : List Int → Int} {g : List Int} : stpC th c (withP Fs p) g = (Fs.map fun f => p f * (c (th f).length * ((th f).count g : Int))).sum := by
  unfold stpC withP
  rw [List.map_map]
  congr 1
  exact List.map_congr_left fun f _ => Int.mul_assoc _ _ _
theorem sum_mul {α : Type} (φ : α → Int) (k : Int) : ∀ l : List α, (l.map φ).sum * k = (l.map fun x => φ x * k).sum
  | [] => Int.zero_mul _
  | x :: r => by rw [List.map_cons, List.sum_cons, Int.add_mul, sum_mul φ k r, List.map_cons, List.sum_cons]
/-- two ways to reckon one measure: finer by N, finer by F -/
theorem step_same {th : List Int → List (List Int)} {cN cF : Nat → Int} {N F A B : Int} {Fs : List (List Int)} {es : List (List Int × Int)} {p : List Int → Int} (nd : (es.map (·.1)).Nodup) (nf : Fs.Nodup) (sub : ∀ e ∈ es, e.1 ∈ Fs) (h : ∀ f ∈ Fs, p f * A = valL es f * B) (hc : ∀ f ∈ Fs, cN (th f).length * F = cF (th f).length * N) (g : List Int) :
    stpC th cN (withP Fs p) g * (A * F) = stpC th cF es g * (B * N) := by
  rw [stpC_with, stpC_all nd nf sub, sum_mul, sum_mul]
  congr 1
  refine List.map_congr_left fun f hf => ?_
  have h1 := h f hf
  have h2 := hc f hf
  generalize ((th f).count g : Int) = z
  generalize valL es f = v at h1
  generalize cF (th f).length = x at h2
  generalize cN (th f).length = y at h2
  calc p f * (y * z) * (A * F) = (p f * A) * (y * F) * z := by simp only [Int.mul_assoc, Int.mul_comm, Int.mul_left_comm]
    _ = (v * B) * (x * N) * z := by rw [h1, h2]
    _ = v * (x * z) * (B * N) := by simp only [Int.mul_assoc, Int.mul_comm, Int.mul_left_comm]
/-- what the program has behind k mendings -/
def pN (hues : Nat) (n : Nat) (wds : List WD) : Nat → List Int → Int
  | 0, _ => 1
  | k + 1, g => stpC (thL hues wds) (fun l => ((fillL hues n).length : Int) / (l : Int)) (withP (fillL hues n) (pN hues n wds k)) g
end Rd

set_option Elab.async false
set_option linter.all false
set_option maxRecDepth 100000
set_option maxHeartbeats 4000000
/-! runs step by step, and the draws told back -/
namespace Dt
open PySem PySem.Spec PyProof.Rows L2
inductive Steps (wds : List WD) (tb : List (List Int)) (ord : List Int) : List Int → Log → List Int → Log → Prop
  | refl (tk : List Int) (log : Log) : Steps wds tb ord tk log tk log
  | step {tk tk' : List Int} {log log' : Log} {k : Int} : firstB (stand tb tk) wds ord = some k → canN tb tk (plc wds k) = true → Steps wds tb ord (bumpA tk (plc wds k)) (log ++ [(k, huesA (stand tb tk) (plc wds k))]) tk' log' → Steps wds tb ord tk log tk' log'
/-- how a run ends -/
structure EndsAt (wds : List WD) (tb : List (List Int)) (ord : List Int) (tk : List Int) (b : Bool) : Prop where
  kept : b = true → firstB (stand tb tk) wds ord = none
  spent : b = false → ∃ k, firstB (stand tb tk) wds ord = some k ∧ canN tb tk (plc wds k) = false
theorem goR_steps {wds : List WD} {tb : List (List Int)} {ord : List Int} {R : Res} : ∀ (n : Nat) (tk : List Int) (log : Log), goR wds tb ord n tk log = some R → ∃ tkE, Steps wds tb ord tk log tkE R.2.2 ∧ R.2.1 = stand tb tkE ∧ EndsAt wds tb ord tkE R.1
  | 0, _, _, h => nomatch h
  | n + 1, tk, log, h => by
    rw [goR] at h
    cases e : firstB (stand tb tk) wds ord with
    | none =>
      rw [e] at h
      have z := Option.some.inj h
      rw [← z]
      exact ⟨tk, .refl _ _, rfl, fun _ => e, fun z => nomatch z⟩
    | some k =>
      rw [e] at h
      dsimp only at h
      cases c : canN tb tk (plc wds k) with
      | false =>
        rw [c, if_neg (by decide)] at h
        have z := Option.some.inj h
        rw [← z]
        exact ⟨tk, .refl _ _, rfl, (fun z => nomatch z), fun _ => ⟨k, e, c⟩⟩
      | true =>
        rw [c, if_pos rfl] at h
        obtain ⟨tkE, h1, h2, h3⟩ := goR_steps n _ _ h
        exact ⟨tkE, .step e c h1, h2, h3⟩
theorem steps_goR {wds : List WD} {tb : List (List Int)} {ord : List Int} {tk tk' : List Int} {log log' : Log} (s : Steps wds tb ord tk log tk' log') : ∃ c : Nat, ∀ m, goR wds tb ord (m + c) tk log = goR wds tb ord m tk' log' := by
  induction s with
  | refl tk log => exact ⟨0, fun m => rfl⟩
  | @step tk tk' log log' k e c s ih =>
    obtain ⟨n, hn⟩ := ih
    refine ⟨n + 1, fun m => ?_⟩
    show goR wds tb ord (m + n + 1) tk log = _
    rw [goR, e]
    dsimp only
    rw [c, if_pos rfl]
    exact hn m
theorem ends_goR {wds : List WD} {tb : List (List Int)} {ord : List Int} {tk : List Int} {b : Bool} (h : EndsAt wds tb ord tk b) (m : Nat) (log : Log) : goR wds tb ord (m + 1) tk log = some (b, stand tb tk, log) := by
  rw [goR]
  cases b with
  | true => rw [h.kept rfl]
  | false =>
    obtain ⟨k, h1, h2⟩ := h.spent rfl
    rw [h1]
    dsimp only
    rw [h2, if_neg (by decide)]
theorem goR_more {wds : List WD} {tb : List (List Int)} {ord : List Int} {R : Res} : ∀ (n : Nat) (tk : List Int) (log : Log) (m : Nat), goR wds tb ord n tk log = some R → goR wds tb ord (n + m) tk log = some R
  | 0, _, _, _, h => nomatch h
  | n + 1, tk, log, m, h => by
    rw [show n + 1 + m = (n + m) + 1 by omega]
    rw [goR] at h ⊢
    cases e : firstB (stand tb tk) wds ord with
    | none => rw [e] at h; exact h
    | some k =>
      rw [e] at h
      dsimp only at h ⊢
      cases c : canN tb tk (plc wds k) with
      | false => rw [c, if_neg (by decide)] at h; rw [if_neg (by decide)]; exact h
      | true =>
        rw [c, if_pos rfl] at h
        rw [if_pos rfl]
        exact goR_more n _ _ m h
theorem goR_one {wds : List WD} {tb : List (List Int)} {ord : List Int} {R R' : Res} {n n' : Nat} {tk : List Int} {log : Log} (h : goR wds tb ord n tk log = some R) (h' : goR wds tb ord n' tk log = some R') : R = R' := by
  have a := goR_more n tk log n' h
  have b := goR_more n' tk log n h'
  rw [Nat.add_comm] at b
  exact Option.some.inj (a.symm.trans b)
/-- a run by its steps -/
theorem runOf_of {many hues : Int} {wds : List WD} {tb : List (List Int)} {ord : List Int} (gr : GoodR many hues wds) (nd : ∀ wd ∈ wds, wd.1.Nodup) (gt : GoodT many hues tb) (go : GoodO wds.length ord) {tk : List Int} {log : Log} {b : Bool} (s : Steps wds tb ord (zerosI tb.length) [] tk log) (e : EndsAt wds tb ord tk b) : runOf wds tb ord = some (b, stand tb tk, log) := by
  obtain ⟨R, hR, _⟩ := runOf_some gr nd gt go
  obtain ⟨c, hc⟩ := steps_goR s
  have z := ends_goR e 0 log
  rw [← hc (0 + 1)] at z
  rw [hR]
  exact congrArg some (goR_one hR z)
theorem runOf_steps {wds : List WD} {tb : List (List Int)} {ord : List Int} {R : Res} (h : runOf wds tb ord = some R) : ∃ tkE, Steps wds tb ord (zerosI tb.length) [] tkE R.2.2 ∧ R.2.1 = stand tb tkE ∧ EndsAt wds tb ord tkE R.1 := goR_steps _ _ _ h
/-! ### what stays along steps -/
structure Fit (many hues : Int) (wds : List WD) (tb : List (List Int)) (ord : List Int) : Prop where
  gr : GoodR many hues wds
  nd : ∀ wd ∈ wds, wd.1.Nodup
  len : (tb.length : Int) = many
  go : GoodO wds.length ord
theorem can_fit {many hues : Int} {wds : List WD} {tb : List (List Int)} {tk : List Int} {ord : List Int} {k : Int} (f : Fit many hues wds tb ord) (e : firstB (stand tb tk) wds ord = some k) (h : canN tb tk (plc wds k) = true) : Can tb tk (plc wds k) ∧ ∃ wd, wds[k.toNat]? = some wd ∧ plc wds k = wd.1 ∧ brkAt (stand tb tk) wds k.toNat = true ∧ 0 ≤ k ∧ k < (wds.length : Int) := by
  obtain ⟨hk, hb⟩ := first_some e
  obtain ⟨k0, k1⟩ := f.go.mem k hk
  obtain ⟨wd, hw, he⟩ := wd_of k0 k1
  refine ⟨⟨?_, fun p hp => ?_, fun p hp => of_decide_eq_true (List.all_eq_true.mp h p hp)⟩, wd, hw, he, hb, k0, k1⟩
  · rw [he]; exact f.nd wd (List.mem_of_getElem? hw)
  · rw [he] at hp
    have := (f.gr.each wd (List.mem_of_getElem? hw)).pl p hp
    have := f.len
    omega
theorem steps_good {many hues : Int} {wds : List WD} {tb : List (List Int)} {ord : List Int} (f : Fit many hues wds tb ord) {tk tk' : List Int} {log log' : Log} (s : Steps wds tb ord tk log tk' log') (g : GoodK tb tk) : GoodK tb tk' := by
  induction s with
  | refl => exact g
  | step e c s ih => exact ih (bumpA_good g (can_fit f e c).1).1
theorem atF_bump (tk : List Int) (p q : Int) (h0 : 0 ≤ p) (h1 : p < (tk.length : Int)) (hq : 0 ≤ q) : atF (bump tk p.toNat) q = atF tk q + (if q = p then 1 else 0) := by
  unfold atF
  rw [bump_get]
  by_cases e : q = p
  · subst e
    rw [if_pos ⟨rfl, by omega⟩, if_pos rfl]
  · rw [if_neg (fun z => e (by omega)), if_neg e, Int.add_zero]
theorem atF_bumpA : ∀ (ps : List Int) (tk : List Int) (q : Int), ps.Nodup → (∀ p ∈ ps, 0 ≤ p ∧ p < (tk.length : Int)) → 0 ≤ q → atF (bumpA tk ps) q = atF tk q + (if q ∈ ps then 1 else 0)
  | [], tk, q, _, _, _ => by simp [bumpA]
  | p :: r, tk, q, nd, h, hq => by
    have hp := h p List.mem_cons_self
    have nd2 := List.nodup_cons.mp nd
    show atF (bumpA (bump tk p.toNat) r) q = _
    rw [atF_bumpA r (bump tk p.toNat) q nd2.2 (fun x hx => by rw [bump_len]; exact h x (List.mem_cons_of_mem _ hx)) hq, atF_bump tk p q hp.1 hp.2 hq]
    by_cases e : q = p
    · subst e
      rw [if_pos rfl, if_neg nd2.1, if_pos List.mem_cons_self]
      omega
    · rw [if_neg e, Int.add_zero]
      by_cases e2 : q ∈ r
      · rw [if_pos e2, if_pos (List.mem_cons_of_mem _ e2)]
      · rw [if_neg e2, if_neg (fun z => (List.mem_cons.mp z).elim e e2)]
def cntP (wds : List WD) (log : Log) (p : Int) : Nat := (log.filter fun e => decide (p ∈ plc wds e.1)).length
theorem cntP_snoc (wds : List WD) (log : Log) (e : Int × List Int) (p : Int) : cntP wds (log ++ [e]) p = cntP wds log p + (if p ∈ plc wds e.1 then 1 else 0) := by
  unfold cntP
  rw [List.filter_append, List.length_append]
  by_cases h : p ∈ plc wds e.1
  · simp [h]
  · simp [h]
theorem steps_cnt {many hues : Int} {wds : List WD} {tb : List (List Int)} {ord : List Int} (f : Fit many hues wds tb ord) {tk tk' : List Int} {log log' : Log} (s : Steps wds tb ord tk log tk' log') (g : GoodK tb tk) (h : ∀ p, 0 ≤ p → p < (tb.length : Int) → atF tk p = cntP wds log p) : ∀ p, 0 ≤ p → p < (tb.length : Int) → atF tk' p = cntP wds log' p := by
  induction s with
  | refl => exact h
  | @step tk tk' log log' k e c s ih =>
    have cf := (can_fit f e c).1
    refine ih (bumpA_good g cf).1 fun p p0 p1 => ?_
    rw [atF_bumpA _ _ _ cf.nd (fun x hx => by rw [g.len]; exact cf.pl x hx) p0, cntP_snoc, h p p0 p1]
    by_cases e2 : p ∈ plc wds k
    · rw [if_pos e2, if_pos e2]; rfl
    · rw [if_neg e2, if_neg e2]; rfl
theorem steps_le {many hues : Int} {wds : List WD} {tb : List (List Int)} {ord : List Int} (f : Fit many hues wds tb ord) {tk tk' : List Int} {log log' : Log} (s : Steps wds tb ord tk log tk' log') (g : GoodK tb tk) : ∀ p, 0 ≤ p → atF tk p ≤ atF tk' p := by
  induction s with
  | refl => exact fun _ _ => Int.le_refl _
  | @step tk tk' log log' k e c s ih =>
    intro p p0
    have cf := (can_fit f e c).1
    have a := ih (bumpA_good g cf).1 p p0
    rw [atF_bumpA _ _ _ cf.nd (fun x hx => by rw [g.len]; exact cf.pl x hx) p0] at a
    split at a <;> omega
theorem steps_pre {wds : List WD} {tb : List (List Int)} {ord : List Int} {tk tk' : List Int} {log log' : Log} (s : Steps wds tb ord tk log tk' log') : ∃ more, log' = log ++ more := by
  induction s with
  | refl => exact ⟨[], by rw [List.append_nil]⟩
  | step e c s ih =>
    obtain ⟨more, h⟩ := ih
    exact ⟨_, by rw [h, List.append_assoc]⟩
/-! ### tables that agree so far -/
structure Agree (tb tb' : List (List Int)) (tk : List Int) : Prop where
  len : tb'.length = tb.length
  long : ∀ p : Nat, p < tb.length → tk.getD p 0 < ((tb'.getD p []).length : Int)
  eq : ∀ p : Nat, p < tb.length → (tb'.getD p []).take ((tk.getD p 0).toNat + 1) = (tb.getD p []).take ((tk.getD p 0).toNat + 1)
theorem take_at {a b : List Int} {n j : Nat} (h : a.take (n + 1) = b.take (n + 1)) (hj : j ≤ n) : a.getD j 0 = b.getD j 0 := by
  have z := congrArg (fun l : List Int => l[j]?) h
  simp only [List.getElem?_take] at z
  rw [if_pos (by omega), if_pos (by omega)] at z
  rw [List.getD_eq_getElem?_getD, List.getD_eq_getElem?_getD, z]
theorem Agree.stand {tb tb' : List (List Int)} {tk tkE : List Int} (a : Agree tb tb' tkE) (g : GoodK tb tk) (h : ∀ p, 0 ≤ p → atF tk p ≤ atF tkE p) : stand tb' tk = stand tb tk := by
  have g' : GoodK tb' tk := by
    refine ⟨by rw [a.len]; exact g.len, fun p hp => ?_⟩
    rw [a.len] at hp
    have b := g.at_ p hp
    have c := a.long p hp
    have d := h p (by omega)
    unfold atF at d
    rw [Int.toNat_natCast] at d
    omega
  refine List.ext_getElem? fun i => ?_
  by_cases hi : i < tb.length
  · rw [stand_get g' (by rw [a.len]; exact hi), stand_get g hi]
    have b := g.at_ i hi
    have d := h i (by omega)
    unfold atF at d ⊢
    rw [Int.toNat_natCast] at d
    rw [take_at (a.eq i hi) (by omega)]
  · rw [List.getElem?_eq_none (by rw [stand_len g', a.len]; omega), List.getElem?_eq_none (by rw [stand_len g]; omega)]
theorem agree_good {tb tb' : List (List Int)} {tk tkE : List Int} (a : Agree tb tb' tkE) (g : GoodK tb tk) (h : ∀ p, 0 ≤ p → atF tk p ≤ atF tkE p) : GoodK tb' tk := by
  refine ⟨by rw [a.len]; exact g.len, fun p hp => ?_⟩
  rw [a.len] at hp
  have b := g.at_ p hp
  have c := a.long p hp
  have d := h p (by omega)
  unfold atF at d
  rw [Int.toNat_natCast] at d
  omega
theorem steps_agree {many hues : Int} {wds : List WD} {tb tb' : List (List Int)} {ord : List Int} (f : Fit many hues wds tb ord) {tk tkE : List Int} {log log' : Log} (s : Steps wds tb ord tk log tkE log') (g : GoodK tb tk) (a : Agree tb tb' tkE) : Steps wds tb' ord tk log tkE log' := by
  induction s with
  | refl => exact .refl _ _
  | @step tk tkE log log' k e c s ih =>
    have cf := (can_fit f e c).1
    have g2 := (bumpA_good g cf).1
    have le2 := steps_le f s g2
    have le1 := steps_le f (.step e c s) g
    have es := a.stand g le1
    have ih2 := ih g2 a
    refine .step (k := k) (by rw [es]; exact e) ?_ (by rw [es]; exact ih2)
    refine List.all_eq_true.mpr fun p hp => decide_eq_true ?_
    have pp := cf.pl p hp
    have b := le2 p pp.1
    rw [atF_bumpA _ _ _ cf.nd (fun x hx => by rw [g.len]; exact cf.pl x hx) pp.1, if_pos hp] at b
    have d := a.long p.toNat (by omega)
    unfold atF lenAt at *
    omega
/-! ### the draws told back -/
def app1 (tb : List (List Int)) (p : Nat) (h : Int) : List (List Int) := tb.set p (tb.getD p [] ++ [h])
def appA (tb : List (List Int)) (ps row : List Int) : List (List Int) := (ps.zip row).foldl (fun t x => app1 t x.1.toNat x.2) tb
def toldL (wds : List WD) (n : Nat) (log : Log) : List (List Int) := log.foldl (fun t e => appA t (plc wds e.1) e.2) (List.replicate n [])
def finA (tb : List (List Int)) (fs : List Int) (i : Nat) : List (List Int) := (List.range i).foldl (fun t j => app1 t j (fs.getD j 0)) tb
def toldT (wds : List WD) (fs : List Int) (log : Log) : List (List Int) := finA (toldL wds fs.length log) fs fs.length
def takes (tb : List (List Int)) (tk : List Int) : List (List Int) := List.zipWith (fun ds k => ds.take k.toNat) tb tk
def firsts (tb : List (List Int)) (tk : List Int) : List (List Int) := List.zipWith (fun ds k => ds.take (k.toNat + 1)) tb tk
theorem app1_len (tb : List (List Int)) (p : Nat) (h : Int) : (app1 tb p h).length = tb.length := by simp [app1]
theorem app1_get (tb : List (List Int)) (p i : Nat) (h : Int) : (app1 tb p h).getD i [] = if i = p ∧ p < tb.length then tb.getD p [] ++ [h] else tb.getD i [] := by
  unfold app1
  rw [List.getD_eq_getElem?_getD, List.getElem?_set]
  by_cases e : p = i
  · subst e
    by_cases h2 : p < tb.length
    · rw [if_pos rfl, if_pos h2, if_pos ⟨rfl, h2⟩]; rfl
    · rw [if_pos rfl, if_neg h2, if_neg (fun z => h2 z.2), List.getD_eq_getElem?_getD, List.getElem?_eq_none (by omega)]
  · rw [if_neg e, if_neg (fun z => e z.1.symm), List.getD_eq_getElem?_getD]
theorem appA_len : ∀ (ps row : List Int) (tb : List (List Int)), (appA tb ps row).length = tb.length
  | [], _, _ => rfl
  | _ :: _, [], _ => rfl
  | p :: r, h :: q, tb => by
    show (appA (app1 tb p.toNat h) r q).length = _
    rw [appA_len r q, app1_len]
theorem toldL_len (wds : List WD) (n : Nat) : ∀ log : Log, (toldL wds n log).length = n := fun log => by
  unfold toldL
  have : ∀ (log : Log) (tb : List (List Int)), (log.foldl (fun t e => appA t (plc wds e.1) e.2) tb).length = tb.length := by
    intro log
    induction log with
    | nil => intro _; rfl
    | cons e r ih => intro tb; rw [List.foldl_cons, ih, appA_len]
  rw [this, List.length_replicate]
theorem toldL_snoc (wds : List WD) (n : Nat) (log : Log) (e : Int × List Int) : toldL wds n (log ++ [e]) = appA (toldL wds n log) (plc wds e.1) e.2 := by
  unfold toldL
  rw [List.foldl_append]
  rfl
theorem finA_succ (tb : List (List Int)) (fs : List Int) (i : Nat) : finA tb fs (i + 1) = app1 (finA tb fs i) i (fs.getD i 0) := by
  unfold finA
  rw [List.range_succ, List.foldl_append]
  rfl
theorem finA_len (tb : List (List Int)) (fs : List Int) : ∀ i : Nat, (finA tb fs i).length = tb.length
  | 0 => rfl
  | i + 1 => by rw [finA_succ, app1_len, finA_len tb fs i]
theorem finA_get (tb : List (List Int)) (fs : List Int) : ∀ (i q : Nat), i ≤ tb.length → (finA tb fs i).getD q [] = if q < i then tb.getD q [] ++ [fs.getD q 0] else tb.getD q []
  | 0, q, _ => by rw [if_neg (Nat.not_lt_zero _)]; rfl
  | i + 1, q, h => by
    rw [finA_succ, app1_get, finA_len, finA_get tb fs i q (by omega), finA_get tb fs i i (by omega)]
    by_cases e : q = i
    · subst e
      rw [if_pos ⟨rfl, by omega⟩, if_neg (Nat.lt_irrefl _), if_pos (Nat.lt_succ_self _)]
    · rw [if_neg (fun z => e z.1)]
      by_cases e2 : q < i
      · rw [if_pos e2, if_pos (by omega)]
      · rw [if_neg e2, if_neg (by omega)]
theorem toldT_len (wds : List WD) (fs : List Int) (log : Log) : (toldT wds fs log).length = fs.length := by
  rw [toldT, finA_len, toldL_len]
theorem toldT_get (wds : List WD) (fs : List Int) (log : Log) {q : Nat} (h : q < fs.length) : (toldT wds fs log).getD q [] = (toldL wds fs.length log).getD q [] ++ [fs.getD q 0] := by
  rw [toldT, finA_get _ _ _ _ (by rw [toldL_len]; exact Nat.le_refl _), if_pos h]
theorem takes_len {tb : List (List Int)} {tk : List Int} (g : GoodK tb tk) : (takes tb tk).length = tb.length := by
  unfold takes
  rw [List.length_zipWith, g.len, Nat.min_self]
theorem takes_get {tb : List (List Int)} {tk : List Int} (g : GoodK tb tk) {p : Nat} (hp : p < tb.length) : (takes tb tk)[p]? = some ((tb.getD p []).take (tk.getD p 0).toNat) := by
  have h2 : p < tk.length := by rw [g.len]; exact hp
  unfold takes
  rw [List.getElem?_zipWith, List.getElem?_eq_getElem hp, List.getElem?_eq_getElem h2, getD_get hp, getD_get h2]
theorem firsts_len {tb : List (List Int)} {tk : List Int} (g : GoodK tb tk) : (firsts tb tk).length = tb.length := by
  unfold firsts
  rw [List.length_zipWith, g.len, Nat.min_self]
theorem firsts_get {tb : List (List Int)} {tk : List Int} (g : GoodK tb tk) {p : Nat} (hp : p < tb.length) : (firsts tb tk)[p]? = some ((tb.getD p []).take ((tk.getD p 0).toNat + 1)) := by
  have h2 : p < tk.length := by rw [g.len]; exact hp
  unfold firsts
  rw [List.getElem?_zipWith, List.getElem?_eq_getElem hp, List.getElem?_eq_getElem h2, getD_get hp, getD_get h2]
theorem getD_of {α : Type} {l : List α} {i : Nat} {a d : α} (h : l[i]? = some a) : l.getD i d = a := by
  rw [List.getD_eq_getElem?_getD, h]
  rfl
theorem take1 {tb : List (List Int)} {tk : List Int} {p : Nat} (g : GoodK tb tk) (hp : p < tb.length) (h : tk.getD p 0 + 1 < ((tb.getD p []).length : Int)) : app1 (takes tb tk) p (atF (tb.getD p []) (tk.getD p 0)) = takes tb (bump tk p) := by
  have g2 := good_bump g hp h
  have a := g.at_ p hp
  refine List.ext_getElem? fun i => ?_
  unfold app1
  rw [List.getElem?_set]
  by_cases hi : i < tb.length
  · rw [takes_get g2 hi, bump_get]
    by_cases e : p = i
    · subst e
      rw [if_pos rfl, if_pos (by rw [takes_len g]; exact hp), if_pos ⟨rfl, by rw [g.len]; exact hp⟩, getD_of (takes_get g hp)]
      have en : (tk.getD p 0 + 1).toNat = (tk.getD p 0).toNat + 1 := by omega
      have hl : (tk.getD p 0).toNat < (tb.getD p []).length := by omega
      rw [en, List.take_add_one, atF, getD_get hl, List.getElem?_eq_getElem hl]
      rfl
    · rw [if_neg e, if_neg (fun z => e z.1.symm), takes_get g hi]
  · rw [if_neg (by omega), List.getElem?_eq_none (by rw [takes_len g]; omega), List.getElem?_eq_none (by rw [takes_len g2]; omega)]
theorem takeA : ∀ (ps : List Int) {tb : List (List Int)} {tk : List Int} (w : Int → Int), GoodK tb tk → Can tb tk ps → (∀ p ∈ ps, w p = atF (tb.getD p.toNat []) (atF tk p)) → appA (takes tb tk) ps (ps.map w) = takes tb (bumpA tk ps)
  | [], _, _, _, _, _, _ => rfl
  | p :: r, tb, tk, w, g, c, h => by
    have hp := c.pl p List.mem_cons_self
    have hn := c.nx p List.mem_cons_self
    have hpn : p.toNat < tb.length := by omega
    show appA (app1 (takes tb tk) p.toNat (w p)) r (r.map w) = takes tb (bumpA (bump tk p.toNat) r)
    rw [h p List.mem_cons_self, show atF tk p = tk.getD p.toNat 0 from rfl, take1 g hpn hn]
    refine takeA r w (good_bump g hpn hn) c.tail fun q hq => ?_
    have hq2 := c.pl q (List.mem_cons_of_mem _ hq)
    have hne : q ≠ p := fun z => (List.nodup_cons.mp c.nd).1 (z ▸ hq)
    rw [h q (List.mem_cons_of_mem _ hq), atF_bump tk p q hp.1 (by rw [g.len]; exact hp.2) hq2.1, if_neg hne, Int.add_zero]
theorem steps_told {many hues : Int} {wds : List WD} {tb : List (List Int)} {ord : List Int} (f : Fit many hues wds tb ord) {tk tk' : List Int} {log log' : Log} (s : Steps wds tb ord tk log tk' log') (g : GoodK tb tk) (h : toldL wds tb.length log = takes tb tk) : toldL wds tb.length log' = takes tb tk' := by
  induction s with
  | refl => exact h
  | @step tk tk' log log' k e c s ih =>
    have cf := (can_fit f e c).1
    refine ih (bumpA_good g cf).1 ?_
    rw [toldL_snoc, h]
    refine takeA _ _ g cf fun p hp => ?_
    have pp := cf.pl p hp
    have hpn : p.toNat < tb.length := by omega
    show atF (stand tb tk) p = _
    rw [atF, getD_of (stand_get g hpn)]
    rfl
theorem told_end {wds : List WD} {tb : List (List Int)} {tk : List Int} {log : Log} (g : GoodK tb tk) (h : toldL wds tb.length log = takes tb tk) : toldT wds (stand tb tk) log = firsts tb tk := by
  refine List.ext_getElem? fun i => ?_
  by_cases hi : i < tb.length
  · have hs : i < (stand tb tk).length := by rw [stand_len g]; exact hi
    have e := toldT_get wds (stand tb tk) log hs
    rw [stand_len g, h, getD_of (takes_get g hi), getD_of (stand_get g hi)] at e
    have hl : i < (toldT wds (stand tb tk) log).length := by rw [toldT_len]; exact hs
    rw [getD_get hl] at e
    rw [List.getElem?_eq_getElem hl, e, firsts_get g hi]
    have a := g.at_ i hi
    have hl2 : (tk.getD i 0).toNat < (tb.getD i []).length := by omega
    rw [List.take_add_one, atF, getD_get hl2, List.getElem?_eq_getElem hl2]
    rfl
  · rw [List.getElem?_eq_none (by rw [toldT_len, stand_len g]; omega), List.getElem?_eq_none (by rw [firsts_len g]; omega)]
theorem takes_zero {tb : List (List Int)} : toldL wds tb.length [] = takes tb (zerosI tb.length) := by
  show List.replicate tb.length [] = _
  unfold takes zerosI
  refine List.ext_getElem? fun i => ?_
  rw [List.getElem?_zipWith, List.getElem?_replicate, List.getElem?_replicate]
  by_cases hi : i < tb.length
  · rw [if_pos hi, if_pos hi, List.getElem?_eq_getElem hi]
    rfl
  · rw [if_neg hi, if_neg hi, List.getElem?_eq_none (by omega)]
/-- all of a run -/
structure RunEnd (many hues : Int) (wds : List WD) (tb : List (List Int)) (ord : List Int) (R : Res) (tk : List Int) : Prop where
  gk : GoodK tb tk
  st : Steps wds tb ord (zerosI tb.length) [] tk R.2.2
  fs : R.2.1 = stand tb tk
  en : EndsAt wds tb ord tk R.1
  told : toldT wds R.2.1 R.2.2 = firsts tb tk
  cnt : ∀ p, 0 ≤ p → p < (tb.length : Int) → atF tk p = cntP wds R.2.2 p
theorem runEnd_of {many hues : Int} {wds : List WD} {tb : List (List Int)} {ord : List Int} {R : Res} (gr : GoodR many hues wds) (nd : ∀ wd ∈ wds, wd.1.Nodup) (gt : GoodT many hues tb) (go : GoodO wds.length ord) (h : runOf wds tb ord = some R) : ∃ tk, RunEnd many hues wds tb ord R tk := by
  obtain ⟨tk, s, e, en⟩ := runOf_steps h
  have f : Fit many hues wds tb ord := ⟨gr, nd, gt.len, go⟩
  have g0 := zeros_good gt
  have gk := steps_good f s g0
  refine ⟨tk, gk, s, e, en, ?_, steps_cnt f s g0 fun p p0 _ => ?_⟩
  · rw [e]
    exact told_end gk (steps_told f s g0 takes_zero)
  · unfold atF
    rw [zeros_get]
    rfl
theorem firsts_good {many hues : Int} {tb : List (List Int)} {tk : List Int} (gt : GoodT many hues tb) (g : GoodK tb tk) : GoodT many hues (firsts tb tk) := by
  have key : ∀ ds ∈ firsts tb tk, ∃ d ∈ tb, ∃ n, ds = d.take (n + 1) := fun ds h => by
    obtain ⟨i, hi, e⟩ := List.getElem_of_mem h
    rw [firsts_len g] at hi
    have z := firsts_get g hi
    rw [List.getElem?_eq_getElem (by rw [firsts_len g]; exact hi), e] at z
    exact ⟨_, getD_mem hi, _, Option.some.inj z⟩
  refine ⟨by rw [firsts_len g]; exact gt.len, fun ds h => ?_, fun ds h => ?_, fun ds h z hz => ?_⟩
  · obtain ⟨d, hd, n, rfl⟩ := key ds h
    have := gt.one d hd
    rw [List.length_take]
    omega
  · obtain ⟨d, hd, n, rfl⟩ := key ds h
    have := gt.few d hd
    rw [List.length_take]
    omega
  · obtain ⟨d, hd, n, rfl⟩ := key ds h
    exact gt.hue d hd z (List.mem_of_mem_take hz)
theorem firsts_agree {tb : List (List Int)} {tk : List Int} (g : GoodK tb tk) : Agree tb (firsts tb tk) tk := by
  refine ⟨firsts_len g, fun p hp => ?_, fun p hp => ?_⟩
  · rw [getD_of (firsts_get g hp), List.length_take]
    have := g.at_ p hp
    omega
  · rw [getD_of (firsts_get g hp), List.take_take, Nat.min_self]
/-- the run of the draws taken alone -/
theorem run_firsts {many hues : Int} {wds : List WD} {tb : List (List Int)} {ord : List Int} {R : Res} {tk : List Int} (gr : GoodR many hues wds) (nd : ∀ wd ∈ wds, wd.1.Nodup) (gt : GoodT many hues tb) (go : GoodO wds.length ord) (e : RunEnd many hues wds tb ord R tk) : runOf wds (firsts tb tk) ord = some R := by
  have f : Fit many hues wds tb ord := ⟨gr, nd, gt.len, go⟩
  have ag := firsts_agree e.gk
  have s' := steps_agree f e.st (zeros_good gt) ag
  have es : stand (firsts tb tk) tk = stand tb tk := ag.stand e.gk fun _ _ => Int.le_refl _
  have s2 : Steps wds (firsts tb tk) ord (zerosI (firsts tb tk).length) [] tk R.2.2 := by rw [firsts_len e.gk]; exact s'
  have z := runOf_of gr nd (firsts_good gt e.gk) go (b := R.1) s2 ⟨fun b => by rw [es]; exact e.en.kept b, fun b => by
    obtain ⟨k, h1, h2⟩ := e.en.spent b
    refine ⟨k, by rw [es]; exact h1, ?_⟩
    obtain ⟨hk, hb⟩ := first_some h1
    obtain ⟨k0, k1⟩ := go.mem k hk
    obtain ⟨wd, hw, he⟩ := wd_of k0 k1
    have gw := gr.each wd (List.mem_of_getElem? hw)
    obtain ⟨p, hp⟩ := List.exists_mem_of_length_pos (show 0 < wd.1.length from gw.one)
    rw [canN, List.all_eq_false]
    refine ⟨p, by rw [he]; exact hp, ?_⟩
    have pp := gw.pl p hp
    have hl := gt.len
    have hpn : p.toNat < tb.length := by omega
    have a := e.gk.at_ _ hpn
    rw [decide_eq_true_eq, lenAt, getD_of (firsts_get e.gk hpn), List.length_take]
    unfold atF
    omega⟩
  rw [z, es, ← e.fs]
/-- the run of a table that goes on -/
theorem run_longer {many hues : Int} {wds : List WD} {tb tb' : List (List Int)} {ord : List Int} {R R' : Res} {tk : List Int} (gr : GoodR many hues wds) (nd : ∀ wd ∈ wds, wd.1.Nodup) (gt : GoodT many hues tb) (gt' : GoodT many hues tb') (go : GoodO wds.length ord) (e : RunEnd many hues wds tb ord R tk) (hR' : runOf wds tb' ord = some R')
    (pre : ∀ p : Nat, p < tb.length → ∃ more, tb'.getD p [] = tb.getD p [] ++ more) : (R.1 = true → R' = R) ∧ ∃ more, R'.2.2 = R.2.2 ++ more := by
  have f : Fit many hues wds tb ord := ⟨gr, nd, gt.len, go⟩
  have hl := gt.len
  have hl' := gt'.len
  have ag : Agree tb tb' tk := by
    refine ⟨by omega, fun p hp => ?_, fun p hp => ?_⟩
    · obtain ⟨more, hm⟩ := pre p hp
      have a := e.gk.at_ p hp
      rw [hm, List.length_append]
      omega
    · obtain ⟨more, hm⟩ := pre p hp
      have a := e.gk.at_ p hp
      rw [hm, List.take_append_of_le_length (by omega)]
  have s' := steps_agree f e.st (zeros_good gt) ag
  have es : stand tb' tk = stand tb tk := ag.stand e.gk fun _ _ => Int.le_refl _
  rw [← ag.len] at s'
  refine ⟨fun b => ?_, ?_⟩
  · have z := runOf_of gr nd gt' go (b := R.1) s' ⟨fun b => by rw [es]; exact e.en.kept b, fun z => by rw [b] at z; cases z⟩
    rw [hR', es, ← e.fs] at z
    exact Option.some.inj z
  · obtain ⟨c, hc⟩ := steps_goR s'
    have a := goR_more _ _ _ c hR'
    rw [hc] at a
    obtain ⟨tkE, s2, _⟩ := goR_steps _ _ _ a
    exact steps_pre s2
end Dt

set_option Elab.async false
set_option linter.all false
set_option maxRecDepth 100000
set_option maxHeartbeats 4000000
namespace Rd
open PySem PySem.Spec PyProof.Rows L2 Dt
/-- a statement that is never come to -/
theorem ps_never {X : Cx} {st : Stmt} : PS X st (fun _ _ _ => False) := ⟨fun _ _ _ _ _ _ h => h.elim⟩
/-! ### lists within one that are changed -/
theorem paired_mod {H : Hp} {d : Addr} {l' : List Int} : ∀ {das : List Addr} {T : List (List Int)} {p : Nat}, Paired (IsInts H) das T → das.Nodup → das[p]? = some d → Paired (IsInts (upd H d (.lst (l'.map V.int)))) das (T.set p l')
  | _, _, p, .nil, _, h => by simp at h
  | a :: r, l :: q, 0, .cons h t, nd, e => by
    have ea : a = d := Option.some.inj e
    subst ea
    have nd2 := List.nodup_cons.mp nd
    exact .cons (by show upd H a _ a = _; exact upd_same) (paired_upd t fun x hx (z : x = a) => nd2.1 (by rw [← z]; exact hx))
  | a :: r, l :: q, p + 1, .cons h t, nd, e => by
    have nd2 := List.nodup_cons.mp nd
    have hm : d ∈ r := List.mem_of_getElem? (show r[p]? = some d from e)
    exact .cons (by show upd H d _ a = _; rw [upd_ne (fun z : a = d => nd2.1 (by rw [z]; exact hm))]; exact h) (paired_mod t nd2.2 e)
theorem paired_len_upd {H : Hp} {D : Addr} {o : HO} {das : List Addr} {T : List (List Int)} (p : Paired (IsInts H) das T) (n : D ∉ das) : Paired (IsInts (upd H D o)) das T := paired_upd p fun d hd (z : d = D) => n (by rw [← z]; exact hd)
/-- a new list of new lists, no two one -/
structure NewTab (H H' : Hp) (ta : Addr) (das : List Addr) (T : List (List Int)) : Prop where
  ht : H' ta = some (.lst (das.map V.ref))
  nt : H ta = none
  nd : das.Nodup
  new : ∀ d ∈ das, H d = none ∧ d ≠ ta
  pr : Paired (IsInts H') das T
theorem NewTab.tab {H H' : Hp} {ta : Addr} {das : List Addr} {T : List (List Int)} (h : NewTab H H' ta das T) : IsTab (Old H) H' ta T := ⟨das, h.ht, fun z => z h.nt, fun d hd z => z (h.new d hd).1, h.pr⟩
theorem NewTab.app {H H' : Hp} {ta : Addr} {das : List Addr} {T : List (List Int)} {p : Nat} {d : Addr} {l : List Int} {x : Int} (h : NewTab H H' ta das T) (hd : das[p]? = some d) (hl : T[p]? = some l) : NewTab H (upd H' d (.lst ((l ++ [x]).map V.int))) ta das (app1 T p x) := by
  have hm := List.mem_of_getElem? hd
  refine ⟨by rw [upd_ne (h.new d hm).2.symm]; exact h.ht, h.nt, h.nd, h.new, ?_⟩
  unfold app1
  rw [getD_of hl]
  exact paired_mod h.pr h.nd hd
theorem NewTab.mono {H H' H2 : Hp} {ta : Addr} {das : List Addr} {T : List (List Int)} (h : NewTab H H' ta das T) (s : Seqs H' H2) : NewTab H H2 ta das T := ⟨s.2 _ _ h.ht, h.nt, h.nd, h.new, pairedMap (fun _ _ e => s.2 _ _ e) h.pr⟩
/-! ### how long told draws are -/
theorem app1_le (T : List (List Int)) (p q : Nat) (h : Int) : ((app1 T p h).getD q []).length ≤ (T.getD q []).length + 1 := by
  rw [app1_get]
  split
  · rename_i e
    rw [e.1, List.length_append]
    exact Nat.le_refl _
  · omega
theorem appA_le : ∀ (ps row : List Int) (T : List (List Int)) (q : Nat), ((appA T ps row).getD q []).length ≤ (T.getD q []).length + ps.length
  | [], _, _, _ => Nat.le_refl _
  | _ :: _, [], _, _ => Nat.le_add_right _ _
  | p :: r, h :: s, T, q => by
    have a := appA_le r s (app1 T p.toNat h) q
    have b := app1_le T p.toNat q h
    show ((appA (app1 T p.toNat h) r s).getD q []).length ≤ _
    rw [List.length_cons]
    omega
theorem appA_snoc (T : List (List Int)) : ∀ {ps row : List Int} {j : Nat} {p h : Int}, ps[j]? = some p → row[j]? = some h → appA T (ps.take (j + 1)) (row.take (j + 1)) = app1 (appA T (ps.take j) (row.take j)) p.toNat h := by
  intro ps row j p h hp hh
  unfold appA
  have e : (ps.take (j + 1)).zip (row.take (j + 1)) = (ps.take j).zip (row.take j) ++ [(p, h)] := by
    rw [take_snoc hp, take_snoc hh]
    rw [List.zip_append]
    · rfl
    · rw [List.length_take, List.length_take]
      have a := (List.getElem?_eq_some_iff.mp hp).1
      have b := (List.getElem?_eq_some_iff.mp hh).1
      omega
  rw [e, List.foldl_append]
  rfl
theorem toldL_le {wds : List WD} (h3 : ∀ wd ∈ wds, wd.1.length ≤ 3) (n q : Nat) : ∀ log : Log, ((toldL wds n log).getD q []).length ≤ 3 * log.length := by
  have pl3 : ∀ k : Int, (plc wds k).length ≤ 3 := fun k => by
    unfold plc
    rw [List.getD_eq_getElem?_getD]
    cases e : wds[k.toNat]? with
    | none => simp
    | some wd => exact h3 wd (List.mem_of_getElem? e)
  have key : ∀ (log : Log) (T : List (List Int)), ((log.foldl (fun t e => appA t (plc wds e.1) e.2) T).getD q []).length ≤ (T.getD q []).length + 3 * log.length := by
    intro log
    induction log with
    | nil => intro T; exact Nat.le_refl _
    | cons e r ih =>
      intro T
      rw [List.foldl_cons, List.length_cons]
      have a := ih (appA T (plc wds e.1) e.2)
      have b := appA_le (plc wds e.1) e.2 T q
      have c := pl3 e.1
      omega
  intro log
  have a := key log (List.replicate n [])
  have b : ((List.replicate n ([] : List Int)).getD q []).length = 0 := by
    rw [List.getD_eq_getElem?_getD, List.getElem?_replicate]
    split <;> rfl
  unfold toldL
  omega
/-! ### logs looked at -/
def entB (wds : List WD) (x : Int × List Int) : Bool := decide (0 ≤ x.1 ∧ x.1 < (wds.length : Int) ∧ x.2 ∈ (wds.getD x.1.toNat ([], [])).2)
def logB (wds : List WD) (log : Log) : Bool := log.all (entB wds)
theorem logB_ok {wds : List WD} {log : Log} (h : logB wds log = true) : LogOk wds log := fun e he => by
  obtain ⟨h0, h1, h2⟩ := of_decide_eq_true (List.all_eq_true.mp h e he)
  have hk : e.1.toNat < wds.length := by omega
  rw [getD_get hk] at h2
  exact ⟨h0, h1, _, List.getElem?_eq_getElem hk, h2⟩
theorem logB_of {wds : List WD} {log : Log} (h : LogOk wds log) : logB wds log = true := List.all_eq_true.mpr fun e he => by
  obtain ⟨h0, h1, wd, hw, hr⟩ := h e he
  exact decide_eq_true ⟨h0, h1, by rw [getD_of hw]; exact hr⟩
theorem shaped_row (r : Dt.Row) : SeqAt.shaped (rowD r) = true := by
  have a : ∀ l : List Int, PyData.canLayAll0 (l.map .int) = true := Gv.canAll_ints
  have b : ∀ l : List Int, PyData.depthAll (l.map .int) ≤ 1 := fun l => by
    induction l with
    | nil => simp [PyData.depthAll]
    | cons x q ih => simp only [List.map_cons, PyData.depthAll, PyData.depth]; omega
  show ((rowD r).canLay0 && decide ((rowD r).depth ≤ 64)) = true
  have d : (rowD r).depth ≤ 64 := by
    unfold rowD
    simp only [PyData.depth]
    have := b r
    omega
  have c : (rowD r).canLay0 = true := by
    unfold rowD
    simp only [PyData.canLay0]
    exact a r
  rw [c, decide_eq_true d]
  rfl
theorem row_hue {many hues : Int} {wds : List WD} (gr : GoodR many hues wds) {log : Log} (h : LogOk wds log) : ∀ e ∈ log, ∀ z ∈ e.2, 0 ≤ z ∧ z < hues := fun e he z hz => by
  obtain ⟨_, _, wd, hw, hr⟩ := h e he
  exact ((gr.each wd (List.mem_of_getElem? hw)).row _ hr).2 z hz
theorem app1_all {Pz : Int → Prop} {T : List (List Int)} {p : Nat} {x : Int} (h : ∀ l ∈ T, ∀ z ∈ l, Pz z) (hx : Pz x) : ∀ l ∈ app1 T p x, ∀ z ∈ l, Pz z := fun l hl z hz => by
  rcases List.mem_or_eq_of_mem_set hl with e | e
  · exact h l e z hz
  · rw [e] at hz
    rcases List.mem_append.mp hz with q | q
    · by_cases hp : p < T.length
      · exact h _ (getD_mem (d := []) hp) z q
      · rw [List.getD_eq_getElem?_getD, List.getElem?_eq_none (by omega)] at q
        cases q
    · rw [List.mem_singleton.mp q]; exact hx
theorem appA_all {Pz : Int → Prop} : ∀ (ps row : List Int) (T : List (List Int)), (∀ l ∈ T, ∀ z ∈ l, Pz z) → (∀ z ∈ row, Pz z) → ∀ l ∈ appA T ps row, ∀ z ∈ l, Pz z
  | [], _, _, h, _ => h
  | _ :: _, [], _, h, _ => h
  | p :: r, x :: s, T, h, hr => appA_all r s (app1 T p.toNat x) (app1_all h (hr x List.mem_cons_self)) fun z hz => hr z (List.mem_cons_of_mem _ hz)
theorem toldL_all {Pz : Int → Prop} (wds : List WD) (n : Nat) : ∀ log : Log, (∀ e ∈ log, ∀ z ∈ e.2, Pz z) → ∀ l ∈ toldL wds n log, ∀ z ∈ l, Pz z := by
  have key : ∀ (log : Log) (T : List (List Int)), (∀ l ∈ T, ∀ z ∈ l, Pz z) → (∀ e ∈ log, ∀ z ∈ e.2, Pz z) → ∀ l ∈ log.foldl (fun t e => appA t (plc wds e.1) e.2) T, ∀ z ∈ l, Pz z := by
    intro log
    induction log with
    | nil => intro T h _; exact h
    | cons e r ih =>
      intro T h hl
      rw [List.foldl_cons]
      exact ih _ (appA_all _ _ _ h (hl e List.mem_cons_self)) fun x hx => hl x (List.mem_cons_of_mem _ hx)
  intro log h
  refine key log _ (fun l hl z hz => ?_) h
  rw [(List.mem_replicate.mp hl).2] at hz
  cases hz
theorem told_good {many hues : Int} {wds : List WD} (gr : GoodR many hues wds) {fs : List Int} {log : Log} (gf : GoodF many hues fs) (h : LogOk wds log) (few : ∀ ds ∈ toldT wds fs log, ds.length ≤ 1000) : GoodT many hues (toldT wds fs log) := by
  have each : ∀ ds ∈ toldT wds fs log, ∃ q, q < fs.length ∧ ds = (toldL wds fs.length log).getD q [] ++ [fs.getD q 0] := fun ds hd => by
    obtain ⟨i, hi, e⟩ := List.getElem_of_mem hd
    rw [toldT_len] at hi
    refine ⟨i, hi, ?_⟩
    rw [← toldT_get wds fs log hi, getD_get (by rw [toldT_len]; exact hi), e]
  refine ⟨by rw [toldT_len]; exact gf.len, fun ds hd => ?_, few, fun ds hd z hz => ?_⟩
  · obtain ⟨q, _, e⟩ := each ds hd
    rw [e, List.length_append]
    exact Nat.le_add_left _ _
  · obtain ⟨q, hq, e⟩ := each ds hd
    rw [e] at hz
    rcases List.mem_append.mp hz with y | y
    · have hq2 : q < (toldL wds fs.length log).length := by rw [toldL_len]; exact hq
      exact toldL_all (Pz := fun z => 0 ≤ z ∧ z < hues) wds _ log (row_hue gr h) _ (getD_mem hq2) z y
    · rw [List.mem_singleton.mp y]
      exact gf.hue _ (Dt.getD_mem hq)
/-! ### equality of what is told -/
theorem eqv_ent (x y : Int × List Int) : PyData.eqv (entD x) (entD y) = decide (x = y) := by
  obtain ⟨a, r⟩ := x
  obtain ⟨b, s⟩ := y
  unfold entD
  have e := eqv_row r s
  simp only [PyData.eqv, PyData.eqvAll, e, Bool.and_true]
  by_cases h : a = b
  · subst h
    by_cases h2 : r = s
    · subst h2; simp
    · simp [h2]
  · simp [h]
theorem eqvAll_ents : ∀ a b : Log, PyData.eqvAll (a.map entD) (b.map entD) = decide (a = b)
  | [], [] => by simp [PyData.eqvAll]
  | [], _ :: _ => by simp [PyData.eqvAll]
  | _ :: _, [] => by simp [PyData.eqvAll]
  | x :: r, y :: q => by
    simp only [List.map_cons, PyData.eqvAll, eqv_ent, eqvAll_ents r q]
    by_cases h : x = y
    · subst h; simp
    · simp [h]
theorem eqv_log (a b : Log) : PyData.eqv (logD a) (logD b) = decide (a = b) := by
  unfold logD
  rw [PyData.eqv]
  exact eqvAll_ents a b
theorem eqv_endS (a b : Bool) : PyData.eqv (.str (endS a)) (.str (endS b)) = decide (a = b) := by
  cases a <;> cases b <;> decide +kernel
theorem eqv_res (R S : Res) : PyData.eqv (resD R) (resD S) = decide (R = S) := by
  obtain ⟨a, f, l⟩ := R
  obtain ⟨b, g, m⟩ := S
  unfold resD
  have e1 := eqv_endS a b
  have e2 := eqv_row f g
  have e3 := eqv_log l m
  rw [PyData.eqv]
  simp only [PyData.eqvAll, e1, e2, e3, Bool.and_true]
  by_cases h1 : a = b
  · by_cases h2 : f = g
    · by_cases h3 : l = m
      · subst h1; subst h2; subst h3; simp
      · simp [h3]
    · simp [h2]
  · simp [h1]
def isRunB (wds : List WD) (ord : List Int) (b : Bool) (fs : List Int) (log : Log) : Bool := logB wds log && decide (runOf wds (toldT wds fs log) ord = some (b, fs, log))
/-! ### frames but for the tape and some tables -/
structure FrT (tp : Addr) (Ps : List Addr) (H H' : Hp) : Prop where
  keep : ∀ b o, b ≠ tp → b ∉ Ps → H b = some o → H' b = some o
  tape : Tape H' tp
  tabs : Tabs Ps H'
theorem FrT.frs {tp : Addr} {Ps : List Addr} {H H' : Hp} (t : Tape H tp) (tt : Tabs Ps H) (f : FrS Ps H H') : FrT tp Ps H H' := ⟨fun b o _ n e => f.1 b o n e, t.seqs (f.seqs tt), f.2⟩
theorem FrT.taped {tp : Addr} {Ps : List Addr} {H H' : Hp} (t : Tape H tp) (tt : Tabs Ps H) (f : Taped tp H H') : FrT tp Ps H H' := ⟨fun b o n _ e => f.1 b o n e, f.2, f.tabs t tt⟩
theorem FrT.trans {tp : Addr} {Ps : List Addr} {H H1 H2 : Hp} (a : FrT tp Ps H H1) (b : FrT tp Ps H1 H2) : FrT tp Ps H H2 := ⟨fun x o n m e => b.keep x o n m (a.keep x o n m e), b.tape, b.tabs⟩
theorem FrT.refl {tp : Addr} {Ps : List Addr} {H : Hp} (t : Tape H tp) (tt : Tabs Ps H) : FrT tp Ps H H := ⟨fun _ _ _ _ e => e, t, tt⟩
theorem FrT.same {tp : Addr} {Ps : List Addr} {H H1 H2 : Hp} (a : FrT tp Ps H H1) (s : Same H1 H2) : FrT tp Ps H H2 := ⟨fun x o n m e => s _ _ (a.keep x o n m e), a.tape.same s, a.tabs.same s⟩
theorem FrT.put {tp : Addr} {Ps : List Addr} {H H1 : Hp} {b : Addr} {o : HO} (a : FrT tp Ps H H1) (n : H b = none) (nt : b ≠ tp) (np : b ∉ Ps) : FrT tp Ps H (upd H1 b o) := ⟨fun x u m k e => by rw [upd_ne (ne_of_none e n)]; exact a.keep x u m k e, a.tape.put nt, a.tabs.put np⟩
theorem FrT.tups {tp : Addr} {Ps : List Addr} {H H' : Hp} (t : Tape H tp) (tt : Tabs Ps H) (f : FrT tp Ps H H') : Tups H H' := fun b xs e => f.keep b _ (fun z => by
  obtain ⟨_, _, h1, _⟩ := t
  rw [z, h1] at e
  cases e) (tt.tup e) e
theorem FrT.lst {tp : Addr} {Ps : List Addr} {H H' : Hp} (tt : Tabs Ps H) (f : FrT tp Ps H H') {b : Addr} {xs : List V} (n : b ≠ tp) (e : H b = some (.lst xs)) : H' b = some (.lst xs) := f.keep b _ n (tt.lst e) e
theorem FrT.free {tp : Addr} {Ps : List Addr} {H H' : Hp} {b : Addr} (f : FrT tp Ps H H') (h : H' b = none) : H b = none := by
  cases e : H b with
  | none => rfl
  | some o =>
    have h1 := f.tape.new h
    have h2 := f.tabs.new h
    rw [f.keep b o h1 h2 e] at h
    cases h
theorem LI.frt {K : PySem.W.Frag} {a : Addr} {xs : List V} {Ps : List Addr} {tp : Addr} {H H' : Hp} (h : LI K a xs Ps tp H) (f : FrT tp Ps H H') : LI K a xs Ps tp H' := by
  refine ⟨f.tape, f.tabs, ?_, h.far⟩
  by_cases e : a = tp
  · exact h.far e H'
  · rcases h.scr with (z | ⟨o, z⟩) | z
    · exact .inl (.inl (f.lst h.tabs e z))
    · exact .inl (.inr ⟨o, f.keep a _ e (fun y => by obtain ⟨ps, q, _⟩ := h.tabs a y; rw [z] at q; cases q) z⟩)
    · exact .inr z
theorem IsTab.frt {tp : Addr} {Ps : List Addr} {H H' : Hp} {ta : Addr} {tb : List (List Int)} (h : IsTab (· = tp) H ta tb) (tt : Tabs Ps H) (f : FrT tp Ps H H') : IsTab (· = tp) H' ta tb := h.mono fun b xs n e => f.lst tt n e
/-- a list of the items of two lists -/
theorem lc_zipL {K : PySem.W.Frag} {a b : Addr} {xs ys : List V} {g : TG} {tt : TT} {te : TE} {vs : List Nat} {σ : L2.St} {H1 : Hp} {D : Addr} {Qd : Hp → Prop} (hl : xs.length = ys.length) (Pv : Nat → Hp → Prop) (h0 : Pv 0 (upd H1 D (.lst []))) (hq : ∀ i H, Pv i H → SqL K H a xs ∧ SqL K H b ys)
    (hs : ∀ i x y T H, xs[i]? = some x → ys[i]? = some y → Pv i H → H T = none → g (.ref T) (wipe σ vs) (upd H T (.tup [x, y])) fun σ2 H2 => wipe σ2 vs = wipe σ vs ∧ tt σ2 H2 fun b H3 =>
      if b = true then te σ2 H3 fun y H4 => ∃ acc, H4 D = some (.lst acc) ∧ acc.length < sizeLine ∧ Pv (i + 1) (upd H4 D (.lst (acc ++ [y]))) else Pv (i + 1) H3) (hd : ∀ H, Pv xs.length H → Qd H) :
    ∃ W : Nat → Nat → Hp → Prop, (∃ m, W 0 m (upd H1 D (.lst []))) ∧ ∀ i m H, W i m H →
      ((Itz K a b).stop i H ∧ Qd H) ∨ ((Itz K a b).go i H ∧ ∃ Nx : Hp → Prop, (∀ H', Nx H' → ∃ m', m' < m ∧ W (i + 1) m' H') ∧ ∀ x H', (Itz K a b).yld i H x H' → g x (wipe σ vs) H' fun σ2 H2 => wipe σ2 vs = wipe σ vs ∧ tt σ2 H2 fun b H3 =>
        if b = true then te σ2 H3 fun y H4 => ∃ acc, H4 D = some (.lst acc) ∧ acc.length < sizeLine ∧ Nx (upd H4 D (.lst (acc ++ [y]))) else Nx H3) := by
  refine ⟨fun i m H => m = xs.length - i ∧ i ≤ xs.length ∧ Pv i H, ⟨xs.length, by simp, Nat.zero_le _, h0⟩, ?_⟩
  rintro i m H ⟨rfl, hi, p⟩
  obtain ⟨qx, qy⟩ := hq i H p
  by_cases hlt : i < xs.length
  · have hx : xs[i]? = some xs[i] := List.getElem?_eq_getElem hlt
    have hlt2 : i < ys.length := by omega
    have hy : ys[i]? = some ys[i] := List.getElem?_eq_getElem hlt2
    refine .inr ⟨⟨xs, ys, _, _, qx, qy, hx, hy⟩, Pv (i + 1), fun H' p' => ⟨xs.length - (i + 1), by omega, rfl, hlt, p'⟩, fun v H' y => ?_⟩
    obtain ⟨T, x', y', rfl, hT, rfl, f1, f2⟩ := y
    exact hs i x' y' T H (f1 xs qx) (f2 ys qy) p hT
  · have e : i = xs.length := by omega
    subst e
    exact .inl ⟨⟨xs, ys, qx, qy, Or.inl (Nat.le_refl _)⟩, hd H p⟩
theorem pairedTake {α β : Type} {F : α → β → Prop} : ∀ {l : List α} {m : List β} (n : Nat), Paired F l m → Paired F (l.take n) (m.take n)
  | _, _, 0, _ => by rw [List.take_zero, List.take_zero]; exact .nil
  | _, _, _ + 1, .nil => .nil
  | _, _, n + 1, .cons h t => .cons h (pairedTake n t)
theorem pairedDrop {α β : Type} {F : α → β → Prop} : ∀ {l : List α} {m : List β} (n : Nat), Paired F l m → Paired F (l.drop n) (m.drop n)
  | _, _, 0, h => h
  | _, _, _ + 1, .nil => .nil
  | _, _, n + 1, .cons _ t => pairedDrop n t
end Rd

set_option Elab.async false
set_option linter.all false
set_option maxRecDepth 100000
set_option maxHeartbeats 4000000
/-! a tuple times an int from 1 on -/
namespace L2
open PySem PySem.Spec PyProof.Rows
theorem tuple_mul1 (l : Addr) (items : Array Value) (n : Nat) (sl : Array (Option Value)) (dd : Option Addr) (u : Tok) :
    Meets (Builtin.«tuple.__mul__» ⟨[.ref l, .int 1 u], []⟩) (fun _ R s => s.heap.get? l = some { cls := .type "tuple", dict := dd, data := .seq items n, slots := sl } ∧ R (.ok (.ret (Value.ref l))) s) :=
  .of_wp fun prog w A R s h => by
    obtain ⟨hp, g, d, tk, os⟩ := s
    obtain ⟨hl, h⟩ := h
    have f1 := AutoSeq1.idx_int
    have c1 : (items.isEmpty || (1 : Int) == 1) = true := by simp
    wp_walk using wpAny_loadPart' hl
    repeat (first
      | (refine wpAny_ite_false (decide_eq_false (by decide)) ?_; wp_walk using wpAny_loadPart' hl)
      | (refine wpAny_ite_true (decide_eq_true (by rw [c1])) ?_; wp_walk using wpAny_loadPart' hl))
    exact ⟨_, rfl, h⟩
def rRep1 (K : PySem.W.Frag) : R2 := fun x y H Q => ∃ l xs, x = .ref l ∧ y = .int 1 ∧ SqT K H l xs ∧ Q (.ref l) H
theorem op_rep1 {X : Cx} : OpR X (binaryOp .Mult) (rRep1 X.K) := by
  intro pins s σ H x y v u Q I rx ry h
  obtain ⟨l, xs, rfl, rfl, hT, q⟩ := h
  cases rx
  obtain ⟨t, rfl⟩ := ry
  obtain ⟨its, r, ⟨⟨cls, dd, data, sl⟩, ho, hc, n, hd⟩, hs⟩ := I.tuple hT
  simp only at hc hd
  subst hc hd
  refine wpAny_binaryOp_repeat_ref (T := "tuple") (U := "int") (by decide) ⟨_, ho, rfl⟩ (fun s' => typeIs_int s' 1 t) noFill_tuple_mul F.fills_int_mul F.slot_int_rmul repeat_tuple F.slot_int_index.lookup
    (call_meets F.slot_int_rmul (typeIs_int s 1 t) F.entry_int_rmul (F.args_int_rmul_2 _ _) (int_rmul_tuple 1 t l its.toArray n dd sl)
      ⟨ho, rfl, ⟨_, ho, rfl⟩, call_meets F.slot_tuple_mul ⟨_, ho, rfl⟩ F.entry_tuple_mul (F.args_tuple_mul_2 _ _) (tuple_mul1 l its.toArray n sl dd t) ⟨ho, ?_⟩⟩)
  exact ⟨.ref l, H, I, rfl, q⟩
def rRepU (K : PySem.W.Frag) : R2 := fun x y H Q => rRepT K x y H Q ∨ rRep1 K x y H Q
theorem op_repU {X : Cx} : OpR X (binaryOp .Mult) (rRepU X.K) := OpR.or op_repT op_rep1
end L2

set_option Elab.async false
set_option linter.all false
set_option maxRecDepth 100000
set_option maxHeartbeats 4000000
/-! what an expression comes to, while the tape is drawn from -/
namespace Rd
open PySem PySem.Spec PyProof.Rows L2 Dt
def Tr (tp : Addr) (te : TE) (σ : L2.St) (H : Hp) (Φ : V → Hp → Prop) : Prop := ∀ Q : VK, (∀ v H', Taped tp H H' → Φ v H' → Q v H') → te σ H Q
def TrO (tp : Addr) (t : TO) (σ : L2.St) (H : Hp) : Prop := ∀ Q : Option Int → Hp → Prop, (∀ o H', Taped tp H H' → Q o H') → t σ H Q
/-- what stays while the tape is drawn from -/
def Stays (tp : Addr) (Φ : V → Hp → Prop) : Prop := ∀ v H H', Tape H tp → Taped tp H H' → Φ v H → Φ v H'
theorem tr_var {tp : Addr} {i : Nat} {σ : L2.St} {H : Hp} {Φ : V → Hp → Prop} {v : V} (t : Tape H tp) (h : σ[i]? = some (some v)) (p : Φ v H) : Tr tp (tVar i) σ H Φ := fun Q k => ⟨v, h, k v H (Taped.refl t) p⟩
theorem tr_c {tp : Addr} {v : V} {σ : L2.St} {H : Hp} {Φ : V → Hp → Prop} (t : Tape H tp) (p : Φ v H) : Tr tp (tC v) σ H Φ := fun Q k => k v H (Taped.refl t) p
theorem tr_mono {tp : Addr} {te : TE} {σ : L2.St} {H : Hp} {Φ Ψ : V → Hp → Prop} (h : Tr tp te σ H Φ) (k : ∀ v H', Taped tp H H' → Φ v H' → Ψ v H') : Tr tp te σ H Ψ := fun Q q => h Q fun v H' d p => q v H' d (k v H' d p)
theorem seq_tr {tp : Addr} {te : TE} {i : Nat} {u : TS} {D : Ends} {σ : L2.St} {H : Hp} {Φ : V → Hp → Prop} (h : Tr tp te σ H Φ) (k : ∀ v H', Taped tp H H' → Φ v H' → u D (σ.set i (some v)) H') : tSeq (tAsg te (gName i)) u D σ H := h _ k
theorem seq_trg {tp : Addr} {te : TE} {g : TG} {u : TS} {D : Ends} {σ : L2.St} {H : Hp} {Φ : V → Hp → Prop} (h : Tr tp te σ H Φ) (k : ∀ v H', Taped tp H H' → Φ v H' → g v σ H' (u D)) : tSeq (tAsg te g) u D σ H := h _ k
theorem ret_tr {tp : Addr} {te : TE} {D : Ends} {σ : L2.St} {H : Hp} {Φ : V → Hp → Prop} (h : Tr tp te σ H Φ) (k : ∀ v H', Taped tp H H' → Φ v H' → D.rt v H') : tRet te D σ H := h _ k
/-! ### ints -/
def isI : V → Hp → Prop := fun v _ => ∃ i, v = .int i
theorem tr_add {tp : Addr} {ta tb : TE} {σ : L2.St} {H : Hp} (a : Tr tp ta σ H isI) (b : ∀ H1, Taped tp H H1 → Tr tp tb σ H1 isI) : Tr tp (tOp (rI0 fun i j => .int (i + j)) ta tb) σ H isI := fun Q k => a _ fun x H1 d1 ⟨i, e1⟩ => b H1 d1 _ fun y H2 d2 ⟨j, e2⟩ => ⟨i, j, e1, e2, k _ _ (d1.trans d2) ⟨_, rfl⟩⟩
theorem tro_none {tp : Addr} {σ : L2.St} {H : Hp} (t : Tape H tp) : TrO tp tNoPart σ H := fun Q k => k none H (Taped.refl t)
theorem tro_some {tp : Addr} {te : TE} {σ : L2.St} {H : Hp} (a : Tr tp te σ H isI) : TrO tp (tPart te) σ H := fun Q k => a _ fun x H1 d ⟨i, e⟩ => ⟨i, e, k _ _ d⟩
theorem tr_dig {tp : Addr} {ta tb : TE} {sp : Sp} {σ : L2.St} {H : Hp} {lo hi : Int} (hsp : ∀ (Hx : Hp) (Q : VK) (E : XK) (m : Int), Tape Hx tp → lo ≤ m → m ≤ hi → (∀ H' d, Taped tp Hx H' → 0 ≤ d → d < m → Q (.int d) H') → sp [.ref tp, .int m] Hx Q E)
    (a : Tr tp ta σ H fun v _ => v = .ref tp) (b : ∀ H1, Taped tp H H1 → Tr tp tb σ H1 fun v _ => ∃ m, v = .int m ∧ lo ≤ m ∧ m ≤ hi) : Tr tp (tCall sp [] E0 (tCons ta (tCons tb tNil))) σ H fun v _ => ∃ d, v = .int d ∧ 0 ≤ d ∧ d < hi := fun Q k => a _ fun x H1 d1 e1 => b H1 d1 _ fun y H2 d2 ⟨m, e2, l1, l2⟩ => by
  subst e1
  subst e2
  exact hsp H2 _ _ m d2.2 l1 l2 fun H' d d3 d0 dm => k _ _ ((d1.trans d2).trans d3) ⟨d, rfl, d0, by omega⟩
/-! ### lists of pairs -/
structure EntW (x : Int × List Int) : Prop where
  num : x.1.natAbs < 10 ^ 31
  few : x.2.length ≤ 10
  hue : ∀ z ∈ x.2, -10 < z ∧ z < 10
def WEnt (H : Hp) (e : Addr) : Prop := ∃ x, IsEnt H e x ∧ EntW x
theorem WEnt.mono {H H' : Hp} {e : Addr} (h : WEnt H e) (t : Tups H H') : WEnt H' e := let ⟨x, a, b⟩ := h; ⟨x, a.mono t, b⟩
/-- a list of pairs, not the tape -/
def EntL (tp : Addr) (n : Nat) : V → Hp → Prop := fun v H => ∃ (l : Addr) (es : List Addr), v = .ref l ∧ l ≠ tp ∧ H l = some (.lst (es.map V.ref)) ∧ es.length ≤ n ∧ ∀ e ∈ es, WEnt H e
theorem entL_stays (tp : Addr) (n : Nat) : Stays tp (EntL tp n) := fun v H H' t f ⟨l, es, h1, h2, h3, h4, h5⟩ => ⟨l, es, h1, h2, f.1 _ _ h2 h3, h4, fun e he => (h5 e he).mono (f.tups t)⟩
theorem EntL.up {tp : Addr} {n m : Nat} {v : V} {H : Hp} (h : EntL tp n v H) (k : n ≤ m) : EntL tp m v H := let ⟨l, es, h1, h2, h3, h4, h5⟩ := h; ⟨l, es, h1, h2, h3, Nat.le_trans h4 k, h5⟩
theorem cut_mem {α : Type} {f : α → V} {l : List α} {lo hi : Option Int} : ∃ l' : List α, cutV (l.map f) lo hi = l'.map f ∧ l'.length ≤ l.length ∧ ∀ x ∈ l', x ∈ l := by
  unfold cutV
  refine ⟨(l.drop (HT.sIx (l.map f).length 0 lo)).take (HT.sIx (l.map f).length (l.map f).length hi - HT.sIx (l.map f).length 0 lo), by rw [List.map_take, List.map_drop], ?_, fun x hx => List.mem_of_mem_drop (List.mem_of_mem_take hx)⟩
  rw [List.length_take, List.length_drop]
  omega
theorem tr_sl {K : PySem.W.Frag} {tp : Addr} {ta : TE} {tl th : TO} {σ : L2.St} {H : Hp} {n : Nat} (t : Tape H tp) (a : Tr tp ta σ H (EntL tp n)) (b : ∀ H1, Taped tp H H1 → TrO tp tl σ H1) (c : ∀ H1, Taped tp H H1 → TrO tp th σ H1) : Tr tp (tSl (rSlL K) ta tl th) σ H (EntL tp n) := fun Q k => a _ fun x H1 d1 p1 => b H1 d1 _ fun lo H2 d2 => c H2 (d1.trans d2) _ fun hi H3 d3 => by
  obtain ⟨l, es, rfl, h2, h3, h4, h5⟩ := entL_stays tp n x H1 H3 d1.2 (d2.trans d3) p1
  obtain ⟨es', e1, e2, e3⟩ := cut_mem (f := V.ref) (l := es) (lo := lo) (hi := hi)
  refine ⟨l, _, rfl, .inl (.inl h3), fun p np => ?_⟩
  rw [e1]
  have sp := same_upd (o := .lst (es'.map V.ref)) np
  exact k _ _ ((d1.trans (d2.trans d3)).same sp) ⟨p, es', rfl, d3.2.new np, upd_same, by omega, fun e he => (h5 e (e3 e he)).mono (tups_same sp)⟩
theorem tr_rev {K : PySem.W.Frag} {tp : Addr} {ta : TE} {σ : L2.St} {H : Hp} {n : Nat} (a : Tr tp ta σ H (EntL tp n)) : Tr tp (tRevL K ta) σ H (EntL tp n) := fun Q k => a _ fun x H1 d1 p1 => by
  obtain ⟨l, es, rfl, h2, h3, h4, h5⟩ := p1
  refine ⟨l, _, rfl, .inl (.inl h3), fun p np => ?_⟩
  rw [← List.map_reverse]
  have sp := same_upd (o := .lst (es.reverse.map V.ref)) np
  exact k _ _ (d1.same sp) ⟨p, es.reverse, rfl, d1.2.new np, upd_same, by rw [List.length_reverse]; exact h4, fun e he => (h5 e (List.mem_reverse.mp he)).mono (tups_same sp)⟩
theorem tr_cat {tp : Addr} {ta tb : TE} {σ : L2.St} {H : Hp} {n m : Nat} (hn : n + m ≤ 1000) (a : Tr tp ta σ H (EntL tp n)) (b : ∀ H1, Taped tp H H1 → Tr tp tb σ H1 (EntL tp m)) : Tr tp (tOp rCat ta tb) σ H (EntL tp (n + m)) := fun Q k => a _ fun x H1 d1 p1 => b H1 d1 _ fun y H2 d2 p2 => by
  obtain ⟨l, es, rfl, h2, h3, h4, h5⟩ := entL_stays tp n x H1 H2 d1.2 d2 p1
  obtain ⟨l', es', rfl, g2, g3, g4, g5⟩ := p2
  refine ⟨l, l', _, _, rfl, rfl, h3, g3, by rw [List.length_map, List.length_map]; exact Nat.le_of_lt (small1000 (by omega)), fun p np => ?_⟩
  rw [← List.map_append]
  have sp := same_upd (o := .lst ((es ++ es').map V.ref)) np
  refine k _ _ ((d1.trans d2).same sp) ⟨p, es ++ es', rfl, d2.2.new np, upd_same, by rw [List.length_append]; omega, fun e he => ?_⟩
  rcases List.mem_append.mp he with q | q
  · exact (h5 e q).mono (tups_same sp)
  · exact (g5 e q).mono (tups_same sp)
/-- a row that may stand in a pair -/
def RowW : V → Hp → Prop := fun v H => ∃ (r : Addr) (row : List Int), v = .ref r ∧ IsRow H r row ∧ row.length ≤ 10 ∧ ∀ z ∈ row, -10 < z ∧ z < 10
theorem rowW_stays (tp : Addr) : Stays tp RowW := fun v H H' t f ⟨r, row, h1, h2, h3⟩ => ⟨r, row, h1, f.tups t _ _ h2, h3⟩
def numW : V → Hp → Prop := fun v _ => ∃ i, v = .int i ∧ i.natAbs < 10 ^ 31
theorem tr_pair {tp : Addr} {ta tb : TE} {σ : L2.St} {H : Hp} (a : Tr tp ta σ H numW) (b : ∀ H1, Taped tp H H1 → Tr tp tb σ H1 RowW) : Tr tp (tTup (tCons ta (tCons tb tNil))) σ H fun v H' => ∃ e, v = .ref e ∧ WEnt H' e := fun Q k => a _ fun x H1 d1 ⟨i, e1, hi⟩ => b H1 d1 _ fun y H2 d2 ⟨r, row, e2, h2, h3, h4⟩ => by
  subst e1
  subst e2
  refine ⟨(by show 2 ≤ sizeLine; decide), fun t nt => ?_⟩
  have st := same_upd (o := .tup [.int i, .ref r]) nt
  exact k _ _ ((d1.trans d2).same st) ⟨t, rfl, (i, row), ⟨r, upd_same, st _ _ h2⟩, ⟨hi, h3, h4⟩⟩
theorem tr_one {tp : Addr} {ta : TE} {σ : L2.St} {H : Hp} (a : Tr tp ta σ H fun v H' => ∃ e, v = .ref e ∧ WEnt H' e) : Tr tp (tLst (tCons ta tNil)) σ H (EntL tp 1) := fun Q k => a _ fun x H1 d1 ⟨e, e1, w⟩ => by
  subst e1
  refine ⟨(by show 1 ≤ sizeLine; decide), fun l nl => ?_⟩
  have st := same_upd (o := .lst [.ref e]) nl
  refine k _ _ (d1.same st) ⟨l, [e], rfl, d1.2.new nl, upd_same, Nat.le_refl _, fun b hb => ?_⟩
  rw [List.mem_singleton.mp hb]
  exact w.mono (tups_same st)
/-! ### wide data -/
structure FineW (d : PyData) (n w : Nat) : Prop where
  lay : d.canLay0 = true
  dep : d.depth ≤ n
  wei : d.weight ≤ w
  sho : d.showable = true
  noD : d.hasDict = false
  sh : d.intsShort 40 = true
structure FineWA (ds : List PyData) (n w : Nat) : Prop where
  lay : PyData.canLayAll0 ds = true
  dep : PyData.depthAll ds ≤ n
  wei : PyData.weightAll ds ≤ w
  sho : PyData.showableAll ds = true
  noD : PyData.hasDictAll ds = false
  sh : PyData.intsShortAll 40 ds = true
theorem FineWA.nil (n : Nat) : FineWA [] n 0 := ⟨rfl, Nat.zero_le _, Nat.le_refl _, rfl, rfl, rfl⟩
theorem FineWA.cons {d : PyData} {ds : List PyData} {n w u : Nat} (h : FineW d n w) (t : FineWA ds n u) : FineWA (d :: ds) n (w + 1 + u) := by
  refine ⟨?_, ?_, ?_, ?_, ?_, ?_⟩
  · simp only [PyData.canLayAll0, h.lay, t.lay, Bool.and_self]
  · have a := h.dep
    have b := t.dep
    simp only [PyData.depthAll]
    omega
  · have a := h.wei
    have b := t.wei
    simp only [PyData.weightAll]
    omega
  · simp only [PyData.showableAll, h.sho, t.sho, Bool.and_self]
  · simp only [PyData.hasDictAll, h.noD, t.noD, Bool.or_self]
  · simp only [PyData.intsShortAll, h.sh, t.sh, Bool.and_self]
theorem FineW.tuple {ds : List PyData} {n w : Nat} (t : FineWA ds n w) : FineW (.tuple ds) (n + 1) w := by
  refine ⟨by simp only [PyData.canLay0]; exact t.lay, ?_, by simp only [PyData.weight]; exact t.wei, by simp only [PyData.showable]; exact t.sho, by simp only [PyData.hasDict]; exact t.noD, by simp only [PyData.intsShort]; exact t.sh⟩
  have a := t.dep
  simp only [PyData.depth]
  omega
theorem FineW.list {ds : List PyData} {n w : Nat} (t : FineWA ds n w) : FineW (.list ds) (n + 1) w := by
  refine ⟨by simp only [PyData.canLay0]; exact t.lay, ?_, by simp only [PyData.weight]; exact t.wei, by simp only [PyData.showable]; exact t.sho, by simp only [PyData.hasDict]; exact t.noD, by simp only [PyData.intsShort]; exact t.sh⟩
  have a := t.dep
  simp only [PyData.depth]
  omega
theorem FineW.mono {d : PyData} {n w n' w' : Nat} (h : FineW d n w) (a : n ≤ n') (b : w ≤ w') : FineW d n' w' := ⟨h.lay, Nat.le_trans h.dep a, Nat.le_trans h.wei b, h.sho, h.noD, h.sh⟩
theorem fineWA_map {α : Type} {f : α → PyData} {n w : Nat} : ∀ (l : List α), (∀ x ∈ l, FineW (f x) n w) → FineWA (l.map f) n (l.length * (w + 1))
  | [], _ => by
    have z := FineWA.nil n
    exact ⟨z.lay, z.dep, Nat.le_trans z.wei (Nat.zero_le _), z.sho, z.noD, z.sh⟩
  | x :: r, h => by
    have t := fineWA_map r fun y hy => h y (List.mem_cons_of_mem _ hy)
    have z := FineWA.cons (h x List.mem_cons_self) t
    refine ⟨z.lay, z.dep, ?_, z.sho, z.noD, z.sh⟩
    have := z.wei
    rw [List.length_cons, Nat.succ_mul]
    show PyData.weightAll (f x :: r.map f) ≤ _
    omega
theorem fineW_int {i : Int} (h : i.natAbs < 10 ^ 31) : FineW (.int i) 1 110 := by
  have hl : i.natAbs.log2 ≤ 102 := by
    by_cases e : i.natAbs = 0
    · rw [e]; decide
    · have := (Nat.log2_lt e).mpr (show i.natAbs < 2 ^ 103 from Nat.lt_trans h (by decide))
      omega
  refine ⟨rfl, by simp [PyData.depth], ?_, ?_, rfl, ?_⟩
  · simp only [PyData.weight]
    split <;> omega
  · simp only [PyData.showable]
    exact decide_eq_true (by omega)
  · have e := PySem.int_text_length_le10 (k := 31) (by decide) h
    show decide ((Str.ofString (toString i)).length ≤ 40) = true
    rw [PySem.ofString_length]
    exact decide_eq_true (by omega)
theorem fineW_small {i : Int} (h0 : -100 < i) (h1 : i < 100) : FineW (.int i) 1 110 := fineW_int (Nat.lt_trans (show i.natAbs < 100 by omega) (by decide))
theorem fineW_row {r : List Int} (h : ∀ z ∈ r, -100 < z ∧ z < 100) : FineW (rowD r) 2 (r.length * 111) := FineW.tuple (fineWA_map r fun z hz => fineW_small (h z hz).1 (h z hz).2)
theorem fineW_ent {x : Int × List Int} (h : EntW x) : FineW (entD x) 3 1400 := by
  have a := fineW_int h.num
  have b : FineW (rowD x.2) 2 1110 := (fineW_row fun z hz => by have := h.hue z hz; omega).mono (Nat.le_refl _) (by have := h.few; omega)
  exact (FineW.tuple (FineWA.cons (a.mono (by omega) (Nat.le_refl _)) (FineWA.cons b (FineWA.nil _)))).mono (Nat.le_refl _) (by omega)
theorem fineW_log {log : Log} (h : ∀ e ∈ log, EntW e) (hl : log.length ≤ 200) : FineW (logD log) 4 290000 :=
  (FineW.list (fineWA_map log fun x hx => fineW_ent (h x hx))).mono (Nat.le_refl _) (by omega)
theorem FineW.shows {d : PyData} {n w : Nat} (h : FineW d n w) (hw : w ≤ 380000) : d.shown.length ≤ sizeLine := by
  have a := PyData.shown_le 40 (by decide) d (PyData.leavesShort_of_canLay0 40 d h.lay h.sh)
  have b := h.wei
  have c : (40 + 2) * d.weight + 40 ≤ 16000000 := by omega
  exact Nat.le_trans a (Nat.le_trans c (by decide))
theorem FineW.shaped {d : PyData} {n w : Nat} (h : FineW d n w) (hn : n ≤ 64) : SeqAt.shaped d = true := by
  show (d.canLay0 && decide (d.depth ≤ 64)) = true
  rw [h.lay, decide_eq_true (Nat.le_trans h.dep hn)]
  rfl
/-- the log that a list of pairs is -/
theorem entL_log {H : Hp} : ∀ {es : List Addr}, (∀ e ∈ es, WEnt H e) → ∃ log : Log, Paired (IsEnt H) es log ∧ ∀ x ∈ log, EntW x
  | [], _ => ⟨[], .nil, fun _ h => nomatch h⟩
  | e :: r, h => by
    obtain ⟨x, a, b⟩ := h e List.mem_cons_self
    obtain ⟨log, c, d⟩ := entL_log (es := r) fun y hy => h y (List.mem_cons_of_mem _ hy)
    refine ⟨x :: log, .cons a c, fun y hy => ?_⟩
    rcases List.mem_cons.mp hy with z | z
    · rw [z]; exact b
    · exact d y z
end Rd
namespace Rd
open PySem PySem.Spec PyProof.Rows L2 Dt
def rNotInT (K : PySem.W.Frag) : R2 := fun x y H Q => ∃ d ds, Dp K H x d ∧ Dp K H y (.tuple ds) ∧ SeqAt.shaped d = true ∧ SeqAt.shaped (.tuple ds) = true ∧ Q (.bl (!ds.any fun z => PyData.eqv z d)) H
theorem op_notInT {X : Cx} (hu : X.A.units + 65 < cLine) : OpR X (compareOp .NotIn) (rNotInT X.K) := by
  intro pins s σ H x y v u Q I rx ry h
  obtain ⟨d, ds, hd, he, sd, se, q⟩ := h
  obtain ⟨as, r1⟩ := Dp.reads I d x v hd rx
  obtain ⟨bs, r2⟩ := Dp.reads I (.tuple ds) y u he ry
  exact SeqAt.notIn_tuple_reads r2 r1 (SeqAt.canLay_of_shaped se) (SeqAt.canLay_of_shaped sd) (room_in_shaped sd hu) ⟨.bl _, H, I, rfl, q⟩
end Rd
namespace Rd
open PySem PySem.Spec PyProof.Rows L2 Dt
theorem one_tr {tp : Addr} {te : TE} {σ : L2.St} {H : Hp} {Φ : V → Hp → Prop} {Q : List V → Hp → Prop} (h : Tr tp te σ H Φ) (k : ∀ v H', Taped tp H H' → Φ v H' → Q [v] H') : tCons te tNil σ H Q := h _ k
/-- a new list of pairs -/
def EntN (tp : Addr) (n : Nat) (H0 : Hp) : V → Hp → Prop := fun v H => EntL tp n v H ∧ ∃ l, v = .ref l ∧ H0 l = none
theorem tr_catN {tp : Addr} {ta tb : TE} {σ : L2.St} {H : Hp} {n m : Nat} (hn : n + m ≤ 1000) (a : Tr tp ta σ H (EntL tp n)) (b : ∀ H1, Taped tp H H1 → Tr tp tb σ H1 (EntL tp m)) : Tr tp (tOp rCat ta tb) σ H (EntN tp (n + m) H) := fun Q k => a _ fun x H1 d1 p1 => b H1 d1 _ fun y H2 d2 p2 => by
  obtain ⟨l, es, rfl, h2, h3, h4, h5⟩ := entL_stays tp n x H1 H2 d1.2 d2 p1
  obtain ⟨l', es', rfl, g2, g3, g4, g5⟩ := p2
  refine ⟨l, l', _, _, rfl, rfl, h3, g3, by rw [List.length_map, List.length_map]; exact Nat.le_of_lt (small1000 (by omega)), fun p np => ?_⟩
  rw [← List.map_append]
  have sp := same_upd (o := .lst ((es ++ es').map V.ref)) np
  refine k _ _ ((d1.trans d2).same sp) ⟨⟨p, es ++ es', rfl, d2.2.new np, upd_same, by rw [List.length_append]; omega, fun e he => ?_⟩, p, rfl, (d1.trans d2).free np⟩
  rcases List.mem_append.mp he with q | q
  · exact (h5 e q).mono (tups_same sp)
  · exact (g5 e q).mono (tups_same sp)
theorem EntN.l {tp : Addr} {n : Nat} {H0 H : Hp} {v : V} (h : EntN tp n H0 v H) : EntL tp n v H := h.1
/-- lists of pairs in a list that is no other one of them -/
structure EntLs (tp : Addr) (n : Nat) (H : Hp) (l : Addr) (vs : List V) : Prop where
  nt : l ≠ tp
  hl : H l = some (.lst vs)
  each : ∀ x ∈ vs, EntL tp n x H ∧ x ≠ .ref l
theorem EntLs.stays {tp : Addr} {n : Nat} {H H' : Hp} {l : Addr} {vs : List V} (h : EntLs tp n H l vs) (t : Tape H tp) (f : Taped tp H H') : EntLs tp n H' l vs := ⟨h.nt, f.1 _ _ h.nt h.hl, fun x hx => ⟨entL_stays tp n x H H' t f (h.each x hx).1, (h.each x hx).2⟩⟩
theorem EntL.put {tp : Addr} {n : Nat} {H : Hp} {l : Addr} {vs : List V} {o : HO} {x : V} (h : EntL tp n x H) (hl : H l = some (.lst vs)) (ne : x ≠ .ref l) : EntL tp n x (upd H l o) := by
  obtain ⟨l', es, rfl, h2, h3, h4, h5⟩ := h
  have n' : l' ≠ l := fun z => ne (by rw [z])
  exact ⟨l', es, rfl, h2, by rw [upd_ne n']; exact h3, h4, fun e he => (h5 e he).mono (tups_upd fun xs z => by rw [hl] at z; cases z)⟩
theorem EntLs.snoc {tp : Addr} {n : Nat} {H : Hp} {l : Addr} {vs : List V} {v : V} (h : EntLs tp n H l vs) (hv : EntL tp n v H) (ne : v ≠ .ref l) : EntLs tp n (upd H l (.lst (vs ++ [v]))) l (vs ++ [v]) := by
  refine ⟨h.nt, upd_same, fun x hx => ?_⟩
  rcases List.mem_append.mp hx with z | z
  · exact ⟨(h.each x z).1.put h.hl (h.each x z).2, (h.each x z).2⟩
  · rw [List.mem_singleton.mp z]
    exact ⟨hv.put h.hl ne, ne⟩
theorem tr_rowcat {K : PySem.W.Frag} {tp : Addr} {ta tb : TE} {σ : L2.St} {H : Hp} {n m : Nat} (hn : n + m ≤ 10) (a : Tr tp ta σ H fun v H' => ∃ (r : Addr) (row : List Int), v = .ref r ∧ IsRow H' r row ∧ row.length ≤ n ∧ ∀ z ∈ row, -10 < z ∧ z < 10) (b : ∀ H1, Taped tp H H1 → Tr tp tb σ H1 fun v H' => ∃ (r : Addr) (row : List Int), v = .ref r ∧ IsRow H' r row ∧ row.length ≤ m ∧ ∀ z ∈ row, -10 < z ∧ z < 10) : Tr tp (tOp (rCatA K) ta tb) σ H RowW := fun Q k => a _ fun x H1 d1 ⟨r, row, e1, h1, h2, h3⟩ => b H1 d1 _ fun y H2 d2 ⟨r', row', e2, g1, g2, g3⟩ => by
  subst e1
  subst e2
  have h1' : IsRow H2 r row := d2.tups d1.2 _ _ h1
  have d12 := d1.trans d2
  have hb : ∀ z ∈ row ++ row', -10 < z ∧ z < 10 := fun z hz => by
    rcases List.mem_append.mp hz with q | q
    · exact h3 z q
    · exact g3 z q
  refine ⟨r, r', _, _, rfl, rfl, .inl (.inl h1'), .inl (.inl g1), by rw [List.length_map, List.length_map]; exact Nat.le_of_lt (small1000 (by omega)), fun z => ?_, fun _ z => ?_, fun _ _ p np => ?_⟩
  · exact k _ _ d12 ⟨r', row', rfl, g1, by omega, g3⟩
  · exact k _ _ d12 ⟨r, row, rfl, h1', by omega, h3⟩
  · have sp := same_upd (o := .tup (row.map V.int ++ row'.map V.int)) np
    exact k _ _ (d12.same sp) ⟨p, row ++ row', rfl, by show upd _ p _ p = _; rw [upd_same, List.map_append], by rw [List.length_append]; omega, hb⟩
end Rd
namespace Rd
open PySem PySem.Spec PyProof.Rows L2 Dt
/-- pairs, one after the other -/
def EntA (tp : Addr) (m : Nat) (ta : TA) (σ : L2.St) (H : Hp) : Prop := ∀ Q : List V → Hp → Prop, (∀ (es : List Addr) H', Taped tp H H' → es.length = m → (∀ e ∈ es, WEnt H' e) → Q (es.map V.ref) H') → ta σ H Q
theorem enta_nil {tp : Addr} {σ : L2.St} {H : Hp} (t : Tape H tp) : EntA tp 0 tNil σ H := fun Q k => k [] H (Taped.refl t) rfl fun _ h => nomatch h
theorem enta_cons {tp : Addr} {m : Nat} {te : TE} {ta : TA} {σ : L2.St} {H : Hp} (a : Tr tp te σ H fun v H' => ∃ e, v = .ref e ∧ WEnt H' e) (b : ∀ H1, Taped tp H H1 → EntA tp m ta σ H1) : EntA tp (m + 1) (tCons te ta) σ H := fun Q k => a _ fun v H1 d1 ⟨e, ev, w⟩ => b H1 d1 _ fun es H2 d2 hl hw => by
  subst ev
  refine k (e :: es) H2 (d1.trans d2) (by rw [List.length_cons, hl]) fun x hx => ?_
  rcases List.mem_cons.mp hx with z | z
  · rw [z]; exact w.mono (d2.tups d1.2)
  · exact hw x z
theorem tr_ents {tp : Addr} {m : Nat} {ta : TA} {σ : L2.St} {H : Hp} (hm : m ≤ 1000) (a : EntA tp m ta σ H) : Tr tp (tLst ta) σ H (EntN tp m H) := fun Q k => a _ fun es H1 d1 hl hw => by
  refine ⟨by rw [List.length_map, hl]; exact Nat.le_of_lt (small1000 hm), fun l nl => ?_⟩
  have sl := same_upd (o := .lst (es.map V.ref)) nl
  exact k _ _ (d1.same sl) ⟨⟨l, es, rfl, d1.2.new nl, upd_same, by omega, fun e he => (hw e he).mono (tups_same sl)⟩, l, rfl, d1.free nl⟩
/-- a row of at most so many -/
def RowN (n : Nat) : V → Hp → Prop := fun v H => ∃ (r : Addr) (row : List Int), v = .ref r ∧ IsRow H r row ∧ row.length ≤ n ∧ ∀ z ∈ row, -10 < z ∧ z < 10
theorem rowN_stays (tp : Addr) (n : Nat) : Stays tp (RowN n) := fun v H H' t f ⟨r, row, h1, h2, h3⟩ => ⟨r, row, h1, f.tups t _ _ h2, h3⟩
theorem RowN.w {n : Nat} {v : V} {H : Hp} (h : RowN n v H) (hn : n ≤ 10) : RowW v H := let ⟨r, row, h1, h2, h3, h4⟩ := h; ⟨r, row, h1, h2, by omega, h4⟩
theorem tr_slrow {K : PySem.W.Frag} {tp : Addr} {ta : TE} {tl th : TO} {σ : L2.St} {H : Hp} {n : Nat} (a : Tr tp ta σ H (RowN n)) (b : ∀ H1, Taped tp H H1 → TrO tp tl σ H1) (c : ∀ H1, Taped tp H H1 → TrO tp th σ H1) : Tr tp (tSl (rSlA K) ta tl th) σ H (RowN n) := fun Q k => a _ fun x H1 d1 p1 => b H1 d1 _ fun lo H2 d2 => c H2 (d1.trans d2) _ fun hi H3 d3 => by
  obtain ⟨r, row, rfl, h2, h3, h4⟩ := rowN_stays tp n x H1 H3 d1.2 (d2.trans d3) p1
  obtain ⟨row', e1, e2, e3⟩ := cut_mem (f := V.int) (l := row) (lo := lo) (hi := hi)
  have d := d1.trans (d2.trans d3)
  refine ⟨r, _, rfl, .inl (.inl h2), fun _ => k _ _ d ⟨r, row, rfl, h2, h3, h4⟩, fun _ p np => ?_⟩
  rw [e1]
  exact k _ _ (d.same (same_upd np)) ⟨p, row', rfl, upd_same, by omega, fun z hz => h4 z (e3 z hz)⟩
theorem tr_rowcatN {K : PySem.W.Frag} {tp : Addr} {ta tb : TE} {σ : L2.St} {H : Hp} {n m : Nat} (hn : n + m ≤ 10) (a : Tr tp ta σ H (RowN n)) (b : ∀ H1, Taped tp H H1 → Tr tp tb σ H1 (RowN m)) : Tr tp (tOp (rCatA K) ta tb) σ H RowW := tr_rowcat hn a b
theorem tr_tup1 {tp : Addr} {ta : TE} {σ : L2.St} {H : Hp} (a : Tr tp ta σ H fun v _ => ∃ i, v = .int i ∧ -10 < i ∧ i < 10) : Tr tp (tTup (tCons ta tNil)) σ H (RowN 1) := fun Q k => a _ fun v H1 d1 ⟨i, e, i0, i1⟩ => by
  subst e
  refine ⟨(by show 1 ≤ sizeLine; decide), fun t nt => ?_⟩
  exact k _ _ (d1.same (same_upd nt)) ⟨t, [i], rfl, upd_same, Nat.le_refl _, fun z hz => by rw [List.mem_singleton.mp hz]; exact ⟨i0, i1⟩⟩
theorem tr_tup0 {tp : Addr} {σ : L2.St} {H : Hp} (t : Tape H tp) : Tr tp (tTup tNil) σ H (RowN 0) := fun Q k => by
  refine ⟨(by show 0 ≤ sizeLine; decide), fun p np => ?_⟩
  exact k _ _ ((Taped.refl t).same (same_upd np)) ⟨p, [], rfl, upd_same, Nat.le_refl _, fun _ h => nomatch h⟩
theorem tr_neg {tp : Addr} {c : Int} {σ : L2.St} {H : Hp} {Φ : V → Hp → Prop} (t : Tape H tp) (p : Φ (.int (-c)) H) : Tr tp (tUn (rU fun i => .int (-i)) (tC (.int c))) σ H Φ := fun Q k => ⟨c, rfl, k _ _ (Taped.refl t) p⟩
end Rd
namespace Rd
open PySem PySem.Spec PyProof.Rows L2 Dt
/-- a list of pairs, one at least, new since H -/
def SomeAt (H : Hp) (c : Nat) : V → Hp → Prop := fun v Hc => ∃ (l : Addr) (es : List Addr), v = .ref l ∧ H l = none ∧ Hc l = some (.lst (es.map V.ref)) ∧ 1 ≤ es.length ∧ es.length ≤ c ∧ ∀ e ∈ es, WEnt Hc e
theorem some_stays {tp : Addr} {H Hc Hd : Hp} {c : Nat} {v : V} (t : Tape H tp) (tc : Tape Hc tp) (d : Taped tp Hc Hd) (h : SomeAt H c v Hc) : SomeAt H c v Hd := by
  obtain ⟨l, es, h1, h2, h3, h4, h5, h6⟩ := h
  exact ⟨l, es, h1, h2, d.1 _ _ (t.new h2) h3, h4, h5, fun e he => (h6 e he).mono (d.tups tc)⟩
theorem SomeAt.up {H Hc : Hp} {c c' : Nat} {v : V} (h : SomeAt H c v Hc) (k : c ≤ c') : SomeAt H c' v Hc := let ⟨l, es, h1, h2, h3, h4, h5, h6⟩ := h; ⟨l, es, h1, h2, h3, h4, Nat.le_trans h5 k, h6⟩
theorem tr_some {tp : Addr} {m : Nat} {ta : TA} {σ : L2.St} {H Hc : Hp} (hm : m + 1 ≤ 1000) (dc : Taped tp H Hc) (a : EntA tp (m + 1) ta σ Hc) : Tr tp (tLst ta) σ Hc (SomeAt H (m + 1)) := fun Q k => a _ fun es H1 d1 hl hw => by
  refine ⟨by rw [List.length_map, hl]; exact Nat.le_of_lt (small1000 hm), fun l nl => ?_⟩
  have sl := same_upd (o := .lst (es.map V.ref)) nl
  exact k _ _ (d1.same sl) ⟨l, es, rfl, dc.free (d1.free nl), upd_same, by omega, by omega, fun e he => (hw e he).mono (tups_same sl)⟩
theorem some_cat {tp : Addr} {tb : TE} {i : Nat} {σ : L2.St} {H Hc : Hp} {c m : Nat} {v : V} (t : Tape H tp) (dc : Taped tp H Hc) (hσ : σ[i]? = some (some v)) (hs : SomeAt H c v Hc) (hn : c + m ≤ 1000) (b : ∀ H1, Taped tp Hc H1 → Tr tp tb σ H1 (EntL tp m)) : Tr tp (tOp rCat (tVar i) tb) σ Hc (SomeAt H (c + m)) := fun Q k => ⟨v, hσ, b Hc (Taped.refl dc.2) _ fun y H2 d2 p2 => by
  obtain ⟨l, es, rfl, h2, h3, h4, h5, h6⟩ := some_stays t dc.2 d2 hs
  obtain ⟨l', es', rfl, g2, g3, g4, g5⟩ := p2
  refine ⟨l, l', _, _, rfl, rfl, h3, g3, by rw [List.length_map, List.length_map]; exact Nat.le_of_lt (small1000 (by omega)), fun p np => ?_⟩
  rw [← List.map_append]
  have sp := same_upd (o := .lst ((es ++ es').map V.ref)) np
  refine k _ _ (d2.same sp) ⟨p, es ++ es', rfl, dc.free (d2.free np), upd_same, by rw [List.length_append]; omega, by rw [List.length_append]; omega, fun e he => ?_⟩
  rcases List.mem_append.mp he with q | q
  · exact (h6 e q).mono (tups_same sp)
  · exact (g5 e q).mono (tups_same sp)⟩
end Rd

set_option Elab.async false
set_option linter.all false
set_option maxRecDepth 100000
set_option maxHeartbeats 4000000
/-! the least weights, and what weights tell -/
namespace Rd
open PySem PySem.Spec PyProof.Rows L2 Dt
/-! ### repr of a number, of None, of data -/
def rRep3 (K : PySem.W.Frag) : List V → Hp → VK → Prop := fun xs H Q => (∃ i, xs = [.int i] ∧ i.natAbs.log2 < 1920 ∧ Q (.str (toString i)) H) ∨ (xs = [.non] ∧ Q (.str "None") H) ∨
  ∃ (a : Addr) (d : PyData), xs = [.ref a] ∧ Dp K H (.ref a) d ∧ d.showable = true ∧ d.hasDict = false ∧ d.depth < 63 ∧ d.shown.length ≤ sizeLine ∧ Q (.str d.shown) H
theorem call_repr3 {X : Cx} (hg : X.A.guards = some []) (hu : X.A.units + 64 < cLine) : CallR X (.builtin "repr") (rRep3 X.K) := by
  intro pins s σ H xs us Q I r h
  rcases h with h | ⟨rfl, q⟩ | h
  · exact SkE.call_repr_int pins s σ H xs us Q I r h
  · obtain ⟨u, rfl, ru⟩ := vals1 r
    cases (show u = Value.none from ru)
    exact PySem.P.repr_of_none ⟨.str "None", H, I.tok _, ⟨_, rfl⟩, q⟩
  · exact Lg.call_repr hg hu pins s σ H xs us Q I r h
/-! ### alike weights -/
def alk (n : Nat) (a : Int) : List Fc := List.replicate n (lowI a 64)
theorem alk_good {n : Nat} {a : Int} (h1 : 1 ≤ a) (h2 : a < 64) : GoodW 20000 (alk n a) := by
  obtain ⟨lo1, lo2⟩ := low_lt h1 h2
  obtain ⟨lo3, lo4, lo5, lo6⟩ := low_ok (a := a) (b := 64) (by omega) (by decide)
  exact ⟨fun x hx => by rw [(List.mem_replicate.mp hx).2]; exact ⟨lo1, lo2, by omega⟩⟩
def Lst (wds : List WD) (hues : Int) : Option Int → Prop
  | none => ∀ a : Int, 1 ≤ a → a < 64 → shownB wds hues (alk wds.length a) = false
  | some a => 1 ≤ a ∧ a < 64 ∧ shownB wds hues (alk wds.length a) = true ∧ ∀ b : Int, 1 ≤ b → b < a → shownB wds hues (alk wds.length b) = false
theorem Lst.one {wds : List WD} {hues : Int} : ∀ {r r' : Option Int}, Lst wds hues r → Lst wds hues r' → r = r'
  | none, none, _, _ => rfl
  | none, some a, h, ⟨h1, h2, h3, _⟩ => by rw [h a h1 h2] at h3; cases h3
  | some a, none, ⟨h1, h2, h3, _⟩, h => by rw [h a h1 h2] at h3; cases h3
  | some a, some b, ⟨a1, a2, a3, a4⟩, ⟨b1, b2, b3, b4⟩ => by
    have x1 : ¬ a < b := fun z => by rw [b4 a a1 z] at a3; cases a3
    have x2 : ¬ b < a := fun z => by rw [a4 b b1 z] at b3; cases b3
    rw [show a = b by omega]
def vOI : Option Int → V
  | none => .non
  | some a => .int a
/-! ### folds -/
def kSt (p x : Fc) : Fc := (p.1 * (x.2 - x.1), p.2 * x.2)
def mSt (p x : Fc) : Fc := (p.1 * (x.2 - x.1) + x.1 * p.2, p.2 * (x.2 - x.1))
def keptF (N : Int) (ws : List Fc) : Fc := ws.foldl kSt (N, 1)
def mendF (ws : List Fc) : Fc := ws.foldl mSt (0, 1)
theorem fold_snoc {α β : Type} (f : β → α → β) (b : β) {l : List α} {i : Nat} {x : α} (h : l[i]? = some x) : (l.take (i + 1)).foldl f b = f ((l.take i).foldl f b) x := by
  rw [take_snoc h, List.foldl_append]
  rfl
theorem kept_ok {ws : List Fc} (g : GoodW 150 ws) : ∀ (l : List Fc), (∀ x ∈ l, x ∈ ws) → ∀ p : Fc, 1 ≤ p.1 → 1 ≤ p.2 → 1 ≤ (l.foldl kSt p).1 ∧ 1 ≤ (l.foldl kSt p).2 ∧ (l.foldl kSt p).1 ≤ p.1 * 150 ^ l.length ∧ (l.foldl kSt p).2 ≤ p.2 * 150 ^ l.length
  | [], _, p, h1, h2 => ⟨h1, h2, by simp, by simp⟩
  | x :: r, h, p, h1, h2 => by
    have gx := g.each x (h x List.mem_cons_self)
    have s1 : 1 ≤ (kSt p x).1 := mul_pos1 h1 (by omega)
    have s2 : 1 ≤ (kSt p x).2 := mul_pos1 h2 (by omega)
    have ih := kept_ok g r (fun y hy => h y (List.mem_cons_of_mem _ hy)) (kSt p x) s1 s2
    rw [List.foldl_cons]
    have pp : (0 : Int) ≤ 150 ^ r.length := Int.pow_nonneg (by decide)
    have e1 : (kSt p x).1 ≤ p.1 * 150 := Int.mul_le_mul_of_nonneg_left (show x.2 - x.1 ≤ 150 by omega) (by omega)
    have e2 : (kSt p x).2 ≤ p.2 * 150 := Int.mul_le_mul_of_nonneg_left (show x.2 ≤ 150 by omega) (by omega)
    have f1 := Int.mul_le_mul_of_nonneg_right e1 pp
    have f2 := Int.mul_le_mul_of_nonneg_right e2 pp
    rw [List.length_cons, Int.pow_succ, Int.mul_comm ((150 : Int) ^ r.length) 150, ← Int.mul_assoc, ← Int.mul_assoc]
    exact ⟨ih.1, ih.2.1, Int.le_trans ih.2.2.1 f1, Int.le_trans ih.2.2.2 f2⟩
theorem mend_ok {ws : List Fc} (g : GoodW 150 ws) : ∀ (l : List Fc), (∀ x ∈ l, x ∈ ws) → ∀ p : Fc, 0 ≤ p.1 → 1 ≤ p.2 → 0 ≤ (l.foldl mSt p).1 ∧ 1 ≤ (l.foldl mSt p).2 ∧ (l.foldl mSt p).1 + (l.foldl mSt p).2 ≤ (p.1 + p.2) * 150 ^ l.length
  | [], _, p, h1, h2 => ⟨h1, h2, by simp⟩
  | x :: r, h, p, h1, h2 => by
    have gx := g.each x (h x List.mem_cons_self)
    have a1 : 0 ≤ p.1 * (x.2 - x.1) := Int.mul_nonneg h1 (by omega)
    have a2 : 0 ≤ x.1 * p.2 := Int.mul_nonneg (by omega) (by omega)
    have s1 : 0 ≤ (mSt p x).1 := by show 0 ≤ p.1 * (x.2 - x.1) + x.1 * p.2; omega
    have s2 : 1 ≤ (mSt p x).2 := mul_pos1 h2 (by omega)
    have ih := mend_ok g r (fun y hy => h y (List.mem_cons_of_mem _ hy)) (mSt p x) s1 s2
    rw [List.foldl_cons]
    have pp : (0 : Int) ≤ 150 ^ r.length := Int.pow_nonneg (by decide)
    have e1 : p.1 * (x.2 - x.1) ≤ p.1 * 150 := Int.mul_le_mul_of_nonneg_left (by omega) h1
    have e2 : p.2 * x.2 ≤ p.2 * 150 := Int.mul_le_mul_of_nonneg_left (by omega) (by omega)
    have e3 : x.1 * p.2 + p.2 * (x.2 - x.1) = p.2 * x.2 := by
      rw [Int.mul_comm x.1 p.2, ← Int.mul_add]
      congr 1
      omega
    have e4 : (mSt p x).1 + (mSt p x).2 ≤ (p.1 + p.2) * 150 := by
      show p.1 * (x.2 - x.1) + x.1 * p.2 + p.2 * (x.2 - x.1) ≤ (p.1 + p.2) * 150
      rw [Int.add_mul]
      omega
    have f1 := Int.mul_le_mul_of_nonneg_right e4 pp
    rw [List.length_cons, Int.pow_succ, Int.mul_comm ((150 : Int) ^ r.length) 150, ← Int.mul_assoc]
    exact ⟨ih.1, ih.2.1, Int.le_trans ih.2.2 f1⟩
theorem pow8 {n : Nat} (h : n ≤ 8) : (150 : Int) ^ n ≤ 150 ^ 8 := by
  have := Nat.pow_le_pow_right (show 0 < 150 by decide) h
  exact_mod_cast this
theorem kept_bd {ws : List Fc} {N : Int} (g : GoodW 150 ws) (h8 : ws.length ≤ 8) (n1 : 1 ≤ N) (n2 : N ≤ 4096) (i : Nat) : 1 ≤ ((ws.take i).foldl kSt (N, 1)).1 ∧ 1 ≤ ((ws.take i).foldl kSt (N, 1)).2 ∧ ((ws.take i).foldl kSt (N, 1)).1 < 10 ^ 30 ∧ ((ws.take i).foldl kSt (N, 1)).2 < 10 ^ 30 := by
  obtain ⟨a, b, c, d⟩ := kept_ok g (ws.take i) (fun x hx => List.mem_of_mem_take hx) (N, 1) n1 (Int.le_refl 1)
  have l8 : (ws.take i).length ≤ 8 := by rw [List.length_take]; omega
  have p := pow8 l8
  have q1 : N * 150 ^ (ws.take i).length ≤ 4096 * 150 ^ 8 := Int.mul_le_mul n2 p (Int.pow_nonneg (by decide)) (by decide)
  have q2 : (4096 * 150 ^ 8 : Int) < 10 ^ 30 := by decide
  dsimp only at c d
  exact ⟨a, b, by omega, by omega⟩
theorem mend_bd {ws : List Fc} (g : GoodW 150 ws) (h8 : ws.length ≤ 8) (i : Nat) : 0 ≤ ((ws.take i).foldl mSt (0, 1)).1 ∧ 1 ≤ ((ws.take i).foldl mSt (0, 1)).2 ∧ ((ws.take i).foldl mSt (0, 1)).1 < 10 ^ 30 ∧ ((ws.take i).foldl mSt (0, 1)).2 < 10 ^ 30 := by
  obtain ⟨a, b, c⟩ := mend_ok g (ws.take i) (fun x hx => List.mem_of_mem_take hx) (0, 1) (by decide) (by decide)
  have l8 : (ws.take i).length ≤ 8 := by rw [List.length_take]; omega
  have p := pow8 l8
  have q2 : (150 ^ 8 : Int) < 10 ^ 30 := by decide
  dsimp only at c
  exact ⟨a, b, by omega, by omega⟩
theorem log30 {x : Int} (h1 : 1 ≤ x) (h2 : x < 10 ^ 30) : x.natAbs.log2 < 9000 := log_big h1 (Int.lt_trans h2 (by decide))
theorem fineW_fr {x : Fc} (h1 : 0 ≤ x.1) (h2 : x.1 < 10 ^ 30) (h3 : 0 ≤ x.2) (h4 : x.2 < 10 ^ 30) : FineW (frD x) 2 222 :=
  (FineW.tuple (.cons (fineW_int (by omega)) (.cons (fineW_int (by omega)) (.nil _)))).mono (by omega) (by omega)
end Rd

set_option Elab.async false
set_option linter.all false
set_option maxRecDepth 100000
set_option maxHeartbeats 4000000
/-! sum(..) of a generator expression of ints: any source, any target, any element -/
namespace Gx
open PySem PySem.Spec PyProof.Rows L2 GenW
/-- running: z is the sum so far, in the consumer's own list -/
def GZ (X : Cx) (S : Addr) (ip : List (Addr × Obj)) (z : Int) (σ : L2.St) (H : Hp) (s : Shared) : Prop := ∃ (t : Tok) (c : Nat), Inv X ((S, lstObj #[.int z t] c) :: ip) σ H s
structure SleptZ (S : Addr) (z : Int) (s s' : Shared) : Prop where
  os : s'.os = s.os
  bare : AllBare s'.gens
  keep : ∀ b o, b ≠ S → s.heap.get? b = some o → s'.heap.get? b = some o
  own : ∃ t c, s'.heap.get? S = some (lstObj #[.int z t] c)
theorem GZ.woken {X : Cx} {S : Addr} {ip : List (Addr × Obj)} {z z' : Int} {σ : L2.St} {H : Hp} {s s' : Shared} (hpn : ∀ p ∈ X.pn, p.1 ≠ S) (hip : ∀ p ∈ ip, p.1 ≠ S) (hA : Apart X S) (h : GZ X S ip z σ H s) (w : SleptZ S z' s s') : GZ X S ip z' σ H s' := by
  obtain ⟨t, c, I⟩ := h
  obtain ⟨eS, hS0, hSL, hSf, _⟩ := I.pin (S, lstObj #[.int z t] c) (List.mem_append_right _ List.mem_cons_self)
  have I0 : Inv X ip σ H s := I.pins_of fun p hp => I.pin p (List.mem_append_right _ (List.mem_cons_of_mem _ hp))
  have nt : ∀ b u, H b = some u → b ≠ S := fun b u q hb => by rw [hb, hS0] at q; cases q
  obtain ⟨z1, z2, z3, t', c', eS'⟩ := w
  obtain ⟨hh, g, d, t9, o⟩ := s'
  have ho : o = s.os := z1
  subst ho
  have nc : ∀ b, b ∉ [S] → b ≠ S := fun b hb e => hb (by rw [e]; exact List.mem_singleton.mpr rfl)
  have J : Inv X ip σ H { s with heap := hh, gens := g, drawn := d, toks := t9 } := by
    refine I0.step (g' := g) (t' := t9) (d' := d) (ch := [S]) (fun b hb => ?_)
      (fun b ob _ _ hc q _ => z3 b ob (nc b hc) q) (fun b ob _ _ hc q _ => ⟨ob.slots, z3 b ob (nc b hc) q⟩) (fun _ _ _ _ n => n) (fun b ob hc q => ⟨ob, z3 b ob (nc b hc) q⟩)
      (fun _ _ q => q) (fun _ _ _ q => q) (fun b ps q => ⟨#[], by rw [q]; simp⟩) (fun m hm => ?_) (fun b u q => ?_) z2
    · rw [List.mem_singleton.mp hb]
      refine ⟨.inr hA.1, hA.2.1, hA.2.2, fun p hp => ?_⟩
      rcases List.mem_append.mp hp with hp | hp
      · exact hpn p hp
      · exact hip p hp
    · obtain ⟨ob, es, ep, ho, r⟩ := hm
      exact ⟨ob, es, ep, z3 _ ob (Ne.symm hSL) ho, r⟩
    · refine (I0.hok b u q).stay (fun c v hc y => z3 c v ?_ y) (fun _ y => y) fun _ _ y => y
      rcases hc with y | y
      · rw [y]; exact nt b u q
      · exact nt c _ y
  refine ⟨t', c', J.pins_of fun p hp => ?_⟩
  rcases List.mem_cons.mp hp with hp | hp
  · rw [hp]
    exact ⟨eS', hS0, hSL, hSf, fun v q => by cases q⟩
  · exact J.pin p (List.mem_append_right _ hp)
def REndZ (P : Program) (w : World) (outer : List Env) (H : Hp) (s : Shared) (ex : List Addr) (S : Addr) (Q : Int → Hp → Prop) : GenEnd := fun _ s₀ r s1 =>
  ((r = .ok (.ret .none) ∨ r = .ok .next) ∧ ∃ (H' : Hp) (z : Int) (t : Tok) (c : Nat), s₀.heap.get? S = s1.heap.get? S ∧ s1.os = s.os ∧ AllBare s1.gens ∧ Un (frs outer) ex H H' s.heap s1.heap ∧ HOk P w H' s1.heap ∧ H' S = none ∧ s1.heap.get? S = some (lstObj #[.int z t] c) ∧ Q z H') ∨
  ∃ e, r = .error e ∧ False
def YItemZ (s : Shared) (S a : Addr) (g : Nat) : Protocol := fun _ s₀ v s1 kap =>
  s₀.heap.get? S = s1.heap.get? S ∧ s1.os = s.os ∧ AllBare s1.gens ∧ s1.heap.NoLimit ∧ s1.heap.IsGen a g ∧ ∃ (z y : Int) (t : Tok) (c : Nat) (ty : Tok), v = .int y ty ∧ s1.heap.get? S = some (lstObj #[.int z t] c) ∧ ∀ s', SleptZ S (z + y) s1 s' → kap (.send .none) s'
def GMadeZ (P : Program) (w : World) (k : Nat) (outer : List Env) (H : Hp) (s : Shared) (ex : List Addr) (Q : Int → Hp → Prop) (u : Value) (s' : Shared) : Prop :=
  ∃ (a : Addr) (g : Nat) (c : Code), u = .ref a ∧ s.heap.objs.size ≤ a ∧ a < s'.heap.objs.size ∧ s'.heap.IsGen a g ∧ s'.gens[g]? = some (.fresh c) ∧ s'.os = s.os ∧ AllBare s'.gens ∧ s'.heap.NoLimit ∧ (∀ b o, s.heap.get? b = some o → s'.heap.get? b = some o) ∧
    ∃ n : Nat, ∀ (A : Around) (S : Addr) (s2 : Shared), Room k A → A.frames = some outer → s'.heap.objs.size ≤ S → (∀ b o, s'.heap.get? b = some o → s2.heap.get? b = some o) → (∃ t c, s2.heap.get? S = some (lstObj #[.int 0 t] c)) → s2.os = s.os → AllBare s2.gens →
      Seg (model P w) A (REndZ P w outer H s ex S Q) (YItemZ s S a g) n s2 c ((model P w).den c) [] s2
def TurnsZ (J : It) (g : TG) (tt : TT) (te : TE) (vs : List Nat) (σ : L2.St) (Q : Int → Hp → Prop) (W : Nat → Nat → Int → Hp → Prop) : Prop := ∀ i m z H, W i m z H →
  (J.stop i H ∧ Q z H) ∨ (J.go i H ∧ ∃ Nx : Int → Hp → Prop, (∀ z' H', Nx z' H' → ∃ m', m' < m ∧ W (i + 1) m' z' H') ∧ ∀ x H', J.yld i H x H' → g x (wipe σ vs) H' fun σ2 H2 => wipe σ2 vs = wipe σ vs ∧ tt σ2 H2 fun b H3 =>
    if b = true then te σ2 H3 fun y H4 => ∃ u, y = .int u ∧ Nx (z + u) H4 else Nx z H3)
section
variable {X : Cx} {A B : Around} {s3 : Shared} {H3 : Hp} {cenv : Env} {fp : List Addr} {σ : L2.St}
theorem seg_loopZ {elt tg iter : Expr} {ifs : List Expr} {scope : Scope} {pos : Pos} {it a : Addr} {gn : Nat} {go : Obj} {J : It} {tn : Nat → Heap → Prop} {g : TG} {tt : TT} {te : TE} {vs : List Nat} {Q : Int → Hp → Prop} {W : Nat → Nat → Int → Hp → Prop} {S : Addr}
    (T : Turn X.prog X.w X.K tg J fp it tn) (hc : X.calm = true) (hov : B.over (.compLoop (.GeneratorExp elt [⟨tg, iter, ifs, 0⟩] scope pos) 0 (.ref it) .none cenv) [] = A) (hco : cenv.scope.isCoroutine = false) (haf : a ∉ fp) (hSf : S ∉ fp) (haS : a ≠ S) (hAp : Apart (gcx X A s3 H3 cenv fp) S)
    (hgo : ∀ h : Heap, h.get? a = some go → h.IsGen a gn)
    (pg : PG (gcx X A s3 H3 cenv fp) tg g) (pt : PTs (gcx X A s3 H3 cenv fp) ifs tt) (pe : PE (gcx X A s3 H3 cenv fp) elt te) (turn : TurnsZ J g tt te vs σ Q W) :
    ∀ (m n i : Nat) (z : Int) (s₀ s : Shared) (H : Hp), m < n → s₀.heap.get? S = s.heap.get? S → GZ (gcx X A s3 H3 cenv fp) S [(a, go)] z (wipe σ vs) H s → tn i s.heap → (∀ b ∈ fp, H b = none) → W i m z H →
      Seg (model X.prog X.w) B (REndZ X.prog X.w X.stack H3 s3 fp S Q) (YItemZ s3 S a gn) n s₀
        (.compLoop (.GeneratorExp elt [⟨tg, iter, ifs, 0⟩] scope pos) 0 (.ref it) .none cenv)
        ((model X.prog X.w).den (.compLoop (.GeneratorExp elt [⟨tg, iter, ifs, 0⟩] scope pos) 0 (.ref it) .none cenv)) [] s := by
  have stat : ∀ {σ' : L2.St} {H' : Hp} {s' : Shared} {o : Obj}, Inv (gcx X A s3 H3 cenv fp) ((S, o) :: [(a, go)]) σ' H' s' → (∀ b ∈ fp, H' b = none) → ∀ b ∈ fp, FpOk (gcx X A s3 H3 cenv fp) ((S, o) :: [(a, go)]) H' b := fun {σ' H' s' o} I' hn b hb =>
    ⟨hn b hb, (I'.ok.exf b hb).1, I'.ok.exfs b hb, .inl hb, fun x c e => (I'.ok.exf b hb).2 x c e, fun p hp z => by
      have hp : p ∈ (S, o) :: [(a, go)] := by simpa using hp
      rcases List.mem_cons.mp hp with q | q
      · rw [q] at z; exact hSf (by have z : S = b := z; rw [z]; exact hb)
      · rw [List.mem_singleton.mp q] at z; exact haf (by have z : a = b := z; rw [z]; exact hb)⟩
  intro m
  induction m using Nat.strongRecOn with
  | ind m ih =>
    intro n i z s₀ s H hmn h0 hG st nf w
    obtain ⟨tz, cc, I⟩ := hG
    have hS := (I.pin (S, lstObj #[.int z tz] cc) (List.mem_append_right _ List.mem_cons_self)).1
    have h0 := h0.trans hS
    show Seg _ B _ _ _ s₀ _ ((compTurn (.GeneratorExp elt [⟨tg, iter, ifs, 0⟩] scope pos) 0 (.ref it) .none cenv).onRaise (leaving cenv)) [] s
    rw [compTurn_gen, Sem.onRaise_eq_wrap]
    refine seg_bind_wrap (wpAny_standAt ?_)
    rcases turn i m z H w with ⟨stop, qq⟩ | ⟨go', Nx, hNx, step⟩
    · refine seg_bind_wrap ?_
      rw [hov]
      refine wpAny_mono (T.done (gcx X A s3 H3 cenv fp) rfl rfl rfl hc i _ s _ H (fun _ _ => False) I (stat I nf) st stop) (fun r s6 hx => ?_) fun _ _ e => e.elim
      obtain ⟨rfl, I6⟩ := hx
      obtain ⟨z1, z2, z3, z4, _⟩ := I6.pin (S, lstObj #[.int z tz] cc) (List.mem_append_right _ List.mem_cons_self)
      exact seg_end (.ok .next) (.inl ⟨.inr rfl, H, z, tz, cc, h0.trans z1.symm, I6.os, I6.bare, I6.base, I6.hok, z2, z1, qq⟩)
    · refine seg_bind_wrap ?_
      rw [hov]
      refine wpAny_mono (T.item (gcx X A s3 H3 cenv fp) rfl rfl rfl hc i _ s _ H (fun _ _ => False) I (stat I nf) st go') (fun r s6 hx => ?_) fun _ _ e => e.elim
      obtain ⟨u, rfl, h6⟩ := hx
      refine seg_bind_wrap ?_
      rw [hov]
      refine wpAny_mono h6 (fun _ s7 hx => ?_) fun _ _ e => e.elim
      obtain ⟨x, H7, I7, r7, y7, st7, n7⟩ := hx
      have I7' := I7.pinned (stat I7 n7) (T.obj _ _ st7)
      refine seg_bind_wrap ?_
      rw [hov]
      refine wpAny_mono (pg.run _ s7 _ H7 x u _ I7' r7 (step x H7 y7)) (fun _ s8 hx => ?_) fun _ _ e => e.elim
      obtain ⟨σ8, H8, I8, hw8, q8⟩ := hx
      refine seg_bind_wrap ?_
      rw [hov]
      refine wpAny_mono (pt.run _ s8 σ8 H8 _ I8 q8) (fun b s9 hx => ?_) fun _ _ e => e.elim
      obtain ⟨H9, I9, q9⟩ := hx
      have fin : ∀ {s' : Shared} {H' : Hp} {z' : Int}, GZ (gcx X A s3 H3 cenv fp) S ([(a, go)] ++ pinsAt fp s7.heap) z' σ8 H' s' → GZ (gcx X A s3 H3 cenv fp) S [(a, go)] z' (wipe σ vs) H' s' ∧ tn (i + 1) s'.heap ∧ ∀ b ∈ fp, H' b = none := fun {s' H' z'} hG' => by
        obtain ⟨tz', cc', I'⟩ := hG'
        have I' : Inv (gcx X A s3 H3 cenv fp) (((S, lstObj #[.int z' tz'] cc') :: [(a, go)]) ++ pinsAt fp s7.heap) σ8 H' s' := I'
        have pin' : ∀ b ∈ fp, ∀ o, s7.heap.get? b = some o → s'.heap.get? b = some o ∧ H' b = none := fun b hb o e =>
          let z := I'.pin (b, o) (List.mem_append_right _ (List.mem_append_right _ (mem_pinsAt hb e)))
          ⟨z.1, z.2.1⟩
        have hl : (wipe σ vs).length = σ8.length := by rw [← hw8, wipe_length]
        refine ⟨⟨tz', cc', I'.unpinned.weak hl (fun j v e => ?_)⟩, T.keep _ _ _ st7 fun b hb o e => (pin' b hb o e).1, fun b hb => ?_⟩
        · rw [← hw8] at e
          exact (wipe_some e).1
        · obtain ⟨o, e, _⟩ := T.obj _ _ st7 b hb
          exact (pin' b hb o e).2
      cases b with
      | false =>
        simp only [Bool.false_eq_true, if_false] at q9 ⊢
        obtain ⟨m', hm, w'⟩ := hNx z H9 q9
        obtain ⟨f1, f2, f3⟩ := fin (z' := z) ⟨tz, cc, I9⟩
        have p9 := I9.pin (S, lstObj #[.int z tz] cc) (List.mem_append_right _ (List.mem_append_left _ List.mem_cons_self))
        exact seg_again rfl (ih m' hm n (i + 1) z s₀ _ H9 (by omega) (h0.trans p9.1.symm) f1 f2 f3 w')
      | true =>
        simp only [if_true] at q9 ⊢
        have hy : ∀ v, yieldOut cenv v = yieldValue v := fun v => by simp only [yieldOut, hco, Bool.false_eq_true, if_false]
        simp only [hy]
        rw [Sem.bind_eq_wrap', Sem.bind_eq_wrap', Sem.wrap_wrap, Sem.wrap_wrap]
        refine seg_wrap ?_
        rw [hov]
        refine wpAny_mono (pe.run _ s9 σ8 H9 _ I9 q9) (fun zv s10 hx => ?_) fun _ _ e => e.elim
        obtain ⟨yv, H10, I10, r10, u10, rfl, nx⟩ := hx
        obtain ⟨t10, rfl⟩ := (show ∃ t, zv = Value.int u10 t from r10)
        obtain ⟨n, rfl⟩ : ∃ n', n = n' + 1 := ⟨n - 1, by omega⟩
        have pS := I10.pin (S, lstObj #[.int z tz] cc) (List.mem_append_right _ (List.mem_append_left _ List.mem_cons_self))
        have pA := I10.pin (a, go) (List.mem_append_right _ (List.mem_append_left _ (List.mem_cons_of_mem _ (List.mem_singleton.mpr rfl))))
        refine seg_at (seg_yield rfl rfl rfl ⟨h0.trans pS.1.symm, I10.os, I10.bare, I10.nolimit, hgo _ pA.1, z, u10, tz, cc, t10, rfl, pS.1, fun s'' hk => ?_⟩)
        obtain ⟨m', hm, w'⟩ := hNx (z + u10) H10 nx
        have hG10 : GZ (gcx X A s3 H3 cenv fp) S ([(a, go)] ++ pinsAt fp s7.heap) z σ8 H10 s10 := ⟨tz, cc, I10⟩
        have wk := hG10.woken (fun p hp => by simp at hp) (fun p hp z => by
          rcases List.mem_append.mp hp with q | q
          · rw [List.mem_singleton.mp q] at z; exact haS z
          · obtain ⟨hb, _⟩ := of_pinsAt q
            exact hSf (by rw [← z]; exact hb)) hAp hk
        obtain ⟨f1, f2, f3⟩ := fin wk
        exact seg_again rfl (ih m' hm n (i + 1) (z + u10) s'' s'' H10 (by omega) rfl f1 f2 f3 w')
end
section
variable {X : Cx} {pins : List (Addr × Obj)} {σ : L2.St} {H : Hp} {s : Shared}
theorem gen_madeZ {c P : Addr} {elt tg iter : Expr} {ifs : List Expr} {gpos : Pos} {scope : Scope} {own : List (Str × Nat)} {wi : TI} {g : TG} {tt : TT} {te : TE} {k : Nat} {QQ : Int → Hp → Prop}
    (hr : Room (k + 1) X.A) (hc : X.calm = true) (hN : X.N.Nodup) (TB : GxR.TabB X.base X.mg c P) (hcode : X.env.code = .ref c) (ok : BlkOk X.N X.env.scope scope own) (S : GenK scope) (hi : PI X tg iter wi) (hs : ∀ v, genFold iter X.env v = pure v)
    (hg : ∀ (A : Around) (s : Shared) (H : Hp) (C : Addr) (code : Value) (fp : List Addr), Room k A → PG (gcx X A s H (genEnv scope (cloFrom X.env.cells scope.names []) C code builtinsNs X.env) fp) tg g)
    (ht : ∀ (A : Around) (s : Shared) (H : Hp) (C : Addr) (code : Value) (fp : List Addr), Room k A → PTs (gcx X A s H (genEnv scope (cloFrom X.env.cells scope.names []) C code builtinsNs X.env) fp) ifs tt)
    (he : ∀ (A : Around) (s : Shared) (H : Hp) (C : Addr) (code : Value) (fp : List Addr), Room k A → PE (gcx X A s H (genEnv scope (cloFrom X.env.cells scope.names []) C code builtinsNs X.env) fp) elt te)
    (I : Inv X pins σ H s) (h : wi σ H fun J H1 => GxR.TabG H1 P ∧ ∀ H2, GxR.Tabbed P H1 H2 → ∃ W : Nat → Nat → Int → Hp → Prop, (∃ m, W 0 m 0 H2) ∧ TurnsZ J g tt te (own.map (·.2)) σ QQ W) :
    wpAny (model X.prog X.w) X.A (eval (.GeneratorExp elt [⟨tg, iter, ifs, 0⟩] scope gpos) X.env) (fun v s5 => ∃ (s3 : Shared) (H3 : Hp) (fp : List Addr), GMadeZ X.prog X.w (k + 1) X.stack H3 s3 fp QQ v s5 ∧
      ∀ (H' : Hp) (s' : Shared), s'.os = s3.os → AllBare s'.gens → Un (frs X.stack) fp H3 H' s3.heap s'.heap → HOk X.prog X.w H' s'.heap → Inv X pins σ H' s') X.xe s := by
  have hfree : ∀ y ∈ scope.names, y.2 = .free → ∃ c, X.env.cells.lookup y.1 = some c := fun y hy e => by
    rcases ok.free y hy e with k | k
    · exact I.ok.has _ (.inl k)
    · exact I.ok.has _ (.inr k)
  refine wpAny_GeneratorExp_make S.co (closure_ok hfree) S.cell S.dot ok.kind hr.depth (wpAny_mono (hi.run pins s σ H _ I h) (fun xv s1 h1 => wpAny_mono h1 (fun itv s2 h2 => ?_) fun _ _ e => e) fun _ _ e => e) hs
  obtain ⟨it, fp, tn, J, H1, rfl, I2, T, st2, f2, ⟨ps, hP, htr⟩, hW⟩ := h2
  refine ⟨I2.nolimit, ?_⟩
  have tabS : s2.heap.get? P = some { cls := .none, data := .fields ps } := I2.hok P _ hP
  have hd : PySem.W.CodeHd s2.heap c P := TB.code.keeps fun b u e => I2.bk b u e
  have key : ∀ (REST : Value → Shared → Prop), (∀ (cv : Value) (h3 : Heap) (tk : Nat) (more : Array Value), Heap.ExtBut P s2.heap h3 → s2.heap.objs.size ≤ h3.objs.size → h3.get? P = some { cls := .none, data := .fields (ps ++ more) } → TriplesOk (ps ++ more).toList → REST cv { s2 with heap := h3, toks := tk }) →
      wpAny (model X.prog X.w) X.A (genexprCode X.env gpos (X.env.qual ++ "<genexpr>") scope) REST X.xe s2 := fun REST fin => by
    cases hf : codeAmong gpos ps.toList with
    | some cv =>
      have e : ps = ps ++ #[] := by simp
      exact wpAny_genexprCode_hit hcode (hd.code tabS htr) hf (fin cv _ s2.toks #[] (Heap.ExtBut.refl _ _) (Nat.le_refl _) (e ▸ tabS) (e ▸ htr))
    | none =>
      refine wpAny_genexprCodeX hcode (hd.code tabS htr) (hd.tab tabS) hf fun c' h3 tk ex ge lt ic _ ta _ => ?_
      obtain ⟨_, _, _, _, _, _, _, _, _, _, _, _, _, _, _, _, _, _, _, tr, _⟩ := ic
      exact fin _ h3 tk _ ex (Nat.le_trans ge (Nat.le_of_lt lt)) ta.2 tr
  refine key _ fun cv h3 tk more ex ge tab3 tr3 => ?_
  obtain ⟨bm, ob, b1, b2, b3, b4, b5, b6, b7, b8⟩ := TB.bm
  refine wpAny_builtinsFor (m := X.mg) (by rw [I2.ok.glob]; exact (I2.mod.glob.keeps I2.bk).extBut ex TB.gP) b1 b2 (ex _ _ b4 (I2.bk _ _ b5)) b6 b7 b8 ?_
  intro h' hn' hs'
  generalize hs3 : ({ s2 with heap := h3, toks := tk } : Shared) = s3 at hn' hs' ⊢
  have e3 : s3.heap = h3 := by rw [← hs3]
  have I3 : Inv X pins σ (upd H1 P (.tbl (ps ++ more))) s3 := by
    rw [← hs3]
    exact GxR.inv_tab (more := more) (h' := h3) (g' := s2.gens) (d' := s2.drawn) (t' := tk) I2 hP (fun b o n e => ex b o n e) tab3 I2.bare
  obtain ⟨W, ⟨m0, w0⟩, turn⟩ := hW _ ⟨⟨ps ++ more, upd_same, tr3⟩, fun b hb => upd_ne hb⟩
  have neP : ∀ b ∈ fp, b ≠ P := fun b hb z => by
    have := (f2 b hb).1
    rw [z, hP] at this
    cases this
  have f3 : ∀ b ∈ fp, FpOk X pins (upd H1 P (.tbl (ps ++ more))) b ∧ b < s3.heap.objs.size := fun b hb => by
    obtain ⟨o, e, _⟩ := T.obj _ _ st2 b hb
    refine ⟨⟨?_, (f2 b hb).2⟩, by rw [e3]; exact Nat.lt_of_lt_of_le (Heap.lt_size e) ge⟩
    rw [upd_ne (neP b hb)]
    exact (f2 b hb).1
  have st3 : tn 0 s3.heap := T.keep _ _ _ st2 fun b hb o e => by rw [e3]; exact ex b o (neP b hb) e
  generalize hH3 : upd H1 P (.tbl (ps ++ more)) = H3 at I3 w0 f3
  have nf : ∀ b ∈ fp, H3 b = none := fun b hb => (f3 b hb).1.1
  generalize hgo : ({ cls := .type "generator", data := .fields #[.int s3.gens.size 0, .str "<genexpr>" (s3.toks + 1), .str (X.env.qual ++ "<genexpr>") (s3.toks + 1 + 1)] } : Obj) = go
  have sz' : h'.objs.size = s3.heap.objs.size + 1 := by rw [hs'.1, Heap.size_push]
  generalize hs5 : ({ s3 with gens := s3.gens.push (.fresh (.compStart (.GeneratorExp elt [⟨tg, iter, ifs, 0⟩] scope gpos) 0 (.ref it) .none (genEnv scope (cloFrom X.env.cells scope.names []) s3.heap.objs.size cv builtinsNs X.env))), toks := s3.toks + 1 + 1 + 1, heap := h'.push go } : Shared) = s5
  have h5 : s5.heap = h'.push go := by rw [← hs5]
  have sz5 : s5.heap.objs.size = h'.objs.size + 1 := by rw [h5, Heap.size_push]
  have kp : Kept s3 s5 := by
    refine ⟨by rw [← hs5], by rw [← hs5]; exact AllBare.push I3.bare rfl, fun b o e => ?_⟩
    rw [h5]
    exact Heap.get?_push_of_some _ (hs'.extBut b o (Nat.ne_of_lt (Heap.lt_size e)) (Heap.get?_push_of_some _ e))
  have hga : s5.heap.get? h'.objs.size = some go := by rw [h5, ← hgo]; exact Heap.get?_push_size _ rfl
  have isg : ∀ h : Heap, h.get? h'.objs.size = some go → h.IsGen h'.objs.size s3.gens.size := fun h e => ⟨go, _, _, e, by rw [← hgo], by rw [← hgo], by rw [← hgo]⟩
  have hgs : s5.gens[s3.gens.size]? = some (.fresh (.compStart (.GeneratorExp elt [⟨tg, iter, ifs, 0⟩] scope gpos) 0 (.ref it) .none (genEnv scope (cloFrom X.env.cells scope.names []) s3.heap.objs.size cv builtinsNs X.env))) := by
    rw [← hs5]
    exact Array.getElem?_push_size ..
  have hns : s5.heap.Ns s3.heap.objs.size (fun y => if y = ".0" then some (.ref it) else none) := by rw [h5]; exact hn'.push _
  have nstk : ∀ b, s3.heap.objs.size ≤ b → b ∉ frs X.stack := fun b hb z => by
    rcases List.mem_cons.mp (I3.stkSub _ z) with z | z
    · exact absurd (Nat.lt_of_lt_of_le I3.lt (show s3.heap.objs.size ≤ X.env.locals by rw [← z]; exact hb)) (Nat.lt_irrefl _)
    · exact I3.nofs hb z
  have lt35 : s3.heap.objs.size < s5.heap.objs.size := by omega
  refine ⟨s3, H3, fp, ⟨h'.objs.size, s3.gens.size, _, rfl, (show s3.heap.objs.size ≤ h'.objs.size by omega), (show h'.objs.size < s5.heap.objs.size by omega), isg _ hga, hgs, kp.os, kp.bare, I3.nolimit.keeps kp.keep, kp.keep, m0 + 1, fun A' Sx s6 hrA hfrA hSx hk6 hSo hos hba => ?_⟩, fun H' s' ho hb hu hok => I3.call' (ch := fp) ho hu hok hb fun b hb => ⟨(f3 b hb).1.2.2.2.1, (f3 b hb).1.2.1, (f3 b hb).1.2.2.2.2.1, (f3 b hb).1.2.2.2.2.2⟩⟩
  have k6 : Kept s3 s6 := ⟨hos, hba, fun b o e => hk6 b o (kp.keep b o e)⟩
  have rm : Room k (A'.over (.compLoop (.GeneratorExp elt [⟨tg, iter, ifs, 0⟩] scope gpos) 0 (.ref it) .none (genEnv scope (cloFrom X.env.cells scope.names []) s3.heap.objs.size cv builtinsNs X.env)) []) := by
    have h1 := hrA.dp
    have h2 := hrA.un
    refine ⟨hrA.hd, ?_, ?_⟩
    · show A'.depth + 0 + 1 + 3 * k + 5 < _
      omega
    · show A'.units + 0 + 3 + 16 * k + 200 < _
      omega
  have Ig := gen_start I3 ok S hN f3 rm.hd (over_gen hfrA) k6 (hns.keeps hk6)
  obtain ⟨tS, cS, heS⟩ := hSo
  have Sx3 : s3.heap.objs.size ≤ Sx := Nat.le_trans (Nat.le_of_lt lt35) hSx
  have SxC : Sx ≠ s3.heap.objs.size := Nat.ne_of_gt (Nat.lt_of_lt_of_le lt35 hSx)
  have aS : h'.objs.size ≠ Sx := Nat.ne_of_lt (Nat.lt_of_lt_of_le (by omega) hSx)
  have hG : GZ (gcx X (A'.over (.compLoop (.GeneratorExp elt [⟨tg, iter, ifs, 0⟩] scope gpos) 0 (.ref it) .none (genEnv scope (cloFrom X.env.cells scope.names []) s3.heap.objs.size cv builtinsNs X.env)) []) s3 H3 (genEnv scope (cloFrom X.env.cells scope.names []) s3.heap.objs.size cv builtinsNs X.env) fp) Sx [(h'.objs.size, go)] 0 (wipe σ (own.map (·.2))) H3 s6 := by
    refine ⟨tS, cS, Ig.pins_of fun p hp => ?_⟩
    rcases List.mem_cons.mp hp with z | z
    · rw [z]
      exact ⟨heS, I3.hok.fresh Sx3, SxC, nstk _ Sx3, fun v q => by cases q⟩
    · rw [List.mem_singleton.mp z]
      exact ⟨hk6 _ _ hga, I3.hok.fresh (by omega), by show h'.objs.size ≠ s3.heap.objs.size; omega, nstk _ (by omega), fun v q => by rw [← hgo] at q; cases q⟩
  have st6 : tn 0 s6.heap := T.keep _ _ _ st3 fun b hb o e => k6.keep b o e
  have hAp : Apart (gcx X (A'.over (.compLoop (.GeneratorExp elt [⟨tg, iter, ifs, 0⟩] scope gpos) 0 (.ref it) .none (genEnv scope (cloFrom X.env.cells scope.names []) s3.heap.objs.size cv builtinsNs X.env)) []) s3 H3 (genEnv scope (cloFrom X.env.cells scope.names []) s3.heap.objs.size cv builtinsNs X.env) fp) Sx := by
    refine ⟨Sx3, SxC, fun x c e z => ?_⟩
    obtain ⟨v, q⟩ := Ig.cell x c e
    have hcl : X.env.cells.lookup x = some c := by
      have e : (cloFrom X.env.cells scope.names []).lookup x = some c := e
      rcases cloFrom_mem (PySem.mem_of_lookup e) with hm | ⟨h1, rfl⟩
      · cases hm
      · obtain ⟨c, hc⟩ := hfree _ h1 rfl
        rw [hc]
        rfl
    obtain ⟨v3, q3⟩ := I3.cell x c hcl
    exact absurd (Nat.lt_of_lt_of_le q3.lt (by rw [z]; exact Sx3)) (Nat.lt_irrefl _)
  refine seg_start T st6 (seg_loopZ T hc rfl S.co (fun z => ?_) (fun z => ?_) aS hAp isg (hg _ _ _ _ _ _ rm) (ht _ _ _ _ _ _ rm) (he _ _ _ _ _ _ rm) turn m0 (m0 + 1) 0 0 _ _ H3 (Nat.lt_succ_self _) rfl hG st6 nf w0)
  · have q : h'.objs.size < s3.heap.objs.size := (f3 _ z).2
    omega
  · exact absurd (Nat.lt_of_lt_of_le (f3 _ z).2 Sx3) (Nat.lt_irrefl _)
end
end Gx

set_option Elab.async false
set_option linter.all false
set_option maxRecDepth 100000
set_option maxHeartbeats 4000000
namespace Gx
open PySem PySem.Spec PyProof.Rows L2 GenW
/-- sum's loop -/
theorem sum_drain {P : Program} {w : World} {outer : List Env} {H : Hp} {sc : Shared} {ex : List Addr} {Q : Int → Hp → Prop} {A : Around} {R : Result → Shared → Prop} {S a : Addr} {g : Nat}
    (hh : A.handled = none) (hd : A.depth < recursionLimit) (hSa : S ≠ a) (hSc : S ≠ cStatics)
    (hend : ∀ s' z t H', s'.os = sc.os → AllBare s'.gens → Un (frs outer) ex H H' sc.heap s'.heap → HOk P w H' s'.heap → Q z H' → R (.ok (.ret (.int z t))) s') :
    ∀ (m : Nat) (s : Shared) (st z : Int) (t : Tok) (c : Nat), (st = 0 ∨ st = 2) → s.heap.get? S = some (lstObj #[.int z t] c) → s.heap.IsGen a g → s.heap.NoLimit →
      (∃ gs, s.gens[g]? = some gs ∧ gs.Goes (model P w) A.in1.in1 (REndZ P w outer H sc ex S Q) (YItemZ sc S a g) m (.send .none) (s.setGen g .running)) →
      codeAny (model P w) A (.builtin "sum.loop" ⟨[.ref a, .ref S, rawInt st, rawInt 0], []⟩) R s := by
  have goes : ∀ {gs : GenState} {B : Around} {n : Nat} {r : Resume} {s : Shared}, gs.Goes (model P w) B (REndZ P w outer H sc ex S Q) (YItemZ sc S a g) n r s →
      gs.Goes (model P w) B (fun n s₀ r s1 => ((r = .ok (.ret .none) ∨ r = .ok .next) ∧ ∃ (H' : Hp) (z : Int) (t : Tok) (c : Nat), s₀.heap.get? S = s1.heap.get? S ∧ s1.os = sc.os ∧ AllBare s1.gens ∧ Un (frs outer) ex H H' sc.heap s1.heap ∧ HOk P w H' s1.heap ∧ H' S = none ∧ s1.heap.get? S = some (lstObj #[.int z t] c) ∧ Q z H') ∨
        ∃ e, r = .error e ∧ (fun _ _ => False) e s1) (YItemZ sc S a g) n r s := fun h => h
  intro m
  induction m with
  | zero =>
    intro s st z t c hst hS hg hl ⟨gs, hgs, hgo⟩
    refine codeAny_builtin F.entry_sum_loop ?_
    rw [Around.under_plainId F.plain_sum_loop _]
    show wpAny _ A.in1 (seqItems? (.ref S) >>= _) _ _ s
    refine wpAny_bind (wpAny_seqItems hS rfl ?_)
    show wpAny _ A.in1 (tryCatch (pyNext (.ref a)) _ >>= _) _ _ s
    refine wpAny_bind (wpAny_tryCatch (next_genG (A := A.in1) (Er := fun _ _ => False) hh hl hd hg hgs (goes hgo) (fun v s₁ gs' hbare hv => ?_) (fun s₁ hp h' hk => ?_) fun e s₁ he => he.elim))
    · obtain ⟨e0, os1, hb1, hl1, hg1, z1, y1, t1, c1, ty, rfl, hS1, hk⟩ := hv
      refine (hk { s₁ with heap := s₁.heap.update S (fun o => { o with data := .seq #[.int (z1 + y1) 0] }) } ⟨rfl, hb1, fun b o hb e => (Heap.get?_update_other _ _ (Ne.symm hb)).trans e, ?_⟩).elim
      have q := Heap.get?_update_self (fun o => { o with data := .seq #[.int (z1 + y1) 0] }) hS1 rfl
      exact ⟨_, _, q⟩
    · obtain ⟨H', z1, t1, c1, e0, os1, hb1, un, hok, hSn, hS1, hQ⟩ := hp
      have e1 : s₁.heap.get? S = some (lstObj #[.int z t] c) := e0.symm.trans hS
      rw [hS1] at e1
      cases e1
      exact wpAny_pure (hend _ z t H' os1 (allBare_setGen hb1 rfl) (un.trans (Un.kept hk)) (hok.kept hk) hQ)
  | succ m ih =>
    intro s st z t c hst hS hg hl ⟨gs, hgs, hgo⟩
    have hgl : g < s.gens.size := (Array.getElem?_eq_some_iff.mp hgs).1
    refine codeAny_builtin F.entry_sum_loop ?_
    rw [Around.under_plainId F.plain_sum_loop _]
    show wpAny _ A.in1 (seqItems? (.ref S) >>= _) _ _ s
    refine wpAny_bind (wpAny_seqItems hS rfl ?_)
    show wpAny _ A.in1 (tryCatch (pyNext (.ref a)) _ >>= _) _ _ s
    refine wpAny_bind (wpAny_tryCatch (wpAny_gsz (n := g + 1) hgl (next_genG (A := A.in1) (Er := fun _ _ => False) hh hl hd hg hgs (goes hgo) (fun v s₁ gs' hbare hv => ?_) (fun s₁ hp h' hk => ?_) fun e s₁ he => he.elim)))
    · intro hsz
      obtain ⟨e0, os1, hb1, hl1, hg1, z1, y1, t1, c1, ty, rfl, hS1, hk⟩ := hv
      have e1 : s₁.heap.get? S = some (lstObj #[.int z t] c) := e0.symm.trans hS
      have e1' := e1
      rw [hS1] at e1
      cases e1
      have hsz1 : g < s₁.gens.size := by
        have q : (s₁.setGen g gs').gens.size = s₁.gens.size := setGen_size _ _ _
        have hsz' : g + 1 ≤ (s₁.setGen g gs').gens.size := hsz
        omega
      -- the loop again, in a heap where S alone is otherwise
      have once : ∀ (st' : Int) (h' : Heap) (tk : Nat) (t' : Tok) (c' : Nat), (st' = 0 ∨ st' = 2) → (∀ b o, b ≠ S → s₁.heap.get? b = some o → h'.get? b = some o) → h'.get? S = some (lstObj #[.int (z + y1) t'] c') →
          codeAny (model P w) A (.builtin "sum.loop" ⟨[.ref a, .ref S, rawInt st', rawInt 0], []⟩) R { s₁.setGen g gs' with heap := h', toks := tk } := fun st' h' tk t' c' h2 kp hS' => by
        refine ih _ st' (z + y1) t' c' h2 hS' ?_ ?_ ⟨gs', setGen_at hsz1, ?_⟩
        · obtain ⟨o, nm, qn, ho, r⟩ := hg1
          exact ⟨o, nm, qn, kp a o (Ne.symm hSa) ho, r⟩
        · obtain ⟨mc, hns, hnn⟩ := hl1
          exact ⟨mc, hns.at' fun o e => kp _ o (Ne.symm hSc) e, hnn⟩
        · exact hk _ ⟨rfl, allBare_setGen (allBare_setGen (s := s₁) hb1 hbare) rfl, kp, t', c', hS'⟩
      rcases hst with rfl | rfl
      · show wpAny _ A.in1 (if (_ : Bool) = true then (mkInt (z + y1) >>= _) else _) _ _ _
        split
        · refine wpAny_bind (wpAny_mkInt ?_)
          show wpAny _ A.in1 (updateSeq S (fun _ => #[.int (z + y1) _]) >>= _) _ _ _
          refine wpAny_bind ?_
          refine wpAny_updateSeq e1' rfl (wpAny_pure ⟨plainId_quiet F.plain_sum_loop _, ?_⟩)
          exact once 0 _ _ _ _ (.inl rfl) (fun b o hb e => (Heap.get?_update_other _ _ (Ne.symm hb)).trans e) (Heap.get?_update_self _ e1' rfl)
        · refine wpAny_bind (wpAny_rule ?_)
          refine wpAny_bind (wpAny_attempt (wpAny_holding (wpAny_add_int ?_)))
          show wpAny _ A.in1 (updateSeq S (fun _ => #[.int (z + y1) _]) >>= _) _ _ _
          refine wpAny_bind (wpAny_updateSeq e1' rfl ?_)
          have hS₂ := fun q => Heap.get?_update_self (Obj.mapSeq fun _ => #[Value.int (z + y1) q]) e1' rfl
          refine wpAny_bind (wpAny_letGo ?_)
          refine wpAny_bind (wpAny_updateSeq (hS₂ _) rfl (wpAny_pure ⟨plainId_quiet F.plain_sum_loop _, ?_⟩))
          exact once 2 _ _ _ _ (.inr rfl) (fun b o hb e => (Heap.get?_update_other _ _ (Ne.symm hb)).trans ((Heap.get?_update_other _ _ (Ne.symm hb)).trans e)) (Heap.get?_update_self _ (hS₂ _) rfl)
      · show wpAny _ A.in1 ((holding [Value.int y1 ty] (binaryOp .Add (.int z t) (.int y1 ty))).attempt >>= _) _ _ _
        refine wpAny_bind (wpAny_attempt (wpAny_holding (wpAny_add_int ?_)))
        show wpAny _ A.in1 (updateSeq S (fun _ => #[.int (z + y1) _]) >>= _) _ _ _
        refine wpAny_bind (wpAny_updateSeq e1' rfl ?_)
        have hS₂ := fun q => Heap.get?_update_self (Obj.mapSeq fun _ => #[Value.int (z + y1) q]) e1' rfl
        refine wpAny_bind (wpAny_letGo ?_)
        refine wpAny_bind (wpAny_updateSeq (hS₂ _) rfl (wpAny_pure ⟨plainId_quiet F.plain_sum_loop _, ?_⟩))
        exact once 2 _ _ _ _ (.inr rfl) (fun b o hb e => (Heap.get?_update_other _ _ (Ne.symm hb)).trans ((Heap.get?_update_other _ _ (Ne.symm hb)).trans e)) (Heap.get?_update_self _ (hS₂ _) rfl)
    · intro hsz
      obtain ⟨H', z1, t1, c1, e0, os1, hb1, un, hok, hSn, hS1, hQ⟩ := hp
      have e1 : s₁.heap.get? S = some (lstObj #[.int z t] c) := e0.symm.trans hS
      rw [hS1] at e1
      cases e1
      exact wpAny_pure (hend _ z t H' os1 (allBare_setGen hb1 rfl) (un.trans (Un.kept hk)) (hok.kept hk) hQ)
/-- sum(g), g a generator that has not begun -/
theorem call_sum_new {P : Program} {w : World} {outer : List Env} {H : Hp} {sc s : Shared} {ex : List Addr} {Q : Int → Hp → Prop} {A : Around} {k : Nat} {u : Value} {Q' : Value → Shared → Prop} {E : Value → Shared → Prop}
    (hr : Room (k + 1) A) (hfr : A.frames = some outer) (h : GMadeZ P w k outer H sc ex Q u s)
    (hQ : ∀ (s' : Shared) (z : Int) (t : Tok) (H' : Hp), s'.os = sc.os → AllBare s'.gens → Un (frs outer) ex H H' sc.heap s'.heap → HOk P w H' s'.heap → Q z H' → Q' (.int z t) s') :
    wpAny (model P w) A (call (.builtin "sum") [u]) Q' E s := by
  obtain ⟨a, g, c, rfl, ha1, ha2, hg, hgs, hos, hb, hl, hkp, n, wake⟩ := h
  have hSa : s.heap.objs.size ≠ a := Nat.ne_of_gt ha2
  have hcl : cStatics < s.heap.objs.size := let ⟨_, hn, _⟩ := hl; hn.lt
  have hSc : s.heap.objs.size ≠ cStatics := Nat.ne_of_gt hcl
  refine call_function_tree F.kind_sum F.plain_sum F.entry_sum (F.args_sum1 _) ?_
  unfold Builtin.«sum»
  simp only [List.length_cons, List.length_nil]
  rw [if_neg (by decide)]
  refine wpAny_bind (wpAny_of_eq (show Builtin.Builtins.bindParams "sum" ["start"] 0 { } = pure [none] from rfl) ?_)
  refine wpAny_bind (wpAny_pyIter_gen hg ?_)
  refine wpAny_bind (wpAny_mkInt ?_)
  refine wpAny_bind (wpAny_pure ?_)
  simp only [List.forIn_cons, List.forIn_nil]
  refine wpAny_bind (wpAny_bind (wpAny_bind (wpAny_isInstance (T := "int") (b := false) (typeIs_int _ _ _) PySem.sub_int_str ?_)))
  simp only [Bool.false_eq_true, if_false]
  refine wpAny_pure (wpAny_bind (wpAny_bind (wpAny_isInstance (T := "int") (b := false) (typeIs_int _ _ _) PySem.sub_int_bytes ?_)))
  simp only [Bool.false_eq_true, if_false]
  refine wpAny_pure (wpAny_bind (wpAny_bind (wpAny_isInstance (T := "int") (b := false) (typeIs_int _ _ _) PySem.sub_int_bytearray ?_)))
  simp only [Bool.false_eq_true, if_false]
  refine wpAny_pure (wpAny_pure ?_)
  refine wpAny_bind (wpAny_newObj_type ?_)
  have kp : ∀ b o, s.heap.get? b = some o → (s.heap.push { cls := .type "list", data := .seq #[.int 0 s.toks] }).get? b = some o := fun b o e => Heap.get?_push_of_some _ e
  have hS : (s.heap.push { cls := .type "list", data := .seq #[.int 0 s.toks] }).get? s.heap.objs.size = some (lstObj #[.int 0 s.toks] 0) := Heap.get?_push_size _ rfl
  refine wpAny_pure ⟨plainId_quiet F.plain_sum_loop _, ?_⟩
  refine sum_drain (P := P) (w := w) (outer := outer) (H := H) (sc := sc) (ex := ex) (Q := Q) (A := A) (g := g) hr.hd hr.depth hSa hSc (fun s' z t H' q1 q2 q3 q4 q5 => hQ s' z t H' q1 q2 q3 q4 q5) n _ 0 0 s.toks 0 (.inl rfl) hS (hg.keeps kp) (hl.keeps kp) ⟨_, hgs, rfl, ?_⟩
  refine wake _ _ _ ⟨hr.hd, ?_, ?_⟩ hfr (Nat.le_refl _) kp ⟨_, _, hS⟩ hos (allBare_setGen (s := { s with heap := _ }) hb rfl)
  · have := hr.dp
    show A.depth + 3 * k + 5 < _
    omega
  · have := hr.un
    show A.units + 1 + 1 + 16 * k + 200 < _
    omega
def tSX (wi : TI) (g : TG) (tt : TT) (te : TE) (vs : List Nat) (P : Addr) : TE := fun σ H Q => wi σ H fun J H1 => GxR.TabG H1 P ∧ ∀ H2, GxR.Tabbed P H1 H2 → ∃ W : Nat → Nat → Int → Hp → Prop, (∃ m, W 0 m 0 H2) ∧
  TurnsZ J g tt te vs σ (fun z H => Q (.int z) H) W
section
variable {X : Cx}
theorem pe_sumX {c P : Addr} {elt tg iter : Expr} {ifs : List Expr} {gpos p pos : Pos} {scope : Scope} {own : List (Str × Nat)} {wi : TI} {g : TG} {tt : TT} {te : TE} {k : Nat}
    (hr : Room (k + 2) X.A) (hgl : Gl X "sum") (hm : X.mg "sum" = none) (hc : X.calm = true) (hN : X.N.Nodup) (TB : GxR.TabB X.base X.mg c P) (hcode : X.env.code = .ref c) (ok : BlkOk X.N X.env.scope scope own) (S : GenK scope) (hi : PI X tg iter wi)
    (hg : ∀ (A : Around) (s : Shared) (H : Hp) (C : Addr) (code : Value) (fp : List Addr), Room k A → PG (gcx X A s H (genEnv scope (cloFrom X.env.cells scope.names []) C code builtinsNs X.env) fp) tg g)
    (ht : ∀ (A : Around) (s : Shared) (H : Hp) (C : Addr) (code : Value) (fp : List Addr), Room k A → PTs (gcx X A s H (genEnv scope (cloFrom X.env.cells scope.names []) C code builtinsNs X.env) fp) ifs tt)
    (he : ∀ (A : Around) (s : Shared) (H : Hp) (C : Addr) (code : Value) (fp : List Addr), Room k A → PE (gcx X A s H (genEnv scope (cloFrom X.env.cells scope.names []) C code builtinsNs X.env) fp) elt te)
    (hs : ∀ v, genFold iter X.env v = pure v := by intro _; rfl)
    (hst : starEach [.GeneratorExp elt [⟨tg, iter, ifs, 0⟩] scope gpos] X.env = (false, eval (.GeneratorExp elt [⟨tg, iter, ifs, 0⟩] scope gpos) X.env) :: starEach [] X.env := by rfl) :
    PE X (.Call (.Name "sum" p) [.GeneratorExp elt [⟨tg, iter, ifs, 0⟩] scope gpos] [] pos) (tSX wi g tt te (own.map (·.2)) P) := by
  refine ⟨fun pins s σ H Q I h => ?_⟩
  refine wpAny_Call_Name_kw (ld_blt I hgl hm boot_sum (PyProof.Rows.callWith_builtin1 ?_ hst (by rfl)))
  rw [hst]
  show wpAny _ _ (spliced ((false, _) :: backTo pos (starEach [] X.env))) _ _ s
  refine Calls.spliced_cons (wpAny_mono (gen_madeZ (k := k) (hr.mono (by omega)) hc hN TB hcode ok S hi hs hg ht he I h) (fun v s5 hx => ?_) fun _ _ e => e)
  obtain ⟨s3, H3, fp, hG, back⟩ := hx
  refine Calls.spliced_nil (call_sum_new hr I.ok.frames hG fun s' z t H' q1 q2 q3 q4 q5 => ?_)
  exact ⟨.int z, H', back H' s' q1 q2 q3 q4, ⟨t, rfl⟩, q5⟩
end
end Gx

set_option Elab.async false
set_option linter.all false
set_option maxRecDepth 100000
set_option maxHeartbeats 4000000
/-! dicts whose keys are tuples: comprehensions, len, dict(pairs) -/
namespace Rd
open PySem PySem.Spec PyProof.Rows L2 Dt
theorem d_dictSetT {X : Cx} {pins : List (Addr × Obj)} {σ : L2.St} {H : Hp} {s : Shared} {E : Value → Shared → Prop} {D b : Addr} {kvs : List (List Key × V)} {k : List Key} {v : V} {r : Value} {Q : Unit → Shared → Prop} (hu : X.A.units + 1 < cLine) (I : Inv X pins σ H s) (hD : H D = some (.dT kvs)) (hz : kvs.length < sizeLine)
    (eb : H b = some (.tup (k.map kV))) (rv : RelV v r) (h : ∀ s', Inv X pins σ (upd H D (.dT (putK kvs k v))) s' → Q () s') : wpAny (model X.prog X.w) X.A (dictSet D (.ref b) r) Q E s := by
  obtain ⟨z, hd, xs, rel, dd⟩ := dt_of I.hok hD
  have hzv : xs.length ≤ sizeLine := by rw [← Paired.length rel]; exact z
  have hl : (putK kvs k v).length ≤ sizeLine := by have := length_putK kvs k v; omega
  refine wpAny_dictSet_heap (hsz := hzv) (knd := tupleKind (mixKind X.prog X.w)) (Nat.lt_of_succ_lt hu) (key_of I.hok eb) dd fun h' dd' hs => h _ ?_
  obtain ⟨q, es, ep, hq, h2, h3, h4, _, h5⟩ := dd'
  refine d_write I (by rw [hD]; exact True.intro) hs ⟨q, hq⟩ ⟨hl, hd, _, (rel.put k eb rv).keeps fun c ys ec => ?_, q, es, ep, hq, h2, h3, h4, h5⟩
  rw [upd_ne (ne_of ec hD (fun z => nomatch z))]
  exact ec
section
variable {X : Cx}
/-- {k: v for target in iter if ..}, keys ints or texts: D the new dict -/
def tDcT (wi : TI) (g : TG) (tt : TT) (tk tv : TE) (vs : List Nat) : TE := fun σ H Q => wi σ H fun J H1 => ∀ D, H1 D = none → ∃ W : Nat → Nat → Hp → Prop, (∃ m, W 0 m (upd H1 D (.dT []))) ∧ ∀ i m H, W i m H →
  (J.stop i H ∧ Q (.ref D) H) ∨ (J.go i H ∧ ∃ Nx : Hp → Prop, (∀ H', Nx H' → ∃ m', m' < m ∧ W (i + 1) m' H') ∧ ∀ x H', J.yld i H x H' → g x (wipe σ vs) H' fun σ2 H2 => wipe σ2 vs = wipe σ vs ∧ tt σ2 H2 fun b H3 =>
    if b = true then tk σ2 H3 fun y H4 => tv σ2 H4 fun z H5 => ∃ kvs k b, y = .ref b ∧ H5 b = some (.tup (k.map kV)) ∧ H5 D = some (.dT kvs) ∧ kvs.length < sizeLine ∧ Nx (upd H5 D (.dT (putK kvs k z))) else Nx H3)
theorem dcT_core {pins : List (Addr × Obj)} {s : Shared} {σ : L2.St} {H : Hp} {Q : VK} {kx vx tg iter : Expr} {ifs : List Expr} {scope : Scope} {own : List (Str × Nat)} {pos pos' : Pos} {wi : TI} {g : TG} {tt : TT} {tk tv : TE} {use : Option (Value → Sem Unit)} {Qf : Value → Shared → Prop}
    (hu : X.A.units + 1 < cLine) (hc : X.calm = true) (hN : X.N.Nodup) (I : Inv X pins σ H s) (hi : PI X tg iter wi) (ok : BlkOk X.N X.env.scope scope own)
    (hg : ∀ (s : Shared) (H : Hp) (C : Addr) (cl : List (Str × Addr)) (fp : List Addr), PG (X.blk s H scope (compEnvC scope cl C X.env) fp) tg g) (ht : ∀ (s : Shared) (H : Hp) (C : Addr) (cl : List (Str × Addr)) (fp : List Addr), PTs (X.blk s H scope (compEnvC scope cl C X.env) fp) ifs tt)
    (hk : ∀ (s : Shared) (H : Hp) (C : Addr) (cl : List (Str × Addr)) (fp : List Addr), PE (X.blk s H scope (compEnvC scope cl C X.env) fp) kx tk)
    (he : ∀ (s : Shared) (H : Hp) (C : Addr) (cl : List (Str × Addr)) (fp : List Addr), PE (X.blk s H scope (compEnvC scope cl C X.env) fp) vx tv) (hs : ∀ x, foldedSetIterable iter X.env x = pure x)
    (h : tDcT wi g tt tk tv (own.map (·.2)) σ H Q)
    (hRR : ∀ D C s' m H', Inv X pins σ H' s' → Q (.ref D) H' → s'.heap.Ns C m → FpOk X pins H' C → compPost (model X.prog X.w) X.A X.xe use Qf (.ref D) C (.ok .next) s') :
    wpAny (model X.prog X.w) X.A (comprehension (.DictComp kx vx [⟨tg, iter, ifs, 0⟩] scope pos) scope X.env pos' newDict false (eval iter X.env) use) Qf X.xe s := by
  have hfree : ∀ y ∈ scope.names, y.2 = .free → ∃ c, X.env.cells.lookup y.1 = some c := fun y hy e => by
    rcases ok.free y hy e with k | k
    · exact I.ok.has _ (.inl k)
    · exact I.ok.has _ (.inr k)
  refine wpAny_comprehension_free (use := use) rfl hs (closure_ok hfree) ok.kind (fun y hy e => by rw [ok.uniq y hy, e])
    (thn (hi.run pins s σ H _ I h) fun xv s1 hx => thn hx fun itv s2 h2 => ?_)
  obtain ⟨it, fp, tn, J, H2, e, I2, T, st2, f2, q⟩ := h2
  subst e
  refine wpAny_newObj_type (newEnv_comp ?_)
  generalize hD : s2.heap.objs.size = D
  have hDn : H2 D = none := I2.hok.fresh (Nat.le_of_eq hD)
  obtain ⟨W, ⟨m0, w0⟩, turn⟩ := q D hDn
  -- the new list
  generalize hs3 : ({ s2 with heap := s2.heap.push { cls := .type "dict", data := .dict #[] } } : Shared) = s3
  have I3 : Inv X pins σ (upd H2 D (.dT [])) s3 := by
    rw [← hs3]
    refine I2.laid (t' := s2.toks) (fun b o e => Heap.get?_push_of_some _ e) (Nat.le_of_eq hD) ?_
    rw [← hD]
    exact dt_empty s2.heap I2.big
  have h3 : s3.heap = s2.heap.push { cls := .type "dict", data := .dict #[] } := by rw [← hs3]
  have sz : ∀ b ∈ fp, b < s2.heap.objs.size := fun b hb => by
    obtain ⟨o, e, _⟩ := T.obj _ _ st2 b hb
    exact Heap.lt_size e
  have f3 : ∀ b ∈ fp, FpOk X pins (upd H2 D (.dT [])) b ∧ b < s3.heap.objs.size := fun b hb => by
    have hlt := sz b hb
    refine ⟨⟨?_, (f2 b hb).2⟩, by rw [h3, Heap.size_push]; exact Nat.lt_succ_of_lt hlt⟩
    rw [upd_ne (by rw [← hD]; exact Nat.ne_of_lt hlt)]
    exact (f2 b hb).1
  have st3 : tn 0 s3.heap := T.keep _ _ _ st2 fun b _ o e => by rw [h3]; exact Heap.get?_push_of_some _ e
  have I4 := block_start I3 ok hN f3
  have pg := hg s3 (upd H2 D (.dT [])) s3.heap.objs.size (cellsFrom (s3.heap.objs.size + 1) scope.names (cloFrom X.env.cells scope.names [])) fp
  have pt := ht s3 (upd H2 D (.dT [])) s3.heap.objs.size (cellsFrom (s3.heap.objs.size + 1) scope.names (cloFrom X.env.cells scope.names [])) fp
  have pk := hk s3 (upd H2 D (.dT [])) s3.heap.objs.size (cellsFrom (s3.heap.objs.size + 1) scope.names (cloFrom X.env.cells scope.names [])) fp
  have pe := he s3 (upd H2 D (.dT [])) s3.heap.objs.size (cellsFrom (s3.heap.objs.size + 1) scope.names (cloFrom X.env.cells scope.names [])) fp
  show codeAny _ _ (.compStart (.DictComp kx vx [⟨tg, iter, ifs, 0⟩] scope pos) 0 (.ref it) (.ref D) (compEnvC scope (cellsFrom (s3.heap.objs.size + 1) scope.names (cloFrom X.env.cells scope.names [])) s3.heap.objs.size X.env)) (compPost (model X.prog X.w) X.A X.xe use Qf (.ref D) s3.heap.objs.size) { s3 with heap := pushCells (s3.heap.push { cls := .type "dict", data := .dict #[] }) scope.names }
  have nfp : ∀ b ∈ fp, (upd H2 D (.dT [])) b = none := fun b hb => (f3 b hb).1.1
  generalize hce : compEnvC scope (cellsFrom (s3.heap.objs.size + 1) scope.names (cloFrom X.env.cells scope.names [])) s3.heap.objs.size X.env = ce at I4 pg pt pk pe ⊢
  have cL : ce.locals = s3.heap.objs.size := by subst hce; rfl
  generalize hH3 : upd H2 D (.dT []) = H3 at I3 I4 pg pt pk pe w0 nfp f3
  generalize hs4 : ({ s3 with heap := pushCells (s3.heap.push { cls := .type "dict", data := .dict #[] }) scope.names } : Shared) = s4 at I4 ⊢
  have st4 : tn 0 s4.heap := T.keep _ _ _ st3 fun b _ o e => by rw [← hs4]; exact pushCells_keeps _ _ _ _ (Heap.get?_push_of_some _ e)
  have stat : ∀ {σ' : L2.St} {H' : Hp} {s' : Shared}, Inv (X.blk s3 H3 scope ce fp) [] σ' H' s' → (∀ b ∈ fp, H' b = none) → ∀ b ∈ fp, FpOk (X.blk s3 H3 scope ce fp) [] H' b := fun {σ' H' s'} I' hn b hb =>
    ⟨hn b hb, (I'.ok.exf b hb).1, I'.ok.exfs b hb, .inl hb, fun x c e => (I'.ok.exf b hb).2 x c e, fun p hp => absurd (show p ∈ ([] : List (Addr × Obj)) ++ [] from hp) (by simp)⟩
  have loop : codeAny (model X.prog X.w) X.A (.compLoop (.DictComp kx vx [⟨tg, iter, ifs, 0⟩] scope pos) 0 (.ref it) (.ref D) ce) (compPost (model X.prog X.w) X.A X.xe use Qf (.ref D) s3.heap.objs.size) s4 := by
    refine compLoop_anyD (fun n s' => ∃ i H', Inv (X.blk s3 H3 scope ce fp) [] (wipe σ (own.map (·.2))) H' s' ∧ tn i s'.heap ∧ (∀ b ∈ fp, H' b = none) ∧ W i n H') ?_ m0 ⟨0, H3, I4, st4, nfp, w0⟩
    rintro n s5 ⟨i, H5, I5, st5, n5, w5⟩
    rcases turn i n H5 w5 with ⟨stop, qq⟩ | ⟨go, Nx, hNx, step⟩
    · have td := T.done (X.blk s3 H3 scope ce fp) rfl rfl rfl hc i [] s5 _ H5 (fun _ _ => False) I5 (stat I5 n5) st5 stop
      refine thnF td fun r s6 ⟨hr, I6⟩ => ?_
      subst hr
      -- back in the def's context
      have I7 : Inv X pins σ H5 s6 := I3.call' (ch := fp) I6.os I6.base I6.hok I6.bare fun b hb => ⟨(f3 b hb).1.2.2.2.1, (f3 b hb).1.2.1, (f3 b hb).1.2.2.2.2.1, (f3 b hb).1.2.2.2.2.2⟩
      have nC : H5 s3.heap.objs.size = none := by
        have z : H5 ce.locals = none := I6.free
        rw [cL] at z
        exact z
      obtain ⟨m, hn, _⟩ := I6.loc
      have hn : s6.heap.Ns ce.locals m := hn
      rw [cL] at hn
      exact hRR D s3.heap.objs.size s6 m H5 I7 qq hn (I3.fpOk (Nat.le_refl _) nC)
    · have ti := T.item (X.blk s3 H3 scope ce fp) rfl rfl rfl hc i [] s5 _ H5 (fun _ _ => False) I5 (stat I5 n5) st5 go
      refine thnF ti fun r s6 ⟨u, hr, h6⟩ => ?_
      subst hr
      refine thnF h6 fun _ s7 ⟨x, H7, I7, r7, y7, st7, n7⟩ => ?_
      have I7' := I7.pinned (stat I7 n7) (T.obj _ _ st7)
      refine thnF (pg.run _ s7 _ H7 x u _ I7' r7 (step x H7 y7)) fun _ s8 ⟨σ8, H8, I8, hw8, q8⟩ => ?_
      refine thnF (pt.run _ s8 σ8 H8 _ I8 q8) fun b s9 ⟨H9, I9, q9⟩ => ?_
      -- the turn's end
      have fin : ∀ {s' : Shared} {H' : Hp}, Inv (X.blk s3 H3 scope ce fp) ([] ++ pinsAt fp s7.heap) σ8 H' s' → Nx H' → ∃ m, m < n ∧ ∃ i H', Inv (X.blk s3 H3 scope ce fp) [] (wipe σ (own.map (·.2))) H' s' ∧ tn i s'.heap ∧ (∀ b ∈ fp, H' b = none) ∧ W i m H' := fun {s' H'} I' nx => by
        obtain ⟨m', hm, w'⟩ := hNx H' nx
        have pin' : ∀ b ∈ fp, ∀ o, s7.heap.get? b = some o → s'.heap.get? b = some o ∧ H' b = none := fun b hb o e =>
          let z := I'.pin (b, o) (List.mem_append_right _ (List.mem_append_right _ (mem_pinsAt hb e)))
          ⟨z.1, z.2.1⟩
        have hl : (wipe σ (own.map (·.2))).length = σ8.length := by rw [← hw8, wipe_length]
        refine ⟨m', hm, i + 1, H', (I'.unpinned (pins := [])).weak hl (fun j v e => ?_), T.keep _ _ _ st7 fun b hb o e => (pin' b hb o e).1, fun b hb => ?_, w'⟩
        · rw [← hw8] at e
          exact (wipe_some e).1
        · obtain ⟨o, e, _⟩ := T.obj _ _ st7 b hb
          exact (pin' b hb o e).2
      cases b with
      | false =>
        simp only [Bool.false_eq_true, if_false] at q9 ⊢
        exact fin I9 q9
      | true =>
        simp only [if_true] at q9 ⊢
        refine thnF (pk.run _ s9 σ8 H9 _ I9 q9) fun z s10 ⟨yk, H10, I10, r10, q10⟩ => ?_
        refine thnF (pe.run _ s10 σ8 H10 _ I10 q10) fun z2 s11 ⟨yv, H11, I11, r11, kvs, k, b9, ek, hb11, hD11, hz11, nx⟩ => ?_
        subst ek
        cases (show z = Value.ref b9 from r10)
        exact d_dictSetT (X := X.blk s3 H3 scope ce fp) hu I11 hD11 hz11 hb11 r11 fun s12 I12 => fin I12 nx
  exact codeAny_compStart_dict loop (T.self X.A 0 _ _ _ st4 loop)
/-- as a value -/
theorem pe_dcT {kx vx tg iter : Expr} {ifs : List Expr} {scope : Scope} {own : List (Str × Nat)} {pos : Pos} {wi : TI} {g : TG} {tt : TT} {tk tv : TE} (hc : X.calm = true) (hN : X.N.Nodup) (hi : PI X tg iter wi) (ok : BlkOk X.N X.env.scope scope own)
    (hg : ∀ (s : Shared) (H : Hp) (C : Addr) (cl : List (Str × Addr)) (fp : List Addr), PG (X.blk s H scope (compEnvC scope cl C X.env) fp) tg g) (ht : ∀ (s : Shared) (H : Hp) (C : Addr) (cl : List (Str × Addr)) (fp : List Addr), PTs (X.blk s H scope (compEnvC scope cl C X.env) fp) ifs tt)
    (hk : ∀ (s : Shared) (H : Hp) (C : Addr) (cl : List (Str × Addr)) (fp : List Addr), PE (X.blk s H scope (compEnvC scope cl C X.env) fp) kx tk)
    (he : ∀ (s : Shared) (H : Hp) (C : Addr) (cl : List (Str × Addr)) (fp : List Addr), PE (X.blk s H scope (compEnvC scope cl C X.env) fp) vx tv) (hu : X.A.units + 1 < cLine) (hs : ∀ x, foldedSetIterable iter X.env x = pure x := by intro _; rfl) :
    PE X (.DictComp kx vx [⟨tg, iter, ifs, 0⟩] scope pos) (tDcT wi g tt tk tv (own.map (·.2))) := by
  refine ⟨fun pins s σ H Q I h => ?_⟩
  rw [arm_eval_DictComp]
  refine dcT_core hu hc hN I hi ok hg ht hk he hs h fun D C s' m H' I' q hn f => ⟨m, hn, fun h'' sb => ?_⟩
  obtain ⟨f0, f1, f2, f3, f4, f5⟩ := f
  exact ⟨.ref D, H', I'.turned (t' := s'.toks) (fun b o hb e => (sb.2 b hb).trans e) f0 f1 f3 f4 f5, rfl, q⟩
end
/-! dict(xs), xs a list of pairs (tuple, value) -/
def mergeT (kvs : List (List Key × V)) (more : List (List Key × V)) : List (List Key × V) := more.foldl (fun acc kv => putK acc kv.1 kv.2) kvs
theorem KT.merge {H : Hp} : ∀ {more : List (List Key × V)} {rs xs : List (List Key × Addr × Value)} {kvs : List (List Key × V)}, KT H more rs → KT H kvs xs → KT H (mergeT kvs more) (storedAllH xs rs)
  | _, _, _, _, .nil, h => h
  | _, _, xs, kvs, .cons (a := p) (b := q) h t, g => by
    obtain ⟨h1, h2, h3⟩ := h
    have z := KT.merge (kvs := putK kvs p.1 p.2) (xs := storedH xs q.1 q.2.1 q.2.2) t (by rw [← h1]; exact g.put p.1 h2 h3)
    exact z
theorem length_mergeT : ∀ (more kvs : List (List Key × V)), (mergeT kvs more).length ≤ kvs.length + more.length
  | [], kvs => Nat.le_refl _
  | p :: r, kvs => by
    have h1 := length_mergeT r (putK kvs p.1 p.2)
    have h2 := length_putK kvs p.1 p.2
    rw [List.length_cons]
    show (mergeT (putK kvs p.1 p.2) r).length ≤ _
    omega
def rDictPT (K : PySem.W.Frag) : List V → Hp → VK → Prop := fun xs H Q => ∃ (a : Addr) (ps : List Addr) (kvs : List (List Key × V)), xs = [.ref a] ∧ SqL K H a (ps.map V.ref) ∧ Paired (fun p kv => ∃ b, H b = some (.tup (kv.1.map kV)) ∧ H p = some (.tup [.ref b, kv.2])) ps kvs ∧
    ∀ p, H p = none → Q (.ref p) (upd H p (.dT (mergeT [] kvs)))
section
variable {X : Cx}
theorem pairsT_of {pins : List (Addr × Obj)} {σ : L2.St} {H : Hp} {s : Shared} (I : Inv X pins σ H s) : ∀ {ps : List Addr} {kvs : List (List Key × V)}, Paired (fun p kv => ∃ b, H b = some (.tup (kv.1.map kV)) ∧ H p = some (.tup [.ref b, kv.2])) ps kvs →
    ∃ prs : List (List Key × Addr × Value), KT H kvs prs ∧ prs.length = ps.length ∧ ∀ (j : Nat) (q : List Key × Addr × Value), prs[j]? = some q → ∃ b : Addr, ps[j]? = some b ∧ PairAt s.heap b (.ref q.2.1) q.2.2
  | _, _, .nil => ⟨[], .nil, rfl, fun j q e => by simp at e⟩
  | _, _, .cons (a := p) (b := kv) h t => by
    obtain ⟨prs, r, hl, hp⟩ := pairsT_of I t
    obtain ⟨b, hb, hp1⟩ := h
    obtain ⟨_, its, rv, o, hg, hc, n, hd⟩ := I.hok p _ hp1
    obtain ⟨u, y, ei, ru, ry⟩ := vals2 rv
    subst ei
    cases (show u = Value.ref b from ru)
    refine ⟨(kv.1, b, y) :: prs, .cons ⟨rfl, hb, ry⟩ r, by rw [List.length_cons, List.length_cons, hl], fun j q e => ?_⟩
    cases j with
    | zero =>
      have e' : (kv.1, b, y) = q := Option.some.inj e
      subst e'
      exact ⟨p, rfl, .inl ⟨o, hg, hc, n, hd⟩⟩
    | succ j =>
      obtain ⟨b, e1, e2⟩ := hp j q (by simpa using e)
      exact ⟨b, by simpa using e1, e2⟩
theorem call_dictPT (hcalm : X.calm = true) (hu : X.A.units + 8 < cLine) : CallR X (.type "dict") (rDictPT X.K) := by
  intro pins s σ H xs us Q I r q
  obtain ⟨a, ps, kvs, ex, hq, hp, q⟩ := q
  subst ex
  obtain ⟨u, eu, rx⟩ := vals1 r
  subst eu
  cases rx
  obtain ⟨its, rv, pl, hz⟩ := I.list hq
  have ei := refs_at rv
  subst ei
  rw [List.length_map] at hz
  obtain ⟨prs, rel, hl, hpr⟩ := pairsT_of I hp
  obtain ⟨o, n, ho, hc, hd, hdat⟩ := pl
  have it : PairItems s.heap (ps.map Value.ref).toArray (fun j => ps.getD j 0) (prs.map fun q => (Value.ref q.2.1, q.2.2)) := by
    refine ⟨by simp [hl], fun j k v e => ?_⟩
    rw [List.getElem?_map] at e
    obtain ⟨q, eq, e⟩ := Option.map_eq_some_iff.mp e
    cases e
    obtain ⟨b, e1, e2⟩ := hpr j q eq
    have ej : ps.getD j 0 = b := by rw [List.getD_eq_getElem?_getD, e1]; rfl
    exact ⟨by simp [e1], (by show PairAt s.heap (ps.getD j 0) _ _; rw [ej]; exact e2)⟩
  refine call_dict_pairsH (knd := tupleKind (mixKind X.prog X.w)) (ps := prs) (PairArg.list a (ps.map Value.ref).toArray (fun j => ps.getD j 0) (prs.map fun q => (Value.ref q.2.1, q.2.2))) (I.ok.hd hcalm) ?_ ⟨⟨o, n, ho, hc, hd, hdat⟩, it⟩ ⟨by simp, fun i key v e => ?_⟩ (fun h' hk x hx => ?_) (by rw [List.length_map, hl]; exact hz) fun h' tk hd' k => ?_
  · exact Nat.lt_of_le_of_lt (by show X.A.units + 1 + 1 ≤ X.A.units + 8; omega) hu
  · have e : (prs.map fun q => (Value.ref q.2.1, q.2.2))[i]? = some (key, v) := e
    rw [List.getElem?_map] at e
    obtain ⟨q, eq, e⟩ := Option.map_eq_some_iff.mp e
    cases e
    exact ⟨q.1, q.2.1, eq, rfl⟩
  · have all : ∀ {l : List (List Key × V)} {m : List (List Key × Addr × Value)}, KT H l m → ∀ x ∈ m, H x.2.1 = some (.tup (x.1.map kV)) := by
      intro l m t
      induction t with
      | nil => intro x hx; exact nomatch hx
      | @cons p q ps qs hq t ih =>
        intro x hx
        rcases List.mem_cons.mp hx with e | hx
        · subst e
          rw [← hq.1]; exact hq.2.1
        · exact ih x hx
    obtain ⟨oo, items, nn, h1, h2, h3, h4⟩ := key_of I.hok (all rel x hx)
    exact ⟨oo, items, nn, hk _ _ (Nat.ne_of_lt (Heap.lt_size h1)) (fun z => nomatch z) h1, h2, h3, h4⟩
  · have hm : (s.heap.objs.size == sysModules) = false := beq_eq_false_iff_ne.mpr (Nat.ne_of_gt I.big)
    have hlen : (mergeT [] kvs).length ≤ sizeLine := by
      refine Nat.le_trans (length_mergeT kvs []) ?_
      rw [List.length_nil, Nat.zero_add, Paired.length rel, hl]
      exact hz
    have kk : ∀ b o, s.heap.get? b = some o → h'.get? b = some o := fun b o e => k b o (fun z => nomatch z) e
    obtain ⟨q9, es, ep, hq9, h2, h3, h4, _, h5⟩ := hd'
    have fr := I.hok.fresh (Nat.le_refl s.heap.objs.size)
    exact ⟨.ref s.heap.objs.size, upd H s.heap.objs.size (.dT (mergeT [] kvs)), I.laid (t' := tk) kk (Nat.le_refl _) (show ObjOk X.prog X.w _ _ _ (.dT (mergeT [] kvs)) from ⟨hlen, hm, storedAllH [] prs, (KT.merge rel .nil).keeps fun b ys e => (by
      rw [upd_ne (ne_of_none e fr)]
      exact e), q9, es, ep, hq9, h2, h3, h4, h5⟩), rfl, q _ fr⟩
end
end Rd

set_option Elab.async false
set_option linter.all false
set_option maxRecDepth 100000
set_option maxHeartbeats 4000000
namespace Gx
open PySem PySem.Spec PyProof.Rows L2 GenW
theorem sum_zipL {K : PySem.W.Frag} {a b : Addr} {xs ys : List V} {g : TG} {tt : TT} {te : TE} {vs : List Nat} {σ : L2.St} {Q : Int → Hp → Prop} {H2 : Hp} (hl : xs.length = ys.length) (Pv : Nat → Int → Hp → Prop) (h0 : Pv 0 0 H2) (hq : ∀ i z H, Pv i z H → SqL K H a xs ∧ SqL K H b ys)
    (hs : ∀ i x y T z H, xs[i]? = some x → ys[i]? = some y → Pv i z H → H T = none → g (.ref T) (wipe σ vs) (upd H T (.tup [x, y])) fun σ2 H2 => wipe σ2 vs = wipe σ vs ∧ tt σ2 H2 fun b H3 => if b = true then te σ2 H3 fun v H4 => ∃ u, v = .int u ∧ Pv (i + 1) (z + u) H4 else Pv (i + 1) z H3) (hd : ∀ z H, Pv xs.length z H → Q z H) :
    ∃ W : Nat → Nat → Int → Hp → Prop, (∃ m, W 0 m 0 H2) ∧ TurnsZ (Itz K a b) g tt te vs σ Q W := by
  refine ⟨fun i m z H => m = xs.length - i ∧ i ≤ xs.length ∧ Pv i z H, ⟨xs.length, by simp, Nat.zero_le _, h0⟩, ?_⟩
  rintro i m z H ⟨rfl, hi, p⟩
  obtain ⟨qx, qy⟩ := hq i z H p
  by_cases hlt : i < xs.length
  · have hx : xs[i]? = some xs[i] := List.getElem?_eq_getElem hlt
    have hlt2 : i < ys.length := by omega
    have hy2 : ys[i]? = some ys[i] := List.getElem?_eq_getElem hlt2
    refine .inr ⟨⟨xs, ys, _, _, qx, qy, hx, hy2⟩, Pv (i + 1), fun z' H' p' => ⟨xs.length - (i + 1), by omega, rfl, hlt, p'⟩, fun v H' y => ?_⟩
    obtain ⟨T, x', y', rfl, hT, rfl, f1, f2⟩ := y
    exact hs i x' y' T z H (f1 xs qx) (f2 ys qy) p hT
  · have e : i = xs.length := by omega
    subst e
    exact .inl ⟨⟨xs, ys, qx, qy, Or.inl (Nat.le_refl _)⟩, hd z H p⟩
end Gx
namespace Rd
open PySem PySem.Spec PyProof.Rows L2 Dt
/-- a dict by tuples, over enumerate of a list -/
theorem dcT_enumL {K : PySem.W.Frag} {a : Addr} {xs : List V} {g : TG} {tt : TT} {tk tv : TE} {vs : List Nat} {σ : L2.St} {H1 : Hp} {D : Addr} {Qd : Hp → Prop} (Pv : Nat → Hp → Prop) (h0 : Pv 0 (upd H1 D (.dT []))) (hl : ∀ i H, i ≤ xs.length → Pv i H → SqL K H a xs)
    (hs : ∀ i x T H, xs[i]? = some x → Pv i H → H T = none → g (.ref T) (wipe σ vs) (upd H T (.tup [.int (i : Nat), x])) fun σ2 H2 => wipe σ2 vs = wipe σ vs ∧ tt σ2 H2 fun b H3 =>
      if b = true then tk σ2 H3 fun y H4 => tv σ2 H4 fun z H5 => ∃ kvs k b, y = .ref b ∧ H5 b = some (.tup (k.map kV)) ∧ H5 D = some (.dT kvs) ∧ kvs.length < sizeLine ∧ Pv (i + 1) (upd H5 D (.dT (putK kvs k z))) else Pv (i + 1) H3) (hd : ∀ H, Pv xs.length H → Qd H) :
    ∃ W : Nat → Nat → Hp → Prop, (∃ m, W 0 m (upd H1 D (.dT []))) ∧ ∀ i m H, W i m H →
      ((Ite K a).stop i H ∧ Qd H) ∨ ((Ite K a).go i H ∧ ∃ Nx : Hp → Prop, (∀ H', Nx H' → ∃ m', m' < m ∧ W (i + 1) m' H') ∧ ∀ x H', (Ite K a).yld i H x H' → g x (wipe σ vs) H' fun σ2 H2 => wipe σ2 vs = wipe σ vs ∧ tt σ2 H2 fun b H3 =>
        if b = true then tk σ2 H3 fun y H4 => tv σ2 H4 fun z H5 => ∃ kvs k b, y = .ref b ∧ H5 b = some (.tup (k.map kV)) ∧ H5 D = some (.dT kvs) ∧ kvs.length < sizeLine ∧ Nx (upd H5 D (.dT (putK kvs k z))) else Nx H3) := by
  refine ⟨fun i m H => m = xs.length - i ∧ i ≤ xs.length ∧ Pv i H, ⟨xs.length, by simp, Nat.zero_le _, h0⟩, ?_⟩
  rintro i m H ⟨rfl, hi, p⟩
  have q := hl i H hi p
  by_cases hlt : i < xs.length
  · refine .inr ⟨⟨xs, xs[i], q, by simp [hlt]⟩, Pv (i + 1), fun H' p' => ⟨xs.length - (i + 1), by omega, rfl, hlt, p'⟩, fun x H' y => ?_⟩
    obtain ⟨T, z, rfl, hT, rfl, f⟩ := y
    exact hs i z T H (f xs q) p hT
  · have e : i = xs.length := by omega
    subst e
    exact .inl ⟨⟨xs, q, Nat.le_refl _⟩, hd H p⟩
end Rd

set_option Elab.async false
set_option linter.all false
set_option maxRecDepth 100000
set_option maxHeartbeats 4000000
/-! x not in a list of data -/
namespace Rd
open PySem PySem.Spec PyProof.Rows L2 Dt
def rNotInL (K : PySem.W.Frag) : R2 := fun x y H Q => ∃ d ds, Dp K H x d ∧ Dp K H y (.list ds) ∧ SeqAt.shaped d = true ∧ SeqAt.shaped (.list ds) = true ∧ Q (.bl (!ds.any fun z => PyData.eqv z d)) H
theorem op_notInL {X : Cx} (hu : X.A.units + 65 < cLine) : OpR X (compareOp .NotIn) (rNotInL X.K) := by
  intro pins s σ H x y v u Q I rx ry h
  obtain ⟨d, ds, hd, he, sd, se, q⟩ := h
  obtain ⟨as, r1⟩ := Dp.reads I d x v hd rx
  obtain ⟨bs, r2⟩ := Dp.reads I (.list ds) y u he ry
  exact SeqAt.notIn_list_reads r2 r1 (SeqAt.canLay_of_shaped se) (SeqAt.canLay_of_shaped sd) (room_in_shaped sd hu) ⟨.bl _, H, I, rfl, q⟩
theorem shaped_ints (l : List Int) : SeqAt.shaped (.list (l.map .int)) = true := by
  have a : PyData.canLayAll0 (l.map .int) = true := by
    induction l with
    | nil => rfl
    | cons x r ih => rw [List.map_cons]; unfold PyData.canLayAll0; rw [ih]; rfl
  have b : PyData.depthAll (l.map .int) ≤ 1 := by
    clear a
    induction l with
    | nil => decide
    | cons x r ih =>
      rw [List.map_cons]
      unfold PyData.depthAll
      have : (PyData.int x).depth ≤ 1 := by simp [PyData.depth]
      omega
  show (PyData.canLay0 _ && decide (PyData.depth _ ≤ 64)) = true
  simp only [PyData.canLay0, PyData.depth, a, Bool.true_and]
  exact decide_eq_true (by omega)
theorem shaped_listsI (ls : List (List Int)) : SeqAt.shaped (listsD ls) = true := by
  unfold listsD
  have each : ∀ l : List Int, (PyData.list (l.map .int)).canLay0 = true ∧ (PyData.list (l.map .int)).depth ≤ 64 := fun l => by
    have := shaped_ints l
    have this : ((PyData.list (l.map .int)).canLay0 && decide ((PyData.list (l.map .int)).depth ≤ 64)) = true := this
    rw [Bool.and_eq_true] at this
    exact ⟨this.1, of_decide_eq_true this.2⟩
  have dep : ∀ l : List Int, (PyData.list (l.map .int)).depth ≤ 2 := fun l => by
    have b : PyData.depthAll (l.map .int) ≤ 1 := by
      induction l with
      | nil => decide
      | cons x r ih =>
        rw [List.map_cons]
        unfold PyData.depthAll
        have : (PyData.int x).depth ≤ 1 := by simp [PyData.depth]
        omega
    simp only [PyData.depth]
    omega
  have a : PyData.canLayAll0 (ls.map fun l => .list (l.map .int)) = true ∧ PyData.depthAll (ls.map fun l => .list (l.map .int)) ≤ 2 := by
    induction ls with
    | nil => exact ⟨rfl, by decide⟩
    | cons x r ih =>
      rw [List.map_cons]
      unfold PyData.canLayAll0 PyData.depthAll
      have := dep x
      exact ⟨by rw [ih.1, (each x).1]; rfl, by have := ih.2; omega⟩
  show (PyData.canLay0 _ && decide (PyData.depth _ ≤ 64)) = true
  simp only [PyData.canLay0, PyData.depth, a.1, Bool.true_and]
  exact decide_eq_true (by have := a.2; omega)
theorem eqv_nil (l : List Int) : PyData.eqv (.list (l.map .int)) (.list []) = decide (l = []) := by
  cases l with
  | nil => exact (SeqAt.eqv_refl (.list []) (by rfl)).trans (decide_eq_true rfl).symm
  | cons x r => rw [decide_eq_false (fun z => nomatch z)]; rfl
theorem any_nil (ls : List (List Int)) : ((ls.map fun l => PyData.list (l.map .int)).any fun z => PyData.eqv z (.list [])) = ls.any fun l => decide (l = []) := by
  rw [List.any_map]
  congr 1
  funext l
  exact eqv_nil l
end Rd

set_option Elab.async false
set_option linter.all false
set_option maxRecDepth 100000
set_option maxHeartbeats 4000000
/-! an exception that is caught and kept: try / except x as n, the exception's object tracked from then on -/
namespace Rd
open PySem PySem.Spec PyProof.Rows L2 Dt
/-- the object of an exception, of which the class and the dict are known -/
def ExD (cls : Value) (d : Option Addr) (a : Addr) : HO := .ext fun h => ∃ (oe : Obj) (vs : Array Value), h.get? a = some oe ∧ Zc cls d oe ∧ oe.data = .fields vs
theorem exD_ok {P : Program} {w : World} {H : Hp} {h : Heap} {a : Addr} {cls : Value} {d : Option Addr} {oe : Obj} {vs : Array Value} (e : h.get? a = some oe) (z : Zc cls d oe) (y : oe.data = .fields vs) : ObjOk P w H h a (ExD cls d a) :=
  ⟨⟨oe, vs, e, z, y⟩, ⟨oe, e⟩, fun h1 h2 ⟨o', vs', e', z', y'⟩ k => ⟨o', vs', k _ e', z', y'⟩⟩
section
variable {X : Cx} {pins : List (Addr × Obj)} {σ : L2.St} {H : Hp} {s : Shared}
theorem track_ok (I : Inv X pins σ H s) {a : Addr} {o : HO} (na : H a = none) (n0 : X.s_0.heap.get? a = none) (nL : a ≠ X.env.locals) (nC : ∀ x c, X.env.cells.lookup x = some c → c ≠ a) (nP : ∀ p ∈ X.pn ++ pins, p.1 ≠ a) (new : ObjOk X.prog X.w (upd H a o) s.heap a o) : Inv X pins σ (upd H a o) s :=
  ⟨I.ok, I.os, I.bare, ⟨I.base.keep, I.base.slot, fun b u e n hx => by
      rw [upd_ne (fun z => by rw [z, n0] at e; cases e)]
      exact I.base.free b u e n hx, I.base.there, fun b xs e => by
      have q := I.base.tups b xs e
      rw [upd_ne (ne_of_none q na)]
      exact q, fun b u xs e => by
      have q := I.base.frzs b u xs e
      rw [upd_ne (ne_of_none q na)]
      exact q, fun b ps e => by
      obtain ⟨more, q⟩ := I.base.tbls b ps e
      exact ⟨more, by rw [upd_ne (ne_of_none q na)]; exact q⟩⟩, I.loc, I.cell, by
    rw [upd_ne (Ne.symm nL)]
    exact I.free, fun x c e => by
    rw [upd_ne (nC x c e)]
    exact I.freeC x c e, fun p hp => by
    obtain ⟨p1, p2, p3⟩ := I.pin p hp
    exact ⟨p1, by rw [upd_ne (nP p hp)]; exact p2, p3⟩, I.hok.laidN (fun _ _ e => e) na new, I.len⟩
end
/-- the clause 'except x as n', the exception tracked in its suite and behind it -/
def wKeep (K : PySem.W.Frag) (c : Value) (i : Nat) (ts : Addr → TS) (Wout : WX) (D : Ends) : WX := fun cls d σ H =>
  ∃ b, PySem.W.exmOne K cls c = some b ∧ (b = true → ∀ a, H a = none → ts a { nx := fun σ' H' => D.nx (σ'.set i none) H', rt := D.rt, bk := fun σ' H' => D.bk (σ'.set i none) H', ct := fun σ' H' => D.ct (σ'.set i none) H' } (σ.set i (some (.ref a))) (upd H a (ExD cls d a))) ∧ (b = false → Wout cls d σ H)
section
variable {X : Cx} {x n : Str} {c : Value} {i : Nat} {body suite : List Stmt} {b₀ : Stmt} {np pos pos' : Pos} {tb : WX → TS} {ts : Addr → TS} {Wout : WX}
theorem ps_try_keep (hex : X.ex = []) (hs : X.stack = X.env :: X.outer) (hf : X.env.frame = some X.env.locals) (hN : X.N.Nodup) (hi : X.N[i]? = some n) (hln : X.env.kindOf n = some .local) (hc : Names X x c) (tk : Takes X Wout)
    (hb : ∀ (W : WX) (pn : List (Addr × Obj)) (xe : Value → Shared → Prop), Takes (X.tr pn xe) W → PassesOwn (model X.prog X.w) X.A X.env xe → PSs (X.tr pn xe) body (tb W)) (hsu : ∀ (a : Addr) (pn : List (Addr × Obj)), PSs (X.suite a pn) (b₀ :: suite) (ts a)) :
    PS X (.Try body [.ExceptHandler (some (.Name x np)) (some n) (b₀ :: suite) pos'] [] [] pos) (fun D σ H => tb (wKeep X.K c i ts Wout D) D σ H) := ⟨fun pins s σ H D I h => by
  have ok := I.ok; have hfr : X.A.frames = some (X.env :: X.outer) := (by rw [ok.frames, hs])
  have hloc : Loc X.env.scope n := .inl hln; refine wpAny_Try_except ?_
  refine wpAny_mono ((hb (wKeep X.K c i ts Wout D) (X.pn ++ pins) (fun e s₁ => wpAny (model X.prog X.w) X.A (noteFrame e X.env) (fun _ s₂ => wpAny (model X.prog X.w) X.A (setFlight e none) (fun _ s₃ => wpAny (model X.prog X.w) X.A (handleBy e X.env [.ExceptHandler (some (.Name x np)) (some n) (b₀ :: suite) pos']) (SP X pins D) X.xe s₃) X.xe s₂) X.xe s₁) (fun u s' xx => ?_) PassesOwn.looking).run [] s σ H D (I.toTry _) h) (fun f s1 hsp => ?_) (fun e s1 he => he)
  · obtain ⟨a, B, sI, pins', σ', H', cls, d, rfl, J', nb, up, sky, na, os, ag, b, hb1, hyes, hno⟩ := xx; have J : Inv X pins σ' H' sI := J'.ofTry ok
    have sky' : Sky B (X.env :: X.outer) a (Zc cls d) X.env.locals s'.heap := (by rw [← hs]; exact sky)
    show wpAny (model X.prog X.w) X.A (noteFrame (.ref a) X.env) _ _ _; refine Sky.land Zc.steady hfr hf sky' fun h3 fl3 up3 => ?_
    have J3 : Inv X pins σ' H' { s' with heap := h3 } := J.landed nb fl3.1 (up.trans up3) os ag; obtain ⟨oe3, vs3, he3, hz3, hd3⟩ := fl3.there
    have nfr : a ∉ frs (X.env :: X.outer) := fun hm => by
      obtain ⟨_, o', e', hnf⟩ := fl3.2.2.1.mem hm; rw [he3] at e'; cases e'; exact hnf _ hd3
    have nL : a ≠ X.env.locals := fun z => nfr (List.mem_filterMap.mpr ⟨X.env, List.mem_cons_self, by rw [hf, z]⟩); have nF : a ∉ X.fs := fun hm => (by
      obtain ⟨e, he, q⟩ := List.mem_filterMap.mp hm
      exact nfr (List.mem_filterMap.mpr ⟨e, List.mem_cons_of_mem _ he, q⟩))
    have nI : sI.heap.get? a = none := by
      cases q : sI.heap.get? a with
      | none => rfl
      | some o =>
        have z := nb a o q (by rw [hs]; exact nfr)
        rw [fl3.2.1] at z
        cases z
    have n0 : X.s_0.heap.get? a = none := by
      cases q : X.s_0.heap.get? a with
      | none => rfl
      | some o =>
        obtain ⟨o', z⟩ := J.base.there a o q (by rw [hex]; exact List.not_mem_nil)
        rw [nI] at z
        cases z
    have nC : ∀ y z, X.env.cells.lookup y = some z → z ≠ a := fun y z e q => by
      obtain ⟨v, o, eo, _⟩ := J.cell y z e
      rw [q, nI] at eo
      cases eo
    have nP : ∀ p ∈ X.pn ++ pins, p.1 ≠ a := fun p hp q => by
      have e := (J.pin p hp).1
      rw [q, nI] at e
      cases e
    have S3 := J3.suite he3 hd3 na nL nF; refine wpAny_handleBy_cons (codeAny_handlers_test ?_) (by intro q; cases q)
    have LT : PySem.W.Looks (model X.prog X.w) h3 (typeOf (.ref a)) cls := fun A Q E s k q => wpAny_typeOf_ref (k _ _ he3) (by rw [hz3.1]; exact q); have LM := PySem.W.exm_one (M := model X.prog X.w) (J3.kIn) LT hb1
    have test : ∀ {Q : Value → Shared → Prop} {E : Value → Shared → Prop}, Q c { s' with heap := h3 } → wpAny (model X.prog X.w) (X.A.mark (some (.ref a))) (eval (.Name x np) X.env) Q E { s' with heap := h3 } := fun {Q E} q => (by
      obtain ⟨hg, hdbg, hm | ⟨hm, hv, hnn⟩⟩ := hc
      · exact ld_glob (X := X.suite a ((a, oe3) :: (X.pn ++ pins))) S3 hg hm q hdbg
      · exact ld_blt (X := X.suite a ((a, oe3) :: (X.pn ++ pins))) S3 hg hm hv q hnn hdbg)
    refine test (LM.here ?_); cases b with
    | true =>
      refine codeAny_handlers_suite_as (HandSPX.lands_againZ fl3 fun h4 fl4 up4 => ?_)
      have J4 : Inv X pins σ' H' { s' with heap := h4 } := J.landed nb fl4.1 ((up.trans up3).trans up4) os ag; obtain ⟨oe4, vs4, he4, hz4, hd4⟩ := fl4.there
      have T4 : Inv X pins σ' (upd H' a (ExD cls d a)) { s' with heap := h4 } := track_ok J4 na n0 nL nC nP (exD_ok he4 hz4 hd4)
      have S4 : Inv (X.suite a (X.pn ++ pins)) [] σ' (upd H' a (ExD cls d a)) { s' with heap := h4 } := ⟨ok.suite _ _, T4.os, T4.bare, T4.base, T4.loc, T4.cell, T4.free, T4.freeC, fun p hp => T4.pin p (by rw [List.append_nil] at hp; exact hp), T4.hok, T4.len⟩
      refine store_ok (X := X.suite a (X.pn ++ pins)) (v := .ref a) S4 hN hi hloc rfl (fun s5 S5 => ?_) (.inr hln)
      refine wpAny_mono ((hsu a (X.pn ++ pins)).run [] s5 _ _ _ S5 (hyes rfl a na)) (fun f s6 hsp => ?_) (fun _ _ z => False.elim z)
      have back : ∀ {σ6 : L2.St} {H6 : Hp} {Q : Shared → Prop}, Inv (X.suite a (X.pn ++ pins)) [] σ6 H6 s6 → (∀ s7, Inv X pins (σ6.set i none) H6 s7 → Q s7) → wpAny (model X.prog X.w) X.A (do bindName X.env n .none; unbindBehindTheSuite X.env n pos') (fun _ s7 => Q s7) X.xe s6 := fun {σ6 H6 Q} S6 hq =>
        gone_ok (X := X) (pins := pins) ⟨ok, S6.os, S6.bare, S6.base, S6.loc, S6.cell, S6.free, S6.freeC, fun p hp => S6.pin p (List.mem_append_left _ hp), S6.hok, S6.len⟩ hN hi hln hq
      cases f with
      | ret u => obtain ⟨v6, σ6, H6, S6, r6, q6⟩ := hsp; exact back S6 fun s7 J7 => ⟨_, _, _, J7, r6, q6⟩
      | next => obtain ⟨σ6, H6, S6, q6⟩ := hsp; exact back S6 fun s7 J7 => ⟨_, _, J7, q6⟩
      | brk => obtain ⟨σ6, H6, S6, q6⟩ := hsp; exact back S6 fun s7 J7 => ⟨_, _, J7, q6⟩
      | cont => obtain ⟨σ6, H6, S6, q6⟩ := hsp; exact back S6 fun s7 J7 => ⟨_, _, J7, q6⟩
    | false =>
      show wpAny _ X.A (handleBy (.ref a) X.env []) _ _ _; refine wpAny_handleBy_nil ?_; obtain ⟨k1, k2, k3, oe, vs, T, oT, ts', he, hz, hd, h1, hr⟩ := id fl3
      unfold PySem.passOn; refine wpAny_bind (wpAny_field he hd h1 ?_); rw [if_neg (show ¬ ((Value.ref T == Value.none) = true) from by simp)]
      have fin : wpAny (model X.prog X.w) X.A (setFlight (.ref a) X.env.frame) (fun _ s4 => wpAny (model X.prog X.w) X.A (throw (.ref a) : Sem Flow) (SP X pins D) X.xe s4) X.xe { s' with heap := h3 } := (by
        rw [hf]; refine HandSPX.setFlight_upZ fl3 fun h4 hh4 up4 => wpAny_throw (tk _ _ ?_)
        exact ⟨a, B, sI, pins, σ', H', cls, d, rfl, J, nb, (up.trans up3).trans up4, .inr (.inr (by rw [hs]; exact hh4)), na, os, ag, hno rfl⟩)
      first | exact wpAny_bind (wpAny_pure (wpAny_bind fin)) | exact wpAny_bind fin
  · cases f with
    | ret u => obtain ⟨v, σ', H', J', r, q⟩ := hsp; exact ⟨v, σ', H', J'.ofTry ok, r, q⟩
    | next => obtain ⟨σ', H', J', q⟩ := hsp; exact wpAny_execs_nil ⟨σ', H', J'.ofTry ok, q⟩
    | brk => obtain ⟨σ', H', J', q⟩ := hsp; exact ⟨σ', H', J'.ofTry ok, q⟩
    | cont => obtain ⟨σ', H', J', q⟩ := hsp; exact ⟨σ', H', J'.ofTry ok, q⟩⟩
end
end Rd

set_option Elab.async false
set_option linter.all false
set_option maxRecDepth 100000
set_option maxHeartbeats 4000000
/-! the refusals' classes; isinstance of one that was caught; calls that may let one out -/
namespace Rd
open PySem PySem.Spec PyProof.Rows L2 Dt
theorem pe_gref {X : Cx} {x : Str} {a : Addr} {pos : Pos} (hg : Gl X x) (hm : X.mg x = some (.ref a)) (hd : (x == ("__debug__" : Str)) = false := by decide) : PE X (.Name x pos) (tC (.ref a)) := pe_glob hg hm rfl hd
def rIsD (K : PySem.W.Frag) : List V → Hp → VK → Prop := fun xs H Q => ∃ (a D : Addr) (c : V) (cv : Value) (b : Bool), xs = [.ref a, c] ∧ H a = some (ExD (.ref D) none a) ∧ ExcC K D ∧ ClsV c cv ∧ PySem.W.kitOne K (.ref D) cv = some b ∧ Q (.bl b) H
theorem call_isD {X : Cx} : CallR X (.builtin "isinstance") (rIsD X.K) := by
  intro pins s σ H xs us Q I r h
  obtain ⟨a, D, c, cv, b, rfl, ha, C, k, e, q⟩ := h
  obtain ⟨u1, u2, rfl, r1, r2⟩ := vals2 r
  have e2 := k.eq r2
  subst e2
  cases (show u1 = Value.ref a from r1)
  obtain ⟨⟨oe, vs, hget, hz, hd⟩, _, _⟩ := I.hok a _ ha
  have J : PySem.W.InstAt s.heap a oe D none := by
    obtain ⟨oc, od, oda, osl⟩ := oe
    obtain ⟨h1, h2⟩ := hz
    dsimp only at h1 h2 hd
    subst h1 h2 hd
    exact ⟨hget, rfl, rfl, trivial⟩
  exact PySem.W.kia_one (PySem.W.handS_kitx_exc C.hg C.hk C.hs C.hd C.ha C.hn C.ht C.hm) I.kIn J e (fun z => nomatch z) fun tk => ⟨.bl b, H, I.tok tk, rfl, q⟩
/-- the classes: the eleven refusals as _law_kinds names them, then the one above -/
structure ClsX (K : PySem.W.Frag) (mg : Str → Option Value) (C : Nat → Addr) : Prop where
  g_NoEnd : mg "NoEnd" = some (.ref (C 0))
  g_NoLog : mg "NoLog" = some (.ref (C 1))
  g_NoName : mg "NoName" = some (.ref (C 2))
  g_NoRow : mg "NoRow" = some (.ref (C 3))
  g_NoStep : mg "NoStep" = some (.ref (C 4))
  g_NoTable : mg "NoTable" = some (.ref (C 5))
  g_NoText : mg "NoText" = some (.ref (C 6))
  g_NoWish : mg "NoWish" = some (.ref (C 7))
  g_Spent : mg "Spent" = some (.ref (C 8))
  g_Told : mg "Told" = some (.ref (C 9))
  g_TooMany : mg "TooMany" = some (.ref (C 10))
  g_DrawError : mg "DrawError" = some (.ref (C 11))
  m_isinstance : mg "isinstance" = none
  m_ValueError : mg "ValueError" = none
  x : ∀ i, i < 12 → PySem.W.excIn K (C i) [.type "ValueError", .type "Exception", .type "BaseException", .type "object"] "ValueError.__new__" = true
  k : ∀ i, i < 12 → PySem.W.keepIn K (.ref (C i)) = true
  e : ∀ i, i < 12 → ExcC K (C i)
  kit : ∀ i, i < 12 → ∀ j, j < 11 → PySem.W.kitOne K (.ref (C i)) (.ref (C j)) = some (decide (i = j))
  kitV : ∀ i, i < 12 → PySem.W.kitOne K (.ref (C i)) (.type "ValueError") = some true
  ty : ∀ i, i < 12 → PySem.W.typeIn K (.ref (C i)) = some (.type "type")
  exm : ∀ i, i < 12 → PySem.W.exmOne K (.ref (C i)) (.ref (C 11)) = some true
theorem ClsX.raises {K : PySem.W.Frag} {mg : Str → Option Value} {C : Nat → Addr} (T : ClsX K mg C) {X : Cx} (hK : X.K = K) {i : Nat} (hi : i < 12) : Raises X (.ref (C i)) := raises_own (by rw [hK]; exact (T.e i hi).hs) (by rw [hK]; exact T.ty i hi)
/-- a def that may raise -/
def CalX (P : Program) (w : World) (K : PySem.W.Frag) (mg : Str → Option Value) (base : Heap) (k : Nat) (x : Str) (ps : List Str) (sp : Sp) : Prop :=
  ∃ (f : Addr) (fd : FuncData), FnOk P w K mg base (L2.CX P w) k f fd ps sp ∧ mg x = some (.ref f) ∧ PySem.W.keepIn K (.ref f) = true ∧ Binds K fd ps []
theorem pe_calX {X : Cx} {W : WX} {k : Nat} {x : Str} {ps : List Str} {sp : Sp} {p pos : Pos} {e : Expr} {es : List Expr} {t : TA} (C : CalX X.prog X.w X.K X.mg X.base k x ps sp) (hr : Room k X.A) (tk : Takes X W) (hg : Gl X x)
    (ha : PA X (e :: es) t) (hdb : (x == ("__debug__" : Str)) = false := by decide) (he : starEach (e :: es) X.env = (false, eval e X.env) :: starEach es X.env := by rfl) (hpl : (backTo pos (starEach es X.env)).any (·.1) = false := by rfl) : PE X (.Call (.Name x p) (e :: es) [] pos) (tCallS sp (WE W) t) := by
  obtain ⟨f, fd, F, hm, hk, hb⟩ := C
  exact pe_callS F hr hg hm hk hb (passAt tk) ha hdb he hpl
/-- of what _law_kinds tells -/
def kindsB (i : Nat) : List Bool := ((List.range 11).map fun j => decide (i = j)) ++ [true]
def spKnd (C : Nat → Addr) : Sp := fun vs H Q _ => ∃ (a : Addr) (i : Nat), vs = [.ref a] ∧ i < 12 ∧ H a = some (ExD (.ref (C i)) none a) ∧
  ∀ H' p, Same H H' → H p = none → H' p = some (.lst ((kindsB i).map V.bl)) → Q (.ref p) H'
end Rd

set_option Elab.async false
set_option linter.all false
set_option maxRecDepth 100000
set_option maxHeartbeats 4000000
/-! one refusal's class; a def that may let it out -/
namespace Rd
open PySem PySem.Spec PyProof.Rows L2 Dt
structure Cls1 (K : PySem.W.Frag) (D : Addr) : Prop where
  x : PySem.W.excIn K D [.type "ValueError", .type "Exception", .type "BaseException", .type "object"] "ValueError.__new__" = true
  k : PySem.W.keepIn K (.ref D) = true
  b : PySem.W.subIn K (.ref D) (.type "BaseException") = some true
  t : PySem.W.typeIn K (.ref D) = some (.type "type")
  e : PySem.W.exmOne K (.ref D) (.ref D) = some true
def okC1 (K : PySem.W.Frag) (D : Addr) : Bool :=
  PySem.W.excIn K D [.type "ValueError", .type "Exception", .type "BaseException", .type "object"] "ValueError.__new__" && PySem.W.keepIn K (.ref D) &&
  (PySem.W.subIn K (.ref D) (.type "BaseException") == some true) && (PySem.W.typeIn K (.ref D) == some (.type "type")) && (PySem.W.exmOne K (.ref D) (.ref D) == some true)
theorem cls1_of {K : PySem.W.Frag} {D : Addr} (h : okC1 K D = true) : Cls1 K D := by
  unfold okC1 at h
  simp only [Bool.and_eq_true, beq_iff_eq] at h
  obtain ⟨⟨⟨⟨h1, h2⟩, h3⟩, h4⟩, h5⟩ := h
  exact ⟨h1, h2, h3, h4, h5⟩
theorem FunC.okX {P : Program} {w : World} {K : PySem.W.Frag} {mg : Str → Option Value} {base : Heap} {x qual : Str} {st : Stmt} {f : Addr} {fd : FuncData} {cdv : Value} {N ps : List Str} {k : Nat} {sp : Sp} (F : FunC K x qual st f fd cdv) (S : FnScope N ps (defScope st)) (len : ∀ vs H Q E, sp vs H Q E → vs.length = ps.length)
    (body : ∀ (A : Around) (outer : List Env) (s : Shared) (H : Hp) (vs : List V) (Q : VK) (E : XK), Room k (A.deeper (envOfC qual (defScope st) s.heap.objs.size f cdv)) → sp vs H Q E →
      ∃ t, PSs (cxOf (L2.CX P w) P w K mg base N qual (defScope st) f cdv A outer s H E) (defBody st) t ∧ t { nx := fun _ H' => Q .non H', rt := Q } (start N vs) H) : FnOk P w K mg base (L2.CX P w) (k + 1) f fd ps sp := by
  obtain ⟨oc, od, kV, doc, pm, an, ct, osl, rfl, lk, hcd⟩ := F.ex
  exact fn_of lk hcd S len fun A outer s H vs Q E hr hsp => body A outer s H vs Q E hr hsp
end Rd

set_option Elab.async false
set_option linter.all false
set_option maxRecDepth 100000
set_option maxHeartbeats 4000000
namespace Rd
open PySem PySem.Spec PyProof.Rows L2 Dt
/-! ### numbers -/
def CPowW (i j : Int) : Prop := 0 ≤ j ∧ (Builtin.Int.intBits i : Int) * j ≤ 2 ^ 27
theorem op_powW {X : Cx} : OpR X (binaryOp .Pow) (rI CPowW fun i j => .int (i ^ j.toNat)) := opI fun _ _ _ _ _ _ _ hc q => pow_int hc.1 hc.2 q
theorem abs_of_bits {a : Int} {n : Nat} (h : Builtin.Int.intBits a ≤ n) : a.natAbs < 2 ^ n := by
  unfold Builtin.Int.intBits at h
  by_cases e : a = 0
  · subst e
    exact Nat.two_pow_pos n
  · have e2 : a.natAbs ≠ 0 := by omega
    have h2 : a.natAbs.log2 + 1 ≤ n := by
      split at h
      · rename_i q
        simp at q
        exact absurd q e
      · exact h
    exact Nat.lt_of_lt_of_le Nat.lt_log2_self (Nat.pow_le_pow_right (by decide) h2)
theorem mix_bits {sd c : Int} {n : Nat} (h0 : 0 ≤ sd) (h1 : sd ≤ 2147483629) (hc : Builtin.Int.intBits c ≤ n) (hn : 47 ≤ n) : Builtin.Int.intBits (sd * 50021 + c) ≤ n + 1 := by
  refine intBits_le ?_
  have a := abs_of_bits hc
  have b : (140737488355328 : Nat) ≤ 2 ^ n := Nat.le_trans (by decide : (140737488355328 : Nat) ≤ 2 ^ 47) (Nat.pow_le_pow_right (by decide) hn)
  rw [Nat.pow_succ]
  generalize (2 : Nat) ^ n = m at a b
  omega

/-! ### the well -/
structure WellC (cs : List Int) (b c : Int) : Prop where
  b0 : 0 ≤ b
  c0 : 0 ≤ c
  c1 : c ≤ 2147483647
  nn : ∀ x ∈ cs, 0 ≤ x
def Well (H : Hp) (wl cl : Addr) : Prop := ∃ (cs : List Int) (b c : Int), H wl = some (.lst [.ref cl, .int b, .int c]) ∧ H cl = some (.lst (cs.map V.int)) ∧ WellC cs b c
theorem Well.ne {H : Hp} {wl cl : Addr} (h : Well H wl cl) : wl ≠ cl := by
  obtain ⟨cs, b, c, h1, h2, _⟩ := h
  refine ne_of h1 h2 fun e => ?_
  cases cs with
  | nil => cases e
  | cons x r => cases e
/-- H' is H but for the well -/
def Drawn (wl cl : Addr) (H H' : Hp) : Prop := (∀ b o, b ≠ wl → b ≠ cl → H b = some o → H' b = some o) ∧ Well H' wl cl
theorem Well.same {H H' : Hp} {wl cl : Addr} (h : Well H wl cl) (s : Same H H') : Well H' wl cl := by
  obtain ⟨cs, b, c, h1, h2, hc⟩ := h
  exact ⟨cs, b, c, s _ _ h1, s _ _ h2, hc⟩
theorem Well.new {H : Hp} {wl cl b : Addr} (h : Well H wl cl) (n : H b = none) : b ≠ wl ∧ b ≠ cl := by
  obtain ⟨cs, x, c, h1, h2, hc⟩ := h
  exact ⟨(ne_of_none h1 n).symm, (ne_of_none h2 n).symm⟩
theorem Well.put {H : Hp} {wl cl b : Addr} {o : HO} (h : Well H wl cl) (n : b ≠ wl ∧ b ≠ cl) : Well (upd H b o) wl cl := by
  obtain ⟨cs, x, c, h1, h2, hc⟩ := h
  exact ⟨cs, x, c, by rw [upd_ne n.1.symm]; exact h1, by rw [upd_ne n.2.symm]; exact h2, hc⟩
theorem Drawn.refl {H : Hp} {wl cl : Addr} (h : Well H wl cl) : Drawn wl cl H H := ⟨fun _ _ _ _ e => e, h⟩
theorem Drawn.trans {H H1 H2 : Hp} {wl cl : Addr} (a : Drawn wl cl H H1) (b : Drawn wl cl H1 H2) : Drawn wl cl H H2 := ⟨fun x o n1 n2 e => b.1 x o n1 n2 (a.1 x o n1 n2 e), b.2⟩
theorem Drawn.same {H H1 H2 : Hp} {wl cl : Addr} (a : Drawn wl cl H H1) (s : Same H1 H2) : Drawn wl cl H H2 := ⟨fun x o n1 n2 e => s _ _ (a.1 x o n1 n2 e), a.2.same s⟩
/-- a store at a place that wasn't there at first -/
theorem Drawn.put {H H1 : Hp} {wl cl b : Addr} {o : HO} (a : Drawn wl cl H H1) (n : H b = none) (nb : b ≠ wl ∧ b ≠ cl) : Drawn wl cl H (upd H1 b o) :=
  ⟨fun x u n1 n2 e => by rw [upd_ne (ne_of_none e n)]; exact a.1 x u n1 n2 e, a.2.put nb⟩
theorem Drawn.tups {H H' : Hp} {wl cl : Addr} (w : Well H wl cl) (a : Drawn wl cl H H') : Tups H H' := fun b xs e => by
  obtain ⟨cs, x, c, h1, h2, hc⟩ := w
  exact a.1 b _ (fun z => by rw [z, h1] at e; cases e) (fun z => by rw [z, h2] at e; cases e) e
theorem Drawn.free {H H' : Hp} {wl cl b : Addr} (w : Well H wl cl) (a : Drawn wl cl H H') (n : H' b = none) : H b = none := by
  cases e : H b with
  | none => rfl
  | some o =>
    obtain ⟨m1, m2⟩ := a.2.new n
    rw [a.1 b o m1 m2 e] at n
    cases n

/-! ### things popped at drawn places -/
structure PopsD {α : Type} (f : α → V) (wl cl : Addr) (H : Hp) (l D : Addr) (zs0 : List α) (i : Nat) (H5 : Hp) (acc ls : List α) : Prop where
  fr : Drawn wl cl H H5
  hL : H5 l = some (.lst (ls.map f))
  hD : H5 D = some (.lst (acc.map f))
  la : acc.length = i
  ll : ls.length + i = zs0.length
  pm : (acc ++ ls).Perm zs0
theorem popD_step {α : Type} {f : α → V} {wl cl : Addr} {H : Hp} {l D : Addr} {zs0 : List α} {i : Nat} {H5 H6 : Hp} {acc ls : List α} {d : Int} (nl : H l = none) (nlt : l ≠ wl ∧ l ≠ cl) (nD : H D = none) (nDt : D ≠ wl ∧ D ≠ cl) (nlD : l ≠ D) (hz : zs0.length ≤ 999) (p : PopsD f wl cl H l D zs0 i H5 acc ls) (D6 : Drawn wl cl H5 H6) (d0 : 0 ≤ d) (d1 : d < (ls.length : Int)) :
    ∃ y, (ls.map f)[d.toNat]? = some y ∧ H6 l = some (.lst (ls.map f)) ∧ seqIndex? d (ls.map f).length = some d.toNat ∧ ∃ acc', upd H6 l (.lst ((ls.map f).eraseIdx d.toNat)) D = some (.lst acc') ∧ acc'.length < sizeLine ∧ ∃ acc2 ls2, PopsD f wl cl H l D zs0 (i + 1) (upd (upd H6 l (.lst ((ls.map f).eraseIdx d.toNat))) D (.lst (acc' ++ [y]))) acc2 ls2 := by
  have hd : d.toNat < ls.length := by omega
  have hL6 := D6.1 l _ nlt.1 nlt.2 p.hL
  have hD6 := D6.1 D _ nDt.1 nDt.2 p.hD
  have la := p.la
  have ll := p.ll
  refine ⟨f ls[d.toNat], map_at (List.getElem?_eq_getElem hd), hL6, seqIndex_of d0 (by rw [List.length_map]; exact d1), acc.map f, ?_, ?_, acc ++ [ls[d.toNat]], ls.eraseIdx d.toNat, ?_, ?_, ?_, ?_, ?_, ?_⟩
  · rw [upd_ne (Ne.symm nlD)]
    exact hD6
  · rw [List.length_map]
    exact small1000 (by omega)
  · exact ((p.fr.trans D6).put nl nlt).put nD nDt
  · rw [upd_ne nlD, upd_same, map_erase]
  · rw [upd_same, List.map_append]
    rfl
  · rw [List.length_append, la]
    rfl
  · rw [List.length_eraseIdx_of_lt hd]
    omega
  · refine List.Perm.trans ?_ p.pm
    rw [List.append_assoc]
    exact List.Perm.append_left acc (erase_perm ls _ hd)
theorem Drawn.tabs {Ps : List Addr} {H H' : Hp} {wl cl : Addr} (w : Well H wl cl) (a : Drawn wl cl H H') (t : Tabs Ps H) : Tabs Ps H' := fun P hP => by
  obtain ⟨ps, hp, ht⟩ := t P hP
  obtain ⟨cs, x, c, h1, h2, hc⟩ := w
  exact ⟨ps, a.1 P _ (fun z => by rw [z, h1] at hp; cases hp) (fun z => by rw [z, h2] at hp; cases hp) hp, ht⟩
theorem FrS.well {Ps : List Addr} {H H' : Hp} {wl cl : Addr} (t : Tabs Ps H) (f : FrS Ps H H') (w : Well H wl cl) : Well H' wl cl := by
  obtain ⟨cs, x, c, h1, h2, hc⟩ := w
  exact ⟨cs, x, c, f.1 _ _ (t.lst h1) h1, f.1 _ _ (t.lst h2) h2, hc⟩
theorem Drawn.lst {H H' : Hp} {wl cl : Addr} (a : Drawn wl cl H H') {b : Addr} {xs : List V} (n : b ≠ wl ∧ b ≠ cl) (e : H b = some (.lst xs)) : H' b = some (.lst xs) := a.1 b _ n.1 n.2 e
theorem eqv_nil_cons (z : Int) (r : List Int) : PyData.eqv (.list ((z :: r).map PyData.int)) (.list []) = false := by
  simp [PyData.eqv, PyData.eqvAll]
theorem eqv_nil_nil : PyData.eqv (.list (([] : List Int).map PyData.int)) (.list []) = true := by
  simp [PyData.eqv, PyData.eqvAll]
def rInt1 : List V → Hp → VK → Prop := fun xs H Q => (∃ i, xs = [.int i] ∧ Q (.int i) H) ∨ ∃ k, xs = [.bl k] ∧ Q (.int (if k then 1 else 0)) H
theorem lc_enumL {K : PySem.W.Frag} {a : Addr} {xs : List V} {g : TG} {tt : TT} {te : TE} {vs : List Nat} {σ : L2.St} {H1 : Hp} {D : Addr} {Qd : Hp → Prop} (Pv : Nat → Hp → Prop) (h0 : Pv 0 (upd H1 D (.lst []))) (hl : ∀ i H, i ≤ xs.length → Pv i H → SqL K H a xs)
    (hs : ∀ i x H T, xs[i]? = some x → Pv i H → H T = none → g (.ref T) (wipe σ vs) (upd H T (.tup [.int (i : Nat), x])) fun σ2 H2 => wipe σ2 vs = wipe σ vs ∧ tt σ2 H2 fun b H3 =>
      if b = true then te σ2 H3 fun y H4 => ∃ acc, H4 D = some (.lst acc) ∧ acc.length < sizeLine ∧ Pv (i + 1) (upd H4 D (.lst (acc ++ [y]))) else Pv (i + 1) H3) (hd : ∀ H, Pv xs.length H → Qd H) :
    ∃ W : Nat → Nat → Hp → Prop, (∃ m, W 0 m (upd H1 D (.lst []))) ∧ ∀ i m H, W i m H →
      ((Ite K a).stop i H ∧ Qd H) ∨ ((Ite K a).go i H ∧ ∃ Nx : Hp → Prop, (∀ H', Nx H' → ∃ m', m' < m ∧ W (i + 1) m' H') ∧ ∀ x H', (Ite K a).yld i H x H' → g x (wipe σ vs) H' fun σ2 H2 => wipe σ2 vs = wipe σ vs ∧ tt σ2 H2 fun b H3 =>
        if b = true then te σ2 H3 fun y H4 => ∃ acc, H4 D = some (.lst acc) ∧ acc.length < sizeLine ∧ Nx (upd H4 D (.lst (acc ++ [y]))) else Nx H3) := by
  refine ⟨fun i m H => i + m = xs.length ∧ Pv i H, ⟨xs.length, by omega, h0⟩, ?_⟩
  rintro i m H ⟨e, p⟩
  have q := hl i H (by omega) p
  by_cases c : i < xs.length
  · refine .inr ⟨⟨xs, xs[i], q, List.getElem?_eq_getElem c⟩, Pv (i + 1), fun H' p' => ⟨m - 1, by omega, by omega, p'⟩, fun v H' hy => ?_⟩
    obtain ⟨T, x, rfl, nT, rfl, fx⟩ := hy
    exact hs i x H T (fx xs q) p nT
  · have e2 : i = xs.length := by omega
    subst e2
    exact .inl ⟨⟨xs, q, Nat.le_refl _⟩, hd H p⟩
theorem bumpA_get {tk ps : List Int} {i : Nat} {x : Int} (nd : ps.Nodup) (pl : ∀ p ∈ ps, 0 ≤ p ∧ p < (tk.length : Int)) (h : tk[i]? = some x) : ∃ y, (bumpA tk ps)[i]? = some y ∧ y = x + (if (i : Int) ∈ ps then 1 else 0) := by
  have hi : i < tk.length := (List.getElem?_eq_some_iff.mp h).1
  have bl : ∀ (ps tk : List Int), (bumpA tk ps).length = tk.length := fun ps => by
    unfold bumpA
    induction ps with
    | nil => intro tk; rfl
    | cons p r ih => intro tk; rw [List.foldl_cons, ih, bump_len]
  have hi2 : i < (bumpA tk ps).length := by rw [bl]; exact hi
  refine ⟨(bumpA tk ps)[i], List.getElem?_eq_getElem hi2, ?_⟩
  have z := atF_bumpA ps tk (i : Int) nd pl (by omega)
  unfold atF at z
  rw [Int.toNat_natCast, getD_get hi2, getD_of h] at z
  exact z
end Rd

set_option Elab.async false
set_option linter.all false
set_option maxRecDepth 100000
set_option maxHeartbeats 4000000
namespace Gx
open PySem PySem.Spec PyProof.Rows L2 GenW
theorem sum_listL {K : PySem.W.Frag} {a : Addr} {xs : List V} {g : TG} {tt : TT} {te : TE} {vs : List Nat} {σ : L2.St} {Q : Int → Hp → Prop} {H2 : Hp} (Pv : Nat → Int → Hp → Prop) (h0 : Pv 0 0 H2) (hl : ∀ i z H, i ≤ xs.length → Pv i z H → SqL K H a xs)
    (hs : ∀ i x z H, xs[i]? = some x → Pv i z H → g x (wipe σ vs) H fun σ2 H2 => wipe σ2 vs = wipe σ vs ∧ tt σ2 H2 fun b H3 => if b = true then te σ2 H3 fun v H4 => ∃ u, v = .int u ∧ Pv (i + 1) (z + u) H4 else Pv (i + 1) z H3) (hd : ∀ z H, Pv xs.length z H → Q z H) :
    ∃ W : Nat → Nat → Int → Hp → Prop, (∃ m, W 0 m 0 H2) ∧ TurnsZ (Itl K a) g tt te vs σ Q W := by
  refine ⟨fun i m z H => m = xs.length - i ∧ i ≤ xs.length ∧ Pv i z H, ⟨xs.length, by simp, Nat.zero_le _, h0⟩, ?_⟩
  rintro i m z H ⟨rfl, hi, p⟩
  have q := hl i z H hi p
  by_cases hlt : i < xs.length
  · refine .inr ⟨⟨xs, xs[i], q, by simp [hlt]⟩, Pv (i + 1), fun z' H' p' => ⟨xs.length - (i + 1), by omega, rfl, hlt, p'⟩, fun x H' y => ?_⟩
    obtain ⟨e, y⟩ := y
    subst e
    exact hs i x z _ (y xs q) p
  · have e : i = xs.length := by omega
    subst e
    exact .inl ⟨⟨xs, q, by simp⟩, hd z H p⟩
end Gx

set_option autoImplicit false
set_option Elab.async false
set_option linter.all false
set_option maxRecDepth 100000
set_option maxHeartbeats 4000000
/-! sums over all fillings of sums over all redrawings of some places -/
namespace Rd
open PySem PySem.Spec PyProof.Rows L2 Dt
def fS (hues n : Nat) (g : List Int → Int) : Int := ((fillL hues n).map g).sum
def hS (hues : Nat) (g : Int → Int) : Int := ((List.range hues).map fun (h : Nat) => g (h : Int)).sum
theorem sumMapC {α : Type} {f g : α → Int} : ∀ {l : List α}, (∀ x ∈ l, f x = g x) → (l.map f).sum = (l.map g).sum
  | [], _ => rfl
  | x :: l, h => by rw [List.map_cons, List.map_cons, List.sum_cons, List.sum_cons, h x List.mem_cons_self, sumMapC fun y hy => h y (List.mem_cons_of_mem _ hy)]
theorem sumMapAdd {α : Type} (f g : α → Int) : ∀ l : List α, (l.map fun x => f x + g x).sum = (l.map f).sum + (l.map g).sum
  | [] => rfl
  | x :: l => by
    simp only [List.map_cons, List.sum_cons]
    rw [sumMapAdd f g l]
    omega
theorem sumMapMul {α : Type} (c : Int) (f : α → Int) : ∀ l : List α, (l.map fun x => c * f x).sum = c * (l.map f).sum
  | [] => (Int.mul_zero c).symm
  | x :: l => by rw [List.map_cons, List.sum_cons, List.map_cons, List.sum_cons, sumMapMul c f l, Int.mul_add]
theorem sumMapK {α : Type} (c : Int) : ∀ l : List α, (l.map fun _ => c).sum = (l.length : Int) * c
  | [] => (Int.zero_mul c).symm
  | x :: l => by
    rw [List.map_cons, List.sum_cons, sumMapK c l, List.length_cons, Int.natCast_add, Int.add_mul]
    omega
theorem sumSwap {α β : Type} (f : α → β → Int) (m : List β) : ∀ l : List α, (l.map fun x => (m.map fun y => f x y).sum).sum = (m.map fun y => (l.map fun x => f x y).sum).sum
  | [] => by
    show (0 : Int) = (m.map fun _ => (0 : Int)).sum
    rw [sumMapK, Int.mul_zero]
  | x :: l => by
    rw [List.map_cons, List.sum_cons, sumSwap f m l, ← sumMapAdd]
    rfl
theorem sumFlat {α β : Type} (g : β → Int) (k : α → List β) : ∀ l : List α, ((l.flatMap k).map g).sum = (l.map fun x => ((k x).map g).sum).sum
  | [] => rfl
  | x :: l => by rw [List.flatMap_cons, List.map_append, List.sum_append, sumFlat g k l]; rfl
theorem longer_sum (hues : Nat) (g : List Int → Int) (f : List Int) : ((longer hues f).map g).sum = hS hues fun h => g (f ++ [h]) := by
  unfold longer hS
  rw [List.map_map]
  rfl
theorem fS_succ (hues n : Nat) (g : List Int → Int) : fS hues (n + 1) g = fS hues n fun f => hS hues fun h => g (f ++ [h]) := by
  unfold fS
  rw [fillL, sumFlat]
  exact sumMapC fun f _ => longer_sum hues g f
theorem fS_congr {hues n : Nat} {f g : List Int → Int} (h : ∀ x ∈ fillL hues n, f x = g x) : fS hues n f = fS hues n g := sumMapC h
theorem hS_mul (hues : Nat) (c : Int) (g : Int → Int) : hS hues (fun h => c * g h) = c * hS hues g := sumMapMul c _ _
theorem hS_const (hues : Nat) (c : Int) : hS hues (fun _ => c) = (hues : Int) * c := by
  unfold hS
  rw [sumMapK, List.length_range]
theorem hS_swap (hues : Nat) (g : Int → Int → Int) : hS hues (fun x => hS hues fun y => g x y) = hS hues fun y => hS hues fun x => g x y := sumSwap _ _ _
/-- one place drawn anew, over all fillings -/
theorem fS_set (hues p : Nat) : ∀ (n : Nat) (g : List Int → Int), p < n → fS hues n (fun f => hS hues fun h => g (f.set p h)) = (hues : Int) * fS hues n g
  | 0, _, h => absurd h (Nat.not_lt_zero _)
  | n + 1, g, hp => by
    rw [fS_succ, fS_succ]
    by_cases c : p < n
    · have ih := fS_set hues p n (fun f => hS hues fun h => g (f ++ [h])) c
      rw [← ih]
      refine fS_congr fun f hf => ?_
      rw [hS_swap]
      have fl := (fill_good hf).1
      unfold hS
      refine sumMapC fun h _ => sumMapC fun h' _ => ?_
      dsimp only
      rw [List.set_append_left _ _ (by omega)]
    · have e : p = n := by omega
      subst e
      have : ∀ f ∈ fillL hues p, (hS hues fun h' => hS hues fun h => g ((f ++ [h']).set p h)) = (hues : Int) * hS hues fun h => g (f ++ [h]) := fun f hf => by
        have fl := (fill_good hf).1
        rw [← hS_const]
        unfold hS
        refine sumMapC fun h' _ => sumMapC fun h _ => ?_
        dsimp only
        rw [List.set_append_right _ _ (by omega), fl, Nat.sub_self]
        rfl
      rw [fS_congr this]
      exact sumMapMul _ _ _
theorem anewL_snoc {f ps r : List Int} {p h : Int} (e : ps.length = r.length) : anewL f (ps ++ [p]) (r ++ [h]) = (anewL f ps r).set p.toNat h := by
  unfold anewL
  rw [List.zip_append e, List.foldl_append]
  rfl
/-- some places drawn anew, over all fillings: each filling comes as often -/
theorem fS_anew (hues n : Nat) : ∀ (k : Nat) (ps : List Int) (g : List Int → Int), ps.length = k → (∀ p ∈ ps, 0 ≤ p ∧ p < (n : Int)) → fS hues n (fun f => fS hues k fun r => g (anewL f ps r)) = (hues : Int) ^ k * fS hues n g
  | 0, ps, g, e, _ => by
    rw [List.length_eq_zero_iff.mp e, Int.pow_zero, Int.one_mul]
    refine fS_congr fun f _ => ?_
    show g (anewL f [] []) + 0 = g f
    rw [Int.add_zero]
    rfl
  | k + 1, ps, g, e, hp => by
    have ne : ps ≠ [] := fun z => by rw [z] at e; cases e
    obtain ⟨qs, p, rfl⟩ : ∃ qs p, ps = qs ++ [p] := ⟨ps.dropLast, ps.getLast ne, (List.dropLast_concat_getLast ne).symm⟩
    rw [List.length_append] at e
    have e : qs.length = k := by simpa using e
    have p0 := hp p (List.mem_append_right _ List.mem_cons_self)
    have ih := fS_anew hues n k qs (fun f => hS hues fun h => g (f.set p.toNat h)) e fun q hq => hp q (List.mem_append_left _ hq)
    have a : fS hues n (fun f => fS hues (k + 1) fun r => g (anewL f (qs ++ [p]) r)) = fS hues n (fun f => fS hues k fun r => hS hues fun h => g ((anewL f qs r).set p.toNat h)) := by
      refine fS_congr fun f _ => ?_
      rw [fS_succ]
      refine fS_congr fun r hr => ?_
      have rl := (fill_good hr).1
      unfold hS
      refine sumMapC fun h _ => ?_
      dsimp only
      rw [anewL_snoc (show qs.length = r.length by omega)]
    rw [a, ih, fS_set hues p.toNat n g (by omega), Int.pow_succ, Int.mul_assoc]
end Rd

set_option autoImplicit false
set_option Elab.async false
set_option linter.all false
set_option maxRecDepth 100000
set_option maxHeartbeats 4000000
/-! what is broken behind a redrawing, and how often -/
namespace Rd
open PySem PySem.Spec PyProof.Rows L2 Dt
theorem anewL_cons (f ps r : List Int) (p h : Int) : anewL f (p :: ps) (h :: r) = anewL (f.set p.toNat h) ps r := rfl
theorem atF_set_ne {f : List Int} {p q h : Int} (p0 : 0 ≤ p) (q0 : 0 ≤ q) (n : p ≠ q) : atF (f.set p.toNat h) q = atF f q := by
  unfold atF
  rw [List.getD_eq_getElem?_getD, List.getD_eq_getElem?_getD, List.getElem?_set_ne (by omega)]
theorem atF_set_eq {f : List Int} {p h : Int} (l : p.toNat < f.length) : atF (f.set p.toNat h) p = h := by
  unfold atF
  rw [List.getD_eq_getElem?_getD, List.getElem?_set_self l]
  rfl
theorem atF_anew_out {q : Int} (q0 : 0 ≤ q) : ∀ (ps r f : List Int), (∀ p ∈ ps, 0 ≤ p) → q ∉ ps → atF (anewL f ps r) q = atF f q
  | [], r, f, _, _ => rfl
  | p :: ps, [], f, _, _ => rfl
  | p :: ps, h :: r, f, hp, hq => by
    rw [anewL_cons, atF_anew_out q0 ps r _ (fun x hx => hp x (List.mem_cons_of_mem _ hx)) fun z => hq (List.mem_cons_of_mem _ z)]
    exact atF_set_ne (hp p List.mem_cons_self) q0 fun z => hq (z ▸ List.mem_cons_self)
/-- the places drawn anew have the row -/
theorem hues_anew_in : ∀ (ps r f : List Int), ps.length = r.length → ps.Nodup → (∀ p ∈ ps, 0 ≤ p ∧ p < (f.length : Int)) → huesA (anewL f ps r) ps = r
  | [], [], f, _, _, _ => rfl
  | p :: ps, h :: r, f, e, nd, hp => by
    obtain ⟨np, nd⟩ := List.nodup_cons.mp nd
    have p0 := hp p List.mem_cons_self
    rw [anewL_cons]
    show atF (anewL (f.set p.toNat h) ps r) p :: huesA (anewL (f.set p.toNat h) ps r) ps = h :: r
    rw [atF_anew_out p0.1 ps r _ (fun x hx => (hp x (List.mem_cons_of_mem _ hx)).1) np, atF_set_eq (by omega), hues_anew_in ps r _ (by simpa using e) nd fun x hx => by rw [List.length_set]; exact hp x (List.mem_cons_of_mem _ hx)]
  | [], h :: r, f, e, _, _ => by cases e
  | p :: ps, [], f, e, _, _ => by cases e
/-- places apart from them keep theirs -/
theorem hues_anew_out {ps r f qs : List Int} (hp : ∀ p ∈ ps, 0 ≤ p) (hq : ∀ q ∈ qs, 0 ≤ q ∧ q ∉ ps) : huesA (anewL f ps r) qs = huesA f qs := by
  unfold huesA
  exact List.map_congr_left fun q z => atF_anew_out (hq q z).1 ps r f hp (hq q z).2
theorem brk_in {f r : List Int} {wd : WD} (e : wd.1.length = r.length) (nd : wd.1.Nodup) (hp : ∀ p ∈ wd.1, 0 ≤ p ∧ p < (f.length : Int)) : brk (anewL f wd.1 r) wd = decide (r ∈ wd.2) := by
  unfold brk
  rw [hues_anew_in _ _ _ e nd hp]
theorem brk_out {f ps r : List Int} {wd : WD} (hp : ∀ p ∈ ps, 0 ≤ p) (hq : ∀ q ∈ wd.1, 0 ≤ q ∧ q ∉ ps) : brk (anewL f ps r) wd = brk f wd := by
  unfold brk
  rw [hues_anew_out hp hq]
/-! how often -/
def ib (b : Bool) : Int := if b = true then 1 else 0
theorem ib_mem_count {l : List (List Int)} (nl : l.Nodup) : ∀ {rows : List (List Int)}, rows.Nodup → (∀ r ∈ rows, r ∈ l) → (l.map fun r => ib (decide (r ∈ rows))).sum = (rows.length : Int)
  | [], _, _ => by
    rw [sumMapC (g := fun _ => (0 : Int)) (fun x _ => by unfold ib; rw [decide_eq_false (by simp)]; rfl), sumMapK, Int.mul_zero]
    rfl
  | r0 :: rows, nd, sub => by
    obtain ⟨n0, nd⟩ := List.nodup_cons.mp nd
    have ih := ib_mem_count nl nd fun r hr => sub r (List.mem_cons_of_mem _ hr)
    have one : ∀ {l : List (List Int)}, l.Nodup → r0 ∈ l → (l.map fun r => ib (decide (r = r0))).sum = 1 := fun {l} => by
      induction l with
      | nil => exact fun _ z => nomatch z
      | cons x l ih2 =>
        intro n z
        obtain ⟨nx, nl⟩ := List.nodup_cons.mp n
        rw [List.map_cons, List.sum_cons]
        by_cases c : x = r0
        · subst c
          rw [sumMapC (g := fun _ => (0 : Int)) (fun y hy => by unfold ib; rw [decide_eq_false (fun z : y = x => nx (z ▸ hy))]; rfl), sumMapK, Int.mul_zero]
          unfold ib
          rw [decide_eq_true rfl]
          rfl
        · rw [ih2 nl ((List.mem_cons.mp z).resolve_left (Ne.symm c))]
          unfold ib
          rw [decide_eq_false c]
          rfl
    have e : ∀ r ∈ l, ib (decide (r ∈ r0 :: rows)) = ib (decide (r = r0)) + ib (decide (r ∈ rows)) := fun r _ => by
      unfold ib
      by_cases c : r = r0
      · subst c
        rw [decide_eq_true List.mem_cons_self, decide_eq_true rfl, decide_eq_false n0]
        rfl
      · rw [decide_eq_false c]
        have : decide (r ∈ r0 :: rows) = decide (r ∈ rows) := decide_eq_decide.mpr ⟨fun z => (List.mem_cons.mp z).resolve_left c, List.mem_cons_of_mem _⟩
        rw [this]
        simp
    rw [sumMapC e, sumMapAdd, one nl (sub r0 List.mem_cons_self), ih, List.length_cons]
    omega
/-- of the fillings, as many break a wish as its rows' share -/
theorem brk_share {hues n : Nat} {wd : WD} (fn : (fillL hues wd.1.length).Nodup) (nd : wd.1.Nodup) (hp : ∀ p ∈ wd.1, 0 ≤ p ∧ p < (n : Int)) (nr : wd.2.Nodup) (sub : ∀ r ∈ wd.2, r ∈ fillL hues wd.1.length) :
    (hues : Int) ^ wd.1.length * fS hues n (fun f => ib (brk f wd)) = (hues : Int) ^ n * (wd.2.length : Int) := by
  rw [← fS_anew hues n wd.1.length wd.1 (fun f => ib (brk f wd)) rfl hp]
  have e : ∀ f ∈ fillL hues n, fS hues wd.1.length (fun r => ib (brk (anewL f wd.1 r) wd)) = (wd.2.length : Int) := fun f hf => by
    have fl := (fill_good hf).1
    unfold fS
    rw [sumMapC (g := fun r => ib (decide (r ∈ wd.2))) fun r hr => by
      rw [brk_in (fill_good hr).1.symm nd fun p z => by rw [fl]; exact hp p z]]
    exact ib_mem_count fn nr sub
  rw [fS_congr e]
  unfold fS
  rw [sumMapK, fill_len]
  push_cast
  rfl
end Rd

set_option autoImplicit false
set_option Elab.async false
set_option linter.all false
set_option maxRecDepth 100000
set_option maxHeartbeats 4000000
/-! wishes without a place in common, each told once or more: the mean's equations solved -/
namespace Rd
open PySem PySem.Spec PyProof.Rows L2 Dt
structure Aps (hues n : Nat) (Ws : List WD) : Prop where
  un : Ws.Nodup
  ap : ∀ a ∈ Ws, ∀ b ∈ Ws, a ≠ b → ∀ p ∈ a.1, p ∉ b.1
  nd : ∀ a ∈ Ws, a.1.Nodup
  pl : ∀ a ∈ Ws, ∀ p ∈ a.1, 0 ≤ p ∧ p < (n : Int)
  nr : ∀ a ∈ Ws, a.2.Nodup
  row : ∀ a ∈ Ws, ∀ r ∈ a.2, r ∈ fillL hues a.1.length
/-- a guess: so much for each broken one -/
def apY (Ws : List WD) (c : WD → Int) (f : List Int) : Int := (Ws.map fun W => ib (brk f W) * c W).sum
theorem sum_only {Ws : List WD} {W0 : WD} (X : Int) : Ws.Nodup → W0 ∈ Ws → (Ws.map fun W => if W = W0 then X else 0).sum = X := by
  induction Ws with
  | nil => exact fun _ z => nomatch z
  | cons W r ih =>
    intro n z
    obtain ⟨nw, nr⟩ := List.nodup_cons.mp n
    rw [List.map_cons, List.sum_cons]
    by_cases c : W = W0
    · subst c
      rw [if_pos rfl, sumMapC (g := fun _ => (0 : Int)) (fun y hy => if_neg fun z : y = W => nw (z ▸ hy)), sumMapK, Int.mul_zero, Int.add_zero]
    · rw [if_neg c, ih nr ((List.mem_cons.mp z).resolve_left (Ne.symm c)), Int.zero_add]
/-- all redrawings of one of them -/
theorem ap_redrawn {hues n : Nat} {Ws : List WD} (A : Aps hues n Ws) (fn : ∀ k, (fillL hues k).Nodup) (c : WD → Int) {f : List Int} (hf : f ∈ fillL hues n) {W0 : WD} (h0 : W0 ∈ Ws) (b0 : brk f W0 = true) :
    ((hues : Int) ^ W0.1.length) * apY Ws c f = fS hues W0.1.length (fun r => apY Ws c (anewL f W0.1 r)) + c W0 * ((hues : Int) ^ W0.1.length - (W0.2.length : Int)) := by
  have fl := (fill_good hf).1
  have in0 : ∀ p ∈ W0.1, 0 ≤ p ∧ p < (f.length : Int) := fun p z => by rw [fl]; exact A.pl W0 h0 p z
  have one : ∀ W ∈ Ws, fS hues W0.1.length (fun r => ib (brk (anewL f W0.1 r) W) * c W) = ((hues : Int) ^ W0.1.length) * (ib (brk f W) * c W) - (if W = W0 then c W0 * ((hues : Int) ^ W0.1.length - (W0.2.length : Int)) else 0) := fun W hW => by
    by_cases e : W = W0
    · subst e
      rw [if_pos rfl, b0]
      have a : fS hues W.1.length (fun r => ib (brk (anewL f W.1 r) W) * c W) = c W * fS hues W.1.length (fun r => ib (decide (r ∈ W.2))) := by
        unfold fS
        rw [← sumMapMul]
        refine sumMapC fun r hr => ?_
        rw [brk_in (fill_good hr).1.symm (A.nd W hW) in0, Int.mul_comm]
      rw [a]
      have q : fS hues W.1.length (fun r => ib (decide (r ∈ W.2))) = (W.2.length : Int) := ib_mem_count (fn _) (A.nr W hW) (A.row W hW)
      rw [q, show ib true = 1 from rfl, Int.one_mul, Int.mul_sub, Int.mul_comm ((hues : Int) ^ W.1.length) (c W)]
      omega
    · rw [if_neg e, Int.sub_zero]
      have a : fS hues W0.1.length (fun r => ib (brk (anewL f W0.1 r) W) * c W) = fS hues W0.1.length (fun _ => ib (brk f W) * c W) := by
        unfold fS
        refine sumMapC fun r _ => ?_
        rw [brk_out (fun p z => (in0 p z).1) fun q z => ⟨(A.pl W hW q z).1, A.ap W hW W0 h0 e q z⟩]
      rw [a]
      unfold fS
      rw [sumMapK, fill_len]
      push_cast
      rfl
  have sw : fS hues W0.1.length (fun r => apY Ws c (anewL f W0.1 r)) = (Ws.map fun W => fS hues W0.1.length fun r => ib (brk (anewL f W0.1 r) W) * c W).sum := sumSwap _ _ _
  rw [sw, sumMapC one]
  have sub : ∀ (l : List WD) (g h : WD → Int), (l.map fun W => g W - h W).sum = (l.map g).sum - (l.map h).sum := fun l g h => by
    induction l with
    | nil => rfl
    | cons x r ih => simp only [List.map_cons, List.sum_cons]; omega
  rw [sub, sum_only _ A.un h0, sumMapMul]
  unfold apY
  omega
/-- the mean's row at a broken filling -/
theorem ap_row {hues n : Nat} {wds Ws : List WD} (A : Aps hues n Ws) (fn : ∀ k, (fillL hues k).Nodup) (hsub : ∀ w ∈ wds, w ∈ Ws) {c : WD → Int} {E : Int} (hc : ∀ W ∈ Ws, c W * ((hues : Int) ^ W.1.length - (W.2.length : Int)) = (hues : Int) ^ W.1.length * E) {f : List Int} (hf : f ∈ fillL hues n) (ne : mendsL hues wds f ≠ []) :
    ((mendsL hues wds f).length : Int) * apY Ws c f = ((mendsL hues wds f).length : Int) * E + ((mendsL hues wds f).map (apY Ws c)).sum := by
  cases hb : broL f wds wds.length with
  | nil => exact absurd (mendsL_nil hb) ne
  | cons k r =>
    have km : k ∈ broL f wds wds.length := by rw [hb]; exact List.mem_cons_self
    unfold broL at km
    obtain ⟨j, hj, rfl⟩ := List.mem_map.mp km
    obtain ⟨hj, bj⟩ := List.mem_filter.mp hj
    have jl := List.mem_range.mp hj
    have ej : wds[j]? = some wds[j] := List.getElem?_eq_getElem jl
    rw [brkAt_of ej] at bj
    have ep : plcs wds (j : Int) = (wds[j]).1 := by
      unfold plcs
      rw [Int.toNat_natCast, List.getD_eq_getElem?_getD, ej]
      rfl
    have h0 := hsub _ (List.getElem_mem jl)
    rw [mendsL_cons hb, ep, List.length_map, fill_len, List.map_map]
    have z := ap_redrawn A fn c hf h0 bj
    rw [hc _ h0] at z
    have q : ((fillL hues (wds[j]).1.length).map (apY Ws c ∘ anewL f (wds[j]).1)).sum = fS hues (wds[j]).1.length (fun r => apY Ws c (anewL f (wds[j]).1 r)) := rfl
    rw [q]
    push_cast
    omega
/-- where all is kept nothing comes -/
theorem ap_kept {hues : Nat} {wds Ws : List WD} (sup : ∀ W ∈ Ws, W ∈ wds) (c : WD → Int) {f : List Int} (h : broL f wds wds.length = []) : apY Ws c f = 0 := by
  have no : ∀ W ∈ Ws, ib (brk f W) * c W = 0 := fun W hW => by
    obtain ⟨j, ej⟩ := List.getElem?_of_mem (sup W hW)
    have jl := (List.getElem?_eq_some_iff.mp ej).1
    cases b : brk f W with
    | false => exact Int.zero_mul _
    | true =>
      have : (j : Int) ∈ broL f wds wds.length := List.mem_map.mpr ⟨j, List.mem_filter.mpr ⟨List.mem_range.mpr jl, by rw [brkAt_of ej]; exact b⟩, rfl⟩
      rw [h] at this
      cases this
  unfold apY
  rw [sumMapC no, sumMapK, Int.mul_zero]
/-- over all fillings -/
theorem ap_sum {hues n : Nat} {Ws : List WD} (A : Aps hues n Ws) (fn : ∀ k, (fillL hues k).Nodup) {c d : WD → Int} (hd : ∀ W ∈ Ws, c W = d W * (hues : Int) ^ W.1.length) : fS hues n (apY Ws c) = (hues : Int) ^ n * (Ws.map fun W => d W * (W.2.length : Int)).sum := by
  have sw : fS hues n (apY Ws c) = (Ws.map fun W => fS hues n fun f => ib (brk f W) * c W).sum := sumSwap _ _ _
  rw [sw, ← sumMapMul]
  refine sumMapC fun W hW => ?_
  have z := brk_share (hues := hues) (n := n) (fn _) (A.nd W hW) (A.pl W hW) (A.nr W hW) (A.row W hW)
  have a : fS hues n (fun f => ib (brk f W) * c W) = c W * fS hues n (fun f => ib (brk f W)) := by
    unfold fS
    rw [← sumMapMul]
    exact sumMapC fun f _ => Int.mul_comm _ _
  rw [a, hd W hW, Int.mul_assoc, z, ← Int.mul_assoc, Int.mul_comm (d W), Int.mul_assoc]
end Rd

set_option autoImplicit false
set_option Elab.async false
set_option linter.all false
set_option maxRecDepth 100000
set_option maxHeartbeats 4000000
/-! wishes of which no two that clash are ever broken at once: how many fillings keep all of some of them, or break just one -/
namespace Rd
open PySem PySem.Spec PyProof.Rows L2 Dt
/-- how many of these wishes a filling breaks -/
def cbA (wds : List WD) (A : Nat → Bool) (f : List Int) : Int := ((List.range wds.length).map fun i => if A i = true then ib (brkAt f wds i) else 0).sum
def i0 (x : Int) : Int := if x = 0 then 1 else 0
def i1 (x : Int) : Int := if x = 1 then 1 else 0
def putA (A : Nat → Bool) (j : Nat) : Nat → Bool := fun i => if i = j then true else A i
/-- whether two wishes have a place in common -/
def clashB (wds : List WD) (i j : Nat) : Bool := (plcs wds i).any fun p => decide (p ∈ plcs wds j)
/-- those of A that have no place in common with wish j -/
def offA (wds : List WD) (A : Nat → Bool) (j : Nat) : Nat → Bool := fun i => A i && !clashB wds i j
theorem ib_nonneg (b : Bool) : 0 ≤ ib b := by unfold ib; split <;> decide
theorem sum_nn {α : Type} (f : α → Int) : ∀ {l : List α}, (∀ x ∈ l, 0 ≤ f x) → 0 ≤ (l.map f).sum
  | [], _ => Int.le_refl 0
  | x :: l, h => by
    rw [List.map_cons, List.sum_cons]
    have a := h x List.mem_cons_self
    have b := sum_nn f (l := l) fun y hy => h y (List.mem_cons_of_mem _ hy)
    omega
theorem sum_zero {α : Type} (f : α → Int) : ∀ {l : List α}, (∀ x ∈ l, 0 ≤ f x) → (l.map f).sum = 0 → ∀ x ∈ l, f x = 0
  | [], _, _ => fun _ z => nomatch z
  | x :: l, h, e => by
    rw [List.map_cons, List.sum_cons] at e
    have a := h x List.mem_cons_self
    have b := sum_nn f (l := l) fun y hy => h y (List.mem_cons_of_mem _ hy)
    intro y hy
    rcases List.mem_cons.mp hy with z | z
    · rw [z]; omega
    · exact sum_zero f (fun y hy => h y (List.mem_cons_of_mem _ hy)) (by omega) y z
theorem sum_at (x : Int) (j : Nat) : ∀ r : Nat, ((List.range r).map fun i => if i = j then x else 0).sum = if j < r then x else 0
  | 0 => by rw [if_neg (Nat.not_lt_zero j)]; rfl
  | r + 1 => by
    rw [List.range_succ, List.map_append, List.sum_append, sum_at x j r]
    show _ + ((if r = j then x else 0) + 0) = _
    by_cases c : r = j
    · subst c
      rw [if_neg (Nat.lt_irrefl r), if_pos rfl, if_pos (Nat.lt_succ_self r)]
      omega
    · rw [if_neg c]
      by_cases d : j < r
      · rw [if_pos d, if_pos (by omega)]; omega
      · rw [if_neg d, if_neg (by omega)]; omega
section
variable {wds : List WD} {A B : Nat → Bool} {f : List Int} {j : Nat}
theorem cb_term (i : Nat) : 0 ≤ (if A i = true then ib (brkAt f wds i) else 0) := by
  split
  · exact ib_nonneg _
  · exact Int.le_refl 0
theorem cb_nonneg : 0 ≤ cbA wds A f := sum_nn _ fun i _ => cb_term i
theorem cb_ext (h : ∀ i, i < wds.length → A i = B i) : cbA wds A f = cbA wds B f := by
  unfold cbA
  refine sumMapC fun i hi => ?_
  rw [h i (List.mem_range.mp hi)]
theorem cb_put (hj : j < wds.length) (nA : A j = false) : cbA wds (putA A j) f = cbA wds A f + ib (brkAt f wds j) := by
  have z := sum_at (ib (brkAt f wds j)) j wds.length
  rw [if_pos hj] at z
  rw [← z]
  unfold cbA
  rw [← sumMapAdd]
  refine sumMapC fun i _ => ?_
  unfold putA
  by_cases c : i = j
  · subst c
    rw [if_pos rfl, if_pos rfl, if_pos rfl, nA, if_neg Bool.false_ne_true]
    omega
  · rw [if_neg c, if_neg c]
    omega
/-- where it is 0 none of them is broken -/
theorem cb_zero (h : cbA wds A f = 0) {i : Nat} (hi : i < wds.length) (a : A i = true) : brkAt f wds i = false := by
  have z := sum_zero _ (fun i _ => cb_term (A := A) (f := f) (wds := wds) i) h i (List.mem_range.mpr hi)
  rw [if_pos a] at z
  cases e : brkAt f wds i with
  | false => rfl
  | true => rw [e] at z; exact absurd z (by decide)
/-- where wish j is broken, those that clash with it don't count -/
theorem cb_off (ap : ∀ i, i < wds.length → i ≠ j → clashB wds i j = true → ¬ (brkAt f wds i = true ∧ brkAt f wds j = true)) (nA : A j = false) (b : brkAt f wds j = true) : cbA wds A f = cbA wds (offA wds A j) f := by
  unfold cbA
  refine sumMapC fun i hi => ?_
  unfold offA
  cases a : A i with
  | false => rfl
  | true =>
    have ne : i ≠ j := fun z => by rw [z, nA] at a; cases a
    cases c : clashB wds i j with
    | false => rfl
    | true =>
      have z : brkAt f wds i = false := by
        cases e : brkAt f wds i with
        | false => rfl
        | true => exact absurd ⟨e, b⟩ (ap i (List.mem_range.mp hi) ne c)
      rw [z]
      rfl
/-- how many are broken in all -/
theorem cb_all (h : ∀ i, i < wds.length → A i = true) : cbA wds A f = ((broL f wds wds.length).length : Int) := by
  unfold cbA broL
  rw [List.length_map]
  have go : ∀ l : List Nat, (∀ i ∈ l, A i = true) → (l.map fun i => if A i = true then ib (brkAt f wds i) else 0).sum = ((l.filter (brkAt f wds)).length : Int) := by
    intro l
    induction l with
    | nil => exact fun _ => rfl
    | cons x l ih =>
      intro a
      rw [List.map_cons, List.sum_cons, ih fun i hi => a i (List.mem_cons_of_mem _ hi), if_pos (a x List.mem_cons_self), List.filter_cons]
      cases e : brkAt f wds x with
      | false => rw [if_neg Bool.false_ne_true]; show (0 : Int) + _ = _; omega
      | true => rw [if_pos rfl, List.length_cons]; show (1 : Int) + _ = _; omega
  exact go _ fun i hi => h i (List.mem_range.mp hi)
end
/-- the wishes are right -/
structure WsR (hues n : Nat) (wds : List WD) : Prop where
  nd : ∀ a ∈ wds, a.1.Nodup
  pl : ∀ a ∈ wds, ∀ p ∈ a.1, 0 ≤ p ∧ p < (n : Int)
  nr : ∀ a ∈ wds, a.2.Nodup
  row : ∀ a ∈ wds, ∀ r ∈ a.2, r ∈ fillL hues a.1.length
theorem plcs_at {wds : List WD} {j : Nat} (hj : j < wds.length) : plcs wds (j : Int) = (wds[j]).1 := by
  unfold plcs
  rw [Int.toNat_natCast, List.getD_eq_getElem?_getD, List.getElem?_eq_getElem hj]
  rfl
theorem brkAt_at {wds : List WD} {f : List Int} {j : Nat} (hj : j < wds.length) : brkAt f wds j = brk f wds[j] := brkAt_of (List.getElem?_eq_getElem hj)
/-- the same hues at each place -/
theorem ext_atF {f g : List Int} (e : f.length = g.length) (h : ∀ q : Nat, q < f.length → atF f (q : Int) = atF g (q : Int)) : f = g := by
  refine List.ext_getElem e fun q h1 h2 => ?_
  have z := h q h1
  unfold atF at z
  rw [Int.toNat_natCast, List.getD_eq_getElem?_getD, List.getD_eq_getElem?_getD, List.getElem?_eq_getElem h1, List.getElem?_eq_getElem h2] at z
  exact z
theorem anew_twice {f ps r s : List Int} (e : ps.length = r.length) (e2 : ps.length = s.length) (nd : ps.Nodup) (hp : ∀ p ∈ ps, 0 ≤ p ∧ p < (f.length : Int)) : anewL (anewL f ps s) ps r = anewL f ps r := by
  refine ext_atF (by rw [anewL_len, anewL_len, anewL_len]) fun q _ => ?_
  have p0 : ∀ p ∈ ps, 0 ≤ p := fun p h => (hp p h).1
  by_cases c : (q : Int) ∈ ps
  · have a := hues_anew_in ps r (anewL f ps s) e nd fun p h => by rw [anewL_len]; exact hp p h
    have b := hues_anew_in ps r f e nd hp
    exact List.map_inj_left.mp (a.trans b.symm) _ c
  · rw [atF_anew_out (by omega) ps r _ p0 c, atF_anew_out (by omega) ps s _ p0 c, atF_anew_out (by omega) ps r _ p0 c]
section
variable {hues n : Nat} {wds : List WD} {j : Nat}
/-- what a redrawing of wish j leaves as it is -/
def Outs (hues n : Nat) (wds : List WD) (j : Nat) (φ : List Int → Int) : Prop := ∀ f ∈ fillL hues n, ∀ r ∈ fillL hues (plcs wds j).length, φ (anewL f (plcs wds j) r) = φ f
theorem cb_outs (R : WsR hues n wds) (hj : j < wds.length) (A : Nat → Bool) : Outs hues n wds j (cbA wds (offA wds A j)) := fun f hf r hr => by
  unfold cbA
  refine sumMapC fun i hi => ?_
  have il := List.mem_range.mp hi
  unfold offA
  cases c : clashB wds i j with
  | true => cases A i <;> rfl
  | false =>
    rw [brkAt_at il, brkAt_at il, plcs_at hj]
    have ne : ∀ q ∈ (wds[i]).1, q ∉ (wds[j]).1 := fun q hq z => by
      unfold clashB at c
      rw [List.any_eq_false] at c
      exact c q (by rw [plcs_at il]; exact hq) (decide_eq_true (by rw [plcs_at hj]; exact z))
    rw [brk_out (fun p z => (R.pl _ (List.getElem_mem hj) p z).1) fun q z => ⟨(R.pl _ (List.getElem_mem il) q z).1, ne q z⟩]
/-- of what such a redrawing leaves, wish j's share is where it is broken -/
theorem fS_share (R : WsR hues n wds) (hj : j < wds.length) {φ : List Int → Int} (o : Outs hues n wds j φ) : (hues : Int) ^ (plcs wds j).length * fS hues n (fun f => ib (brkAt f wds j) * φ f) = ((wds[j]).2.length : Int) * fS hues n φ := by
  have hp : ∀ p ∈ plcs wds j, 0 ≤ p ∧ p < (n : Int) := fun p z => R.pl _ (List.getElem_mem hj) p (by rw [← plcs_at hj]; exact z)
  rw [← fS_anew hues n (plcs wds j).length (plcs wds j) (fun f => ib (brkAt f wds j) * φ f) rfl hp]
  unfold fS
  rw [← sumMapMul]
  refine sumMapC fun f hf => ?_
  have fl := (fill_good hf).1
  have e : ∀ r ∈ fillL hues (plcs wds j).length, ib (brkAt (anewL f (plcs wds j) r) wds j) * φ (anewL f (plcs wds j) r) = φ f * ib (decide (r ∈ (wds[j]).2)) := fun r hr => by
    rw [o f hf r hr, Int.mul_comm, brkAt_at hj, plcs_at hj]
    rw [plcs_at hj] at hr
    rw [brk_in (fill_good hr).1.symm (R.nd _ (List.getElem_mem hj)) fun p z => by rw [fl]; exact R.pl _ (List.getElem_mem hj) p z]
  rw [sumMapC e, sumMapMul, plcs_at hj, ib_mem_count (fill_nodup hues _) (R.nr _ (List.getElem_mem hj)) (R.row _ (List.getElem_mem hj)), Int.mul_comm]
end
end Rd

set_option autoImplicit false
set_option Elab.async false
set_option linter.all false
set_option maxRecDepth 100000
set_option maxHeartbeats 4000000
/-! the same: what one wish more among the kept ones comes to -/
namespace Rd
open PySem PySem.Spec PyProof.Rows L2 Dt
/-- how many fillings keep all of A; what these have together; how many break just one of A -/
def kpS (hues n : Nat) (wds : List WD) (A : Nat → Bool) : Int := fS hues n fun f => i0 (cbA wds A f)
def meS (hues n : Nat) (wds : List WD) (m : List Int → Int) (A : Nat → Bool) : Int := fS hues n fun f => i0 (cbA wds A f) * m f
def onS (hues n : Nat) (wds : List WD) (A : Nat → Bool) : Int := fS hues n fun f => i1 (cbA wds A f)
/-- no two that clash are broken at once -/
def ApW (hues n : Nat) (wds : List WD) : Prop := ∀ i j, i < wds.length → j < wds.length → i ≠ j → clashB wds i j = true → ∀ f ∈ fillL hues n, ¬ (brkAt f wds i = true ∧ brkAt f wds j = true)
theorem fS_sub {hues n : Nat} (f g : List Int → Int) : fS hues n f - fS hues n g = fS hues n fun x => f x - g x := by
  unfold fS
  induction fillL hues n with
  | nil => rfl
  | cons x l ih => simp only [List.map_cons, List.sum_cons]; omega
theorem fS_mul {hues n : Nat} (c : Int) (f : List Int → Int) : fS hues n (fun x => c * f x) = c * fS hues n f := sumMapMul c f _
theorem fS_add {hues n : Nat} (f g : List Int → Int) : fS hues n (fun x => f x + g x) = fS hues n f + fS hues n g := sumMapAdd f g _
theorem i0_pos {x : Int} (b : Bool) (h : 0 ≤ x) : i0 x - i0 (x + ib b) = ib b * i0 x := by
  unfold i0 ib
  cases b with
  | false => rw [if_neg Bool.false_ne_true, Int.add_zero, Int.zero_mul, Int.sub_self]
  | true =>
    rw [if_pos rfl, if_neg (show ¬ x + 1 = 0 by omega), Int.one_mul, Int.sub_zero]
theorem i1_pos {x : Int} (b : Bool) (h : 0 ≤ x) : i1 (x + ib b) - i1 x = ib b * (i0 x - i1 x) := by
  unfold i0 i1 ib
  cases b with
  | false => rw [if_neg Bool.false_ne_true, Int.add_zero, Int.zero_mul, Int.sub_self]
  | true =>
    rw [if_pos rfl, Int.one_mul]
    by_cases c : x = 0
    · subst c
      rfl
    · rw [if_neg (show ¬ x + 1 = 1 by omega), if_neg c]
section
variable {hues n : Nat} {wds : List WD} {A : Nat → Bool} {j : Nat}
theorem ib_off (ap : ApW hues n wds) (hj : j < wds.length) (nA : A j = false) {f : List Int} (hf : f ∈ fillL hues n) (φ : Int → Int) : ib (brkAt f wds j) * φ (cbA wds A f) = ib (brkAt f wds j) * φ (cbA wds (offA wds A j) f) := by
  cases b : brkAt f wds j with
  | false => show 0 * _ = 0 * _; rw [Int.zero_mul, Int.zero_mul]
  | true => rw [cb_off (fun i hi ne c => ap i j hi hj ne c f hf) nA b]
theorem kp_eq (R : WsR hues n wds) (ap : ApW hues n wds) (hj : j < wds.length) (nA : A j = false) : (hues : Int) ^ (plcs wds j).length * (kpS hues n wds A - kpS hues n wds (putA A j)) = ((wds[j]).2.length : Int) * kpS hues n wds (offA wds A j) := by
  have o := cb_outs (n := n) R hj A
  have k := fS_share R hj (φ := fun f => i0 (cbA wds (offA wds A j) f)) fun f hf r hr => congrArg i0 (o f hf r hr)
  unfold kpS
  rw [← k]
  congr 1
  rw [fS_sub]
  refine fS_congr fun f hf => ?_
  rw [cb_put hj nA, i0_pos _ cb_nonneg]
  exact ib_off ap hj nA hf i0
theorem on_eq (R : WsR hues n wds) (ap : ApW hues n wds) (hj : j < wds.length) (nA : A j = false) : (hues : Int) ^ (plcs wds j).length * (onS hues n wds (putA A j) - onS hues n wds A) = ((wds[j]).2.length : Int) * (kpS hues n wds (offA wds A j) - onS hues n wds (offA wds A j)) := by
  have o := cb_outs (n := n) R hj A
  have e : kpS hues n wds (offA wds A j) - onS hues n wds (offA wds A j) = fS hues n fun f => i0 (cbA wds (offA wds A j) f) - i1 (cbA wds (offA wds A j) f) := fS_sub _ _
  rw [e, ← fS_share R hj (φ := fun f => i0 (cbA wds (offA wds A j) f) - i1 (cbA wds (offA wds A j) f)) fun f hf r hr => congrArg (fun x => i0 x - i1 x) (o f hf r hr)]
  congr 1
  unfold onS
  rw [fS_sub]
  refine fS_congr fun f hf => ?_
  rw [cb_put hj nA, i1_pos _ cb_nonneg]
  exact ib_off ap hj nA hf fun x => i0 x - i1 x
/-- the first broken one -/
theorem first_brk {f : List Int} (hj : j < wds.length) (b : brkAt f wds j = true) (no : ∀ i, i < j → brkAt f wds i = false) : ∃ r, broL f wds wds.length = (j : Int) :: r := by
  unfold broL
  have e : List.range wds.length = List.range j ++ (j :: (List.range' (j + 1) (wds.length - j - 1))) := by
    rw [List.range_eq_range', List.range_eq_range', show wds.length = j + ((wds.length - j - 1) + 1) by omega, ← List.range'_append_1, List.range'_succ]
    simp
  rw [e, List.filter_append, List.filter_eq_nil_iff.mpr fun i hi => by rw [no i (List.mem_range.mp hi)]; exact Bool.false_ne_true, List.nil_append, List.filter_cons, if_pos b]
  exact ⟨_, rfl⟩
/-- the mean's equations, summed over those that keep A, where A has all ahead of wish j -/
theorem me_eq (h0 : 0 < hues) (R : WsR hues n wds) (ap : ApW hues n wds) (hj : j < wds.length) (nA : A j = false) (low : ∀ i, i < j → A i = true) {m : List Int → Int} {D : Int}
    (row : ∀ f ∈ fillL hues n, mendsL hues wds f ≠ [] → ((mendsL hues wds f).length : Int) * m f = ((mendsL hues wds f).length : Int) * D + ((mendsL hues wds f).map m).sum) :
    (hues : Int) ^ (plcs wds j).length * (meS hues n wds m A - meS hues n wds m (putA A j)) = ((wds[j]).2.length : Int) * (D * kpS hues n wds (offA wds A j) + meS hues n wds m (offA wds A j)) := by
  have o := cb_outs (n := n) R hj A
  have hp : ∀ p ∈ plcs wds j, 0 ≤ p ∧ p < (n : Int) := fun p z => R.pl _ (List.getElem_mem hj) p (by rw [← plcs_at hj]; exact z)
  have ndp : (plcs wds j).Nodup := by rw [plcs_at hj]; exact R.nd _ (List.getElem_mem hj)
  have wp : (0 : Int) < (hues : Int) ^ (plcs wds j).length := Int.pow_pos (by omega)
  -- what the redrawings of it have together
  have g := fS_share R hj (φ := fun f => i0 (cbA wds (offA wds A j) f) * fS hues (plcs wds j).length fun r => m (anewL f (plcs wds j) r)) fun f hf r hr => by
    dsimp only
    rw [o f hf r hr]
    congr 1
    refine fS_congr fun r' hr' => ?_
    rw [anew_twice (fill_good hr').1.symm (fill_good hr).1.symm ndp fun p z => by rw [(fill_good hf).1]; exact hp p z]
  have g2 : fS hues n (fun f => i0 (cbA wds (offA wds A j) f) * fS hues (plcs wds j).length fun r => m (anewL f (plcs wds j) r)) = (hues : Int) ^ (plcs wds j).length * meS hues n wds m (offA wds A j) := by
    unfold meS
    rw [← fS_anew hues n (plcs wds j).length (plcs wds j) (fun f => i0 (cbA wds (offA wds A j) f) * m f) rfl hp]
    refine fS_congr fun f hf => ?_
    rw [← fS_mul]
    refine fS_congr fun r hr => ?_
    rw [o f hf r hr]
  rw [g2, Int.mul_left_comm] at g
  have g := Int.eq_of_mul_eq_mul_left (Int.ne_of_gt wp) g
  have k := fS_share R hj (φ := fun f => i0 (cbA wds (offA wds A j) f)) fun f hf r hr => congrArg i0 (o f hf r hr)
  have e : (hues : Int) ^ (plcs wds j).length * (meS hues n wds m A - meS hues n wds m (putA A j)) = fS hues n fun f => D * ((hues : Int) ^ (plcs wds j).length * (ib (brkAt f wds j) * i0 (cbA wds (offA wds A j) f))) + ib (brkAt f wds j) * (i0 (cbA wds (offA wds A j) f) * fS hues (plcs wds j).length fun r => m (anewL f (plcs wds j) r)) := by
    unfold meS
    rw [fS_sub, ← fS_mul]
    refine fS_congr fun f hf => ?_
    rw [← Int.sub_mul, cb_put hj nA, i0_pos _ cb_nonneg, ib_off ap hj nA hf i0]
    cases b : brkAt f wds j with
    | false => show _ * (0 * _ * _) = D * (_ * (0 * _)) + 0 * _; simp only [Int.zero_mul, Int.mul_zero, Int.add_zero]
    | true =>
      rw [show ib true = 1 from rfl, Int.one_mul, Int.one_mul]
      by_cases c : cbA wds (offA wds A j) f = 0
      · have c2 := c
        rw [← cb_off (fun i hi ne c => ap i j hi hj ne c f hf) nA b] at c2
        obtain ⟨r, e⟩ := first_brk hj b fun i hi => cb_zero c2 (by omega) (low i hi)
        have me := mendsL_cons (hues := hues) e
        have ml : (mendsL hues wds f).length = hues ^ (plcs wds j).length := by rw [me, List.length_map, fill_len]
        have ne : mendsL hues wds f ≠ [] := fun z => by
          rw [z] at ml
          have := Nat.pow_pos (n := (plcs wds j).length) h0
          simp at ml
          omega
        have w := row f hf ne
        rw [ml, me, List.map_map] at w
        rw [c]
        have w' : (hues : Int) ^ (plcs wds j).length * m f = (hues : Int) ^ (plcs wds j).length * D + fS hues (plcs wds j).length fun r => m (anewL f (plcs wds j) r) := by
          rw [Int.natCast_pow] at w
          exact w
        rw [show i0 0 = 1 from rfl, Int.one_mul, Int.one_mul, Int.mul_one, w', Int.mul_comm D]
      · have z : i0 (cbA wds (offA wds A j) f) = 0 := if_neg c
        rw [z]
        simp only [Int.zero_mul, Int.mul_zero, Int.add_zero]
  rw [e, fS_add, fS_mul, fS_mul, g, k, Int.mul_add]
  unfold kpS
  rw [Int.mul_left_comm]
end
end Rd

set_option autoImplicit false
set_option Elab.async false
set_option linter.all false
set_option maxRecDepth 100000
set_option maxHeartbeats 4000000
/-! the same: the mean is how many break just one by how many break none -/
namespace Rd
open PySem PySem.Spec PyProof.Rows L2 Dt
/-- all ways to choose some of the first r -/
def allP : Nat → List (Nat → Bool)
  | 0 => [fun _ => false]
  | r + 1 => allP r ++ (allP r).map fun A i => if i = r then true else A i
theorem allP_has (A : Nat → Bool) : ∀ r : Nat, ∃ B ∈ allP r, ∀ i, i < r → A i = B i
  | 0 => ⟨_, List.mem_singleton.mpr rfl, fun i h => absurd h (Nat.not_lt_zero i)⟩
  | r + 1 => by
    obtain ⟨B, hB, e⟩ := allP_has A r
    have more : ∀ i, r ≤ i → B i = false := by
      have go : ∀ r : Nat, ∀ B ∈ allP r, ∀ i, r ≤ i → B i = false := by
        intro r
        induction r with
        | zero =>
          intro B hB i _
          rw [List.mem_singleton.mp hB]
        | succ r ih =>
          intro B hB i hi
          rcases List.mem_append.mp hB with h | h
          · exact ih B h i (by omega)
          · obtain ⟨C, hC, rfl⟩ := List.mem_map.mp h
            show (if i = r then true else C i) = false
            rw [if_neg (by omega)]
            exact ih C hC i (by omega)
      exact go r B hB
    cases a : A r with
    | false =>
      refine ⟨B, List.mem_append_left _ hB, fun i hi => ?_⟩
      by_cases c : i = r
      · rw [c, a, more r (Nat.le_refl r)]
      · exact e i (by omega)
    | true =>
      refine ⟨_, List.mem_append_right _ (List.mem_map.mpr ⟨B, hB, rfl⟩), fun i hi => ?_⟩
      show A i = if i = r then true else B i
      by_cases c : i = r
      · rw [if_pos c, c, a]
      · rw [if_neg c]
        exact e i (by omega)
theorem max_ofX {α : Type} (X K : α → Int) (Kp : ∀ a, 0 < K a) : ∀ (l : List α) (a0 : α), ∃ a ∈ a0 :: l, ∀ b ∈ a0 :: l, X b * K a ≤ X a * K b
  | [], a0 => ⟨a0, List.mem_cons_self, fun b hb => by rw [List.mem_singleton.mp hb]; exact Int.le_refl _⟩
  | x :: l, a0 => by
    obtain ⟨a, ha, h⟩ := max_ofX X K Kp l x
    by_cases c : X a0 * K a ≤ X a * K a0
    · refine ⟨a, List.mem_cons_of_mem _ ha, fun b hb => ?_⟩
      rcases List.mem_cons.mp hb with z | z
      · rw [z]; exact c
      · exact h b z
    · refine ⟨a0, List.mem_cons_self, fun b hb => ?_⟩
      rcases List.mem_cons.mp hb with z | z
      · rw [z]; exact Int.le_refl _
      · have p := h b z
        have c : X a * K a0 ≤ X a0 * K a := by omega
        have q1 := Int.mul_le_mul_of_nonneg_right p (Int.le_of_lt (Kp a0))
        have q2 := Int.mul_le_mul_of_nonneg_right c (Int.le_of_lt (Kp b))
        refine Int.le_of_mul_le_mul_right ?_ (Kp a)
        have e1 : X b * K a0 * K a = X b * K a * K a0 := Int.mul_right_comm _ _ _
        have e2 : X a * K b * K a0 = X a * K a0 * K b := Int.mul_right_comm _ _ _
        have e3 : X a0 * K b * K a = X a0 * K a * K b := Int.mul_right_comm _ _ _
        omega
/-- what has such equations is nowhere above what it is where all are in -/
theorem max_pr {r : Nat} {X K : (Nat → Bool) → Int} (ext : ∀ A B, (∀ i, i < r → A i = B i) → X A = X B ∧ K A = K B) (Kp : ∀ A, 0 < K A)
    (eq : ∀ A j, j < r → A j = false → (∀ i, i < j → A i = true) → ∃ (w s : Int) (A' : Nat → Bool), 0 < w ∧ 0 ≤ s ∧ w * (K A - K (putA A j)) = s * K A' ∧ w * (X A - X (putA A j)) = s * X A') (top : ∀ A, (∀ i, i < r → A i = true) → X A ≤ 0) (A : Nat → Bool) : X A ≤ 0 := by
  have up : ∀ t, t ≤ r → ∃ A, (∀ i, i < t → A i = true) ∧ ∀ B, X B * K A ≤ X A * K B := by
    intro t
    induction t with
    | zero =>
      intro _
      obtain ⟨a, _, h⟩ := max_ofX X K Kp (allP r) (fun _ => false)
      refine ⟨a, fun i z => absurd z (Nat.not_lt_zero i), fun B => ?_⟩
      obtain ⟨C, hC, e⟩ := allP_has B r
      obtain ⟨e1, e2⟩ := ext B C e
      rw [e1, e2]
      exact h C (List.mem_cons_of_mem _ hC)
    | succ t ih =>
      intro ht
      obtain ⟨A, low, h⟩ := ih (by omega)
      cases a : A t with
      | true =>
        refine ⟨A, fun i hi => ?_, h⟩
        by_cases c : i = t
        · rw [c, a]
        · exact low i (by omega)
      | false =>
        obtain ⟨w, s, A', w0, s0, e1, e2⟩ := eq A t (by omega) a low
        have hA := h A'
        have kp := Kp A
        have ge : X A * K (putA A t) ≤ X (putA A t) * K A := by
          refine Int.le_of_mul_le_mul_left ?_ w0
          have q := Int.mul_le_mul_of_nonneg_left hA s0
          have f1 : s * (X A' * K A) = w * (X A * K A) - w * (X (putA A t) * K A) := by
            rw [← Int.mul_assoc, ← e2, Int.mul_assoc, Int.sub_mul, Int.mul_sub]
          have f2 : s * (X A * K A') = w * (X A * K A) - w * (X A * K (putA A t)) := by
            rw [Int.mul_left_comm, ← e1, Int.mul_left_comm, Int.mul_sub, Int.mul_sub]
          omega
        refine ⟨putA A t, fun i hi => ?_, fun B => ?_⟩
        · unfold putA
          by_cases c : i = t
          · rw [if_pos c]
          · rw [if_neg c]; exact low i (by omega)
        · have q1 := Int.mul_le_mul_of_nonneg_right (h B) (Int.le_of_lt (Kp (putA A t)))
          have q2 := Int.mul_le_mul_of_nonneg_right ge (Int.le_of_lt (Kp B))
          refine Int.le_of_mul_le_mul_right ?_ kp
          have f1 : X B * K (putA A t) * K A = X B * K A * K (putA A t) := Int.mul_right_comm _ _ _
          have f2 : X A * K B * K (putA A t) = X A * K (putA A t) * K B := Int.mul_right_comm _ _ _
          have f3 : X (putA A t) * K B * K A = X (putA A t) * K A * K B := Int.mul_right_comm _ _ _
          omega
  obtain ⟨F, full, h⟩ := up r (Nat.le_refl r)
  have t := top F full
  have q := h A
  have z : X F * K A ≤ 0 := by
    have := Int.mul_le_mul_of_nonneg_right t (Int.le_of_lt (Kp A))
    omega
  refine Int.le_of_mul_le_mul_right (a := K F) ?_ (Kp F)
  rw [Int.zero_mul]
  exact Int.le_trans q z
section
variable {hues n : Nat} {wds : List WD}
def allA : Nat → Bool := fun _ => true
def noA : Nat → Bool := fun _ => false
theorem cb_no (f : List Int) : cbA wds noA f = 0 := by
  have e : cbA wds noA f = ((List.range wds.length).map fun _ => (0 : Int)).sum := sumMapC fun i _ => rfl
  rw [e, sumMapK, Int.mul_zero]
theorem kp_nonneg (A : Nat → Bool) : 0 ≤ kpS hues n wds A := sum_nn _ fun f _ => by unfold i0; split <;> decide
/-- the mean's sum by how many break just one, by how many break none -/
theorem mean_ex (h0 : 0 < hues) (R : WsR hues n wds) (ap : ApW hues n wds) {m : List Int → Int} {D : Int} (kept : ∀ f ∈ fillL hues n, mendsL hues wds f = [] → m f = 0)
    (row : ∀ f ∈ fillL hues n, mendsL hues wds f ≠ [] → ((mendsL hues wds f).length : Int) * m f = ((mendsL hues wds f).length : Int) * D + ((mendsL hues wds f).map m).sum) (some_ : 0 < kpS hues n wds allA) :
    kpS hues n wds allA * fS hues n m = D * (hues : Int) ^ n * onS hues n wds allA := by
  have cb_mono : ∀ (A : Nat → Bool) (f : List Int), cbA wds allA f = 0 → cbA wds A f = 0 := fun A f h => by
    have : cbA wds A f = cbA wds noA f := by
      unfold cbA
      refine sumMapC fun i hi => ?_
      rw [cb_zero h (List.mem_range.mp hi) rfl]
      cases A i <;> rfl
    rw [this]
    exact cb_no f
  have Kp : ∀ A, 0 < kpS hues n wds A := fun A => by
    have le : 0 ≤ kpS hues n wds A - kpS hues n wds allA := by
      unfold kpS
      rw [fS_sub]
      refine sum_nn _ fun f _ => ?_
      unfold i0
      by_cases c : cbA wds allA f = 0
      · rw [if_pos c, if_pos (cb_mono A f c)]; decide
      · rw [if_neg c]; split <;> decide
    omega
  have cong : ∀ A B, (∀ i, i < wds.length → A i = B i) → ∀ f, cbA wds A f = cbA wds B f := fun A B h f => cb_ext h
  have e0 : kpS hues n wds noA = (hues : Int) ^ n := by
    unfold kpS fS
    rw [sumMapC (g := fun _ => (1 : Int)) fun f _ => by
      rw [cb_no f]; rfl, sumMapK, fill_len, Int.mul_one, Int.natCast_pow]
  have o0 : onS hues n wds noA = 0 := by
    unfold onS fS
    rw [sumMapC (g := fun _ => (0 : Int)) fun f _ => by
      rw [cb_no f]; rfl, sumMapK, Int.mul_zero]
  have m0 : meS hues n wds m noA = fS hues n m := by
    unfold meS
    refine fS_congr fun f _ => ?_
    rw [cb_no f]
    exact Int.one_mul _
  have mt : ∀ A, (∀ i, i < wds.length → A i = true) → meS hues n wds m A = 0 := fun A h => by
    unfold meS fS
    rw [sumMapC (g := fun _ => (0 : Int)) fun f hf => by
      by_cases c : cbA wds A f = 0
      · rw [cb_all h] at c
        have : broL f wds wds.length = [] := List.length_eq_zero_iff.mp (by omega)
        rw [kept f hf (mendsL_nil this), Int.mul_zero]
      · rw [show i0 (cbA wds A f) = 0 from if_neg c, Int.zero_mul], sumMapK, Int.mul_zero]
  have key : ∀ c : Int, c * (kpS hues n wds allA * meS hues n wds m noA - D * (kpS hues n wds noA * onS hues n wds allA - kpS hues n wds allA * onS hues n wds noA)) ≤ 0 := fun c => by
    refine max_pr (r := wds.length) (X := fun A => c * (kpS hues n wds allA * meS hues n wds m A - D * (kpS hues n wds A * onS hues n wds allA - kpS hues n wds allA * onS hues n wds A))) (K := kpS hues n wds) (fun A B h => ?_) Kp (fun A j hj nA low => ?_) (fun A h => ?_) noA
    · have z := cong A B h
      have z1 : kpS hues n wds A = kpS hues n wds B := fS_congr fun f _ => by rw [z f]
      have z2 : meS hues n wds m A = meS hues n wds m B := fS_congr fun f _ => by rw [z f]
      have z3 : onS hues n wds A = onS hues n wds B := fS_congr fun f _ => by rw [z f]
      rw [z1, z2, z3]
      exact ⟨rfl, rfl⟩
    · have k := kp_eq R ap hj nA
      have o := on_eq R ap hj nA
      have u := me_eq h0 R ap hj nA low row
      refine ⟨(hues : Int) ^ (plcs wds j).length, ((wds[j]).2.length : Int), offA wds A j, Int.pow_pos (by omega), Int.natCast_nonneg _, k, ?_⟩
      generalize (hues : Int) ^ (plcs wds j).length = w at k o u
      generalize ((wds[j]).2.length : Int) = s at k o u
      generalize kpS hues n wds allA = KK
      generalize onS hues n wds allA = QQ
      generalize kpS hues n wds A = k1 at k o u
      generalize kpS hues n wds (putA A j) = k2 at k o u
      generalize kpS hues n wds (offA wds A j) = k3 at k o u
      generalize onS hues n wds A = o1 at k o u
      generalize onS hues n wds (putA A j) = o2 at k o u
      generalize onS hues n wds (offA wds A j) = o3 at k o u
      generalize meS hues n wds m A = u1 at k o u
      generalize meS hues n wds m (putA A j) = u2 at k o u
      generalize meS hues n wds m (offA wds A j) = u3 at k o u
      have a : w * (c * (KK * u1 - D * (k1 * QQ - KK * o1)) - c * (KK * u2 - D * (k2 * QQ - KK * o2))) = c * (KK * (w * (u1 - u2)) - D * ((w * (k1 - k2)) * QQ + KK * (w * (o2 - o1)))) := by grind
      rw [a, k, o, u]
      grind
    · have z := cong A allA fun i hi => h i hi
      have z1 : kpS hues n wds A = kpS hues n wds allA := fS_congr fun f _ => by rw [z f]
      have z3 : onS hues n wds A = onS hues n wds allA := fS_congr fun f _ => by rw [z f]
      rw [mt A h, z1, z3, Int.mul_zero, Int.sub_self, Int.mul_zero, Int.sub_self, Int.mul_zero]
      exact Int.le_refl 0
  have a := key 1
  have b := key (-1)
  rw [e0, o0, m0, Int.mul_zero, Int.sub_zero] at a b
  rw [Int.mul_assoc]
  omega
end
end Rd

set_option autoImplicit false
set_option Elab.async false
set_option linter.all false
set_option maxRecDepth 100000
set_option maxHeartbeats 4000000
/-! the same: counts, and wishes in another order -/
namespace Rd
open PySem PySem.Spec PyProof.Rows L2 Dt
theorem bumpX_get (ns : List Int) (i k : Nat) (hk : k < ns.length) : (Dt.bump ns i).getD k 0 = ns.getD k 0 + (if i = k then 1 else 0) := by
  unfold Dt.bump
  by_cases e : i = k
  · subst e
    rw [if_pos rfl, List.getD_eq_getElem?_getD, List.getElem?_set_self hk]
    rfl
  · rw [if_neg e, List.getD_eq_getElem?_getD, List.getElem?_set_ne e, ← List.getD_eq_getElem?_getD]
    omega
theorem cntX_gets (wds : List WD) {k : Nat} (hk : k < wds.length + 1) : ∀ (fss : List (List Int)) (ns : List Int), ns.length = wds.length + 1 → (fss.foldl (fun ns f => Dt.bump ns (broL f wds wds.length).length) ns).getD k 0 = ns.getD k 0 + (fss.map fun f => if (broL f wds wds.length).length = k then (1 : Int) else 0).sum
  | [], ns, _ => by simp
  | f :: r, ns, hl => by
    rw [List.foldl_cons, cntX_gets wds hk r _ (by rw [bump_len]; exact hl), bumpX_get ns _ k (by omega), List.map_cons, List.sum_cons]
    omega
theorem cntX_at (wds : List WD) {k : Nat} (hk : k < wds.length + 1) (fss : List (List Int)) : (cntL wds fss)[k]? = some ((fss.map fun f => if (broL f wds wds.length).length = k then (1 : Int) else 0).sum) := by
  have z := cntX_gets wds hk fss (cnt0 wds) (by simp [cnt0])
  have z0 : (cnt0 wds).getD k 0 = 0 := by
    rw [cnt0, List.getD_eq_getElem?_getD, List.getElem?_replicate_of_lt hk]
    rfl
  have hl : k < (cntL wds fss).length := by rw [cnt_len]; exact hk
  rw [z0, Int.zero_add] at z
  have z : (cntL wds fss).getD k 0 = _ := z
  rw [List.getD_eq_getElem?_getD, List.getElem?_eq_getElem hl] at z
  rw [List.getElem?_eq_getElem hl]
  exact congrArg some z
section
variable {hues n : Nat} {wds : List WD}
theorem cnt_none0 : (cntL wds (fillL hues n))[0]? = some (kpS hues n wds allA) := by
  rw [cntX_at wds (by omega)]
  congr 1
  unfold kpS fS
  refine sumMapC fun f _ => ?_
  rw [cb_all (A := allA) fun _ _ => rfl]
  unfold i0
  by_cases c : (broL f wds wds.length).length = 0
  · rw [if_pos c, if_pos (by omega)]
  · rw [if_neg c, if_neg (by omega)]
theorem cnt_one1 (ne : wds ≠ []) : (cntL wds (fillL hues n))[1]? = some (onS hues n wds allA) := by
  have := List.length_pos_iff.mpr ne
  rw [cntX_at wds (by omega)]
  congr 1
  unfold onS fS
  refine sumMapC fun f _ => ?_
  rw [cb_all (A := allA) fun _ _ => rfl]
  unfold i1
  by_cases c : (broL f wds wds.length).length = 1
  · rw [if_pos c, if_pos (by omega)]
  · rw [if_neg c, if_neg (by omega)]
theorem on_nil : onS hues n [] allA = 0 := by
  have e : onS hues n [] allA = ((fillL hues n).map fun _ => (0 : Int)).sum := sumMapC fun f _ => rfl
  rw [e, sumMapK, Int.mul_zero]
/-- two wishes that clash are never broken at once -/
def Rw (hues n : Nat) (a b : WD) : Prop := clB a b = true → ∀ f ∈ fillL hues n, ¬ (brk f a = true ∧ brk f b = true)
theorem Rw.symm {a b : WD} (h : Rw hues n a b) : Rw hues n b a := fun c f hf z => h (by rw [clB_comm]; exact c) f hf ⟨z.2, z.1⟩
theorem clash_cl {i j : Nat} (hi : i < wds.length) (hj : j < wds.length) : clashB wds i j = clB wds[i] wds[j] := by
  unfold clashB clB
  rw [plcs_at hi, plcs_at hj]
theorem apW_iff : ApW hues n wds ↔ wds.Pairwise (Rw hues n) := by
  rw [List.pairwise_iff_getElem]
  constructor
  · intro h i j hi hj lt c f hf z
    exact h i j hi hj (by omega) (by rw [clash_cl hi hj]; exact c) f hf ⟨by rw [brkAt_at hi]; exact z.1, by rw [brkAt_at hj]; exact z.2⟩
  · intro h i j hi hj ne c f hf z
    rw [brkAt_at hi, brkAt_at hj] at z
    rw [clash_cl hi hj] at c
    by_cases lt : i < j
    · exact h i j hi hj lt c f hf z
    · exact (h j i hj hi (by omega)).symm c f hf z
theorem apW_perm {wds' : List WD} (p : wds.Perm wds') (h : ApW hues n wds) : ApW hues n wds' := by
  rw [apW_iff] at h ⊢
  exact (p.pairwise_iff Rw.symm).mp h
theorem apW_nil : ApW hues n [] := fun i j hi => absurd hi (Nat.not_lt_zero i)
end
end Rd

set_option autoImplicit false
set_option Elab.async false
set_option linter.all false
/-! sets of wishes as sublists, sums over them; layers of wishes without clashes -/
namespace Lw
abbrev V (σ : Type) := σ → Rat
def sm {α : Type} (l : List α) (g : α → Rat) : Rat := l.foldr (fun x s => g x + s) 0
section
variable {α β : Type}
@[simp] theorem sm_nil (g : α → Rat) : sm [] g = 0 := rfl
@[simp] theorem sm_cons (x : α) (l : List α) (g : α → Rat) : sm (x :: l) g = g x + sm l g := rfl
theorem sm_app (l m : List α) (g : α → Rat) : sm (l ++ m) g = sm l g + sm m g := by
  induction l with
  | nil => simp [Rat.zero_add]
  | cons x l ih => rw [List.cons_append, sm_cons, sm_cons, ih]; grind
theorem sm_map (f : β → α) (l : List β) (g : α → Rat) : sm (l.map f) g = sm l fun x => g (f x) := by
  induction l with
  | nil => rfl
  | cons x l ih => rw [List.map_cons, sm_cons, sm_cons, ih]
theorem sm_add (l : List α) (g h : α → Rat) : (sm l fun x => g x + h x) = sm l g + sm l h := by
  induction l with
  | nil => simp [Rat.zero_add]
  | cons x l ih => simp only [sm_cons]; rw [ih]; grind
theorem sm_sub (l : List α) (g h : α → Rat) : (sm l fun x => g x - h x) = sm l g - sm l h := by
  induction l with
  | nil => simp; grind
  | cons x l ih => simp only [sm_cons]; rw [ih]; grind
theorem sm_mul (c : Rat) (l : List α) (g : α → Rat) : (sm l fun x => c * g x) = c * sm l g := by
  induction l with
  | nil => simp
  | cons x l ih => simp only [sm_cons]; rw [ih]; grind
theorem sm_congr {l : List α} {g h : α → Rat} (e : ∀ x ∈ l, g x = h x) : sm l g = sm l h := by
  induction l with
  | nil => rfl
  | cons x l ih => rw [sm_cons, sm_cons, e x List.mem_cons_self, ih fun y hy => e y (List.mem_cons_of_mem _ hy)]
theorem sm_le {l : List α} {g h : α → Rat} (e : ∀ x ∈ l, g x ≤ h x) : sm l g ≤ sm l h := by
  induction l with
  | nil => simp
  | cons x l ih =>
    have a := e x List.mem_cons_self
    have b := ih fun y hy => e y (List.mem_cons_of_mem _ hy)
    rw [sm_cons, sm_cons]
    grind
theorem sm_zero (l : List α) : (sm l fun _ => (0 : Rat)) = 0 := by
  induction l with
  | nil => rfl
  | cons x l ih => rw [sm_cons, ih]; grind
theorem sm_nn {l : List α} {g : α → Rat} (e : ∀ x ∈ l, 0 ≤ g x) : 0 ≤ sm l g := by
  have := sm_le e
  rwa [sm_zero] at this
theorem sm_swap (l : List α) (m : List β) (g : α → β → Rat) : (sm l fun x => sm m fun y => g x y) = sm m fun y => sm l fun x => g x y := by
  induction l with
  | nil => simp [sm_zero]
  | cons x l ih => simp only [sm_cons]; rw [ih, sm_add]
theorem sm_one {l : List α} {g : α → Rat} {x : α} (h : x ∈ l) (e : ∀ y ∈ l, 0 ≤ g y) : g x ≤ sm l g := by
  induction l with
  | nil => cases h
  | cons y l ih =>
    rw [sm_cons]
    have a := e y List.mem_cons_self
    have b := sm_nn fun z hz => e z (List.mem_cons_of_mem y hz)
    rcases List.mem_cons.mp h with rfl | h
    · grind
    · have := ih h fun z hz => e z (List.mem_cons_of_mem _ hz)
      grind
end
def subs : List Nat → List (List Nat)
  | [] => [[]]
  | x :: l => subs l ++ (subs l).map (x :: ·)
theorem sub_cons (x : Nat) (l : List Nat) (g : List Nat → Rat) : sm (subs (x :: l)) g = sm (subs l) g + sm (subs l) fun I => g (x :: I) := by
  rw [subs, sm_app, sm_map]
def PInv (g : List Nat → Rat) : Prop := ∀ I J : List Nat, I.Perm J → g I = g J
theorem PInv.cons {g : List Nat → Rat} (h : PInv g) (x : Nat) : PInv fun I => g (x :: I) := fun I J p => h _ _ (p.cons x)
theorem sub_perm {l m : List Nat} (p : l.Perm m) : ∀ {g : List Nat → Rat}, PInv g → sm (subs l) g = sm (subs m) g := by
  induction p with
  | nil => exact fun _ => rfl
  | cons x _ ih => exact fun h => by rw [sub_cons, sub_cons, ih h, ih (h.cons x)]
  | swap x y l =>
    intro g h
    have e : (sm (subs l) fun I => g (y :: x :: I)) = sm (subs l) fun I => g (x :: y :: I) := sm_congr fun I _ => h _ _ (List.Perm.swap _ _ _)
    simp only [sub_cons]
    rw [e]
    generalize sm (subs l) g = a
    generalize (sm (subs l) fun I => g (x :: I)) = b
    generalize (sm (subs l) fun I => g (y :: I)) = c
    generalize (sm (subs l) fun I => g (x :: y :: I)) = d
    clear e h
    grind
  | trans _ _ a b => exact fun h => (a h).trans (b h)
theorem sub_mem {l I : List Nat} (h : I ∈ subs l) : I.Sublist l := by
  induction l generalizing I with
  | nil => rw [List.mem_singleton.mp h]; exact List.Sublist.refl _
  | cons x l ih =>
    rcases List.mem_append.mp h with h | h
    · exact (ih h).cons _
    · obtain ⟨J, hJ, rfl⟩ := List.mem_map.mp h
      exact (ih hJ).cons_cons _
theorem sub_one {l : List Nat} {i : Nat} (h : i ∈ l) : [i] ∈ subs l := by
  have nil : ∀ l, [] ∈ subs l := fun l => by
    induction l with
    | nil => exact List.mem_singleton.mpr rfl
    | cons x l ih => exact List.mem_append_left _ ih
  induction l with
  | nil => cases h
  | cons x l ih =>
    rcases List.mem_cons.mp h with rfl | h
    · exact List.mem_append_right _ (List.mem_map.mpr ⟨[], nil l, rfl⟩)
    · exact List.mem_append_left _ (ih h)
theorem sub_nil (c : Rat) (l : List Nat) : (sm (subs l) fun I => if I = [] then c else 0) = c := by
  induction l with
  | nil => simp [subs]; grind
  | cons x l ih =>
    rw [sub_cons, ih]
    have : (sm (subs l) fun I => if x :: I = [] then c else 0) = 0 := by
      rw [sm_congr (h := fun _ => 0) fun I _ => if_neg (by simp), sm_zero]
    rw [this]
    grind
/-- the operators -/
structure Ops {σ : Type} (A : Nat → V σ → V σ) (cl : Nat → Nat → Bool) (L : List Nat) : Prop where
  add : ∀ i g h, A i (fun f => g f + h f) = fun f => A i g f + A i h f
  mono : ∀ i g h, (∀ f, g f ≤ h f) → ∀ f, A i g f ≤ A i h f
  comm : ∀ i j g, cl i j = false → A i (A j g) = A j (A i g)
  one : ∀ i f, A i (fun _ => 1) f ≤ 1
  nd : L.Nodup
  self : ∀ i, cl i i = true
  sym : ∀ i j, cl i j = cl j i
open Classical
section
variable {σ : Type} {A : Nat → V σ → V σ} {cl : Nat → Nat → Bool} {L : List Nat}
def AL (A : Nat → V σ → V σ) (I : List Nat) (g : V σ) : V σ := I.foldr A g
/-- i clashes one of I -/
def hit (cl : Nat → Nat → Bool) (i : Nat) (I : List Nat) : Bool := I.any fun j => cl i j
def ind (cl : Nat → Nat → Bool) (I : List Nat) : Prop := I.Pairwise fun i j => cl i j = false
def ok0 (cl : Nat → Nat → Bool) (I : List Nat) : Prop := I ≠ [] ∧ ind cl I
def ok (cl : Nat → Nat → Bool) (J I : List Nat) : Prop := ok0 cl I ∧ ∀ j ∈ J, hit cl j I = true
noncomputable def H (A : Nat → V σ → V σ) (cl : Nat → Nat → Bool) (L : List Nat) : Nat → List Nat → V σ
  | 0, J => fun _ => if J.length = 1 then 1 else 0
  | d + 1, J => fun f => sm (subs L) fun I => if ok cl J I then AL A I (H A cl L d I) f else 0
theorem Ops.zero (O : Ops A cl L) (i : Nat) : A i (fun _ => 0) = fun _ => 0 := by
  have e := O.add i (fun _ => 0) (fun _ => 0)
  funext f
  have e := congrFun e f
  rw [show (fun f : σ => (0 : Rat) + 0) = fun _ => 0 from funext fun _ => by grind] at e
  grind
theorem Ops.sum (O : Ops A cl L) {α : Type} (i : Nat) (l : List α) (g : α → V σ) : A i (fun f => sm l fun x => g x f) = fun f => sm l fun x => A i (g x) f := by
  induction l with
  | nil => exact O.zero i
  | cons x l ih =>
    have e := O.add i (g x) fun f => sm l fun x => g x f
    rw [ih] at e
    exact e
theorem Ops.nn (O : Ops A cl L) (i : Nat) {g : V σ} (h : ∀ f, 0 ≤ g f) (f : σ) : 0 ≤ A i g f := by
  have z := O.mono i (fun _ => 0) g h f
  rwa [O.zero] at z
theorem Ops.addL (O : Ops A cl L) (I : List Nat) (g h : V σ) : AL A I (fun f => g f + h f) = fun f => AL A I g f + AL A I h f := by
  induction I with
  | nil => rfl
  | cons i I ih =>
    show A i (AL A I _) = _
    rw [ih]
    exact O.add i _ _
theorem Ops.monoL (O : Ops A cl L) (I : List Nat) {g h : V σ} (e : ∀ f, g f ≤ h f) : ∀ f, AL A I g f ≤ AL A I h f := by
  induction I with
  | nil => exact e
  | cons i I ih => exact O.mono i _ _ ih
theorem Ops.nnL (O : Ops A cl L) (I : List Nat) {g : V σ} (h : ∀ f, 0 ≤ g f) : ∀ f, 0 ≤ AL A I g f := by
  induction I with
  | nil => exact h
  | cons i I ih => exact O.nn i ih
theorem Ops.past (O : Ops A cl L) {i : Nat} {I : List Nat} (h : hit cl i I = false) (g : V σ) : A i (AL A I g) = AL A I (A i g) := by
  induction I with
  | nil => rfl
  | cons j I ih =>
    unfold hit at h
    rw [List.any_cons, Bool.or_eq_false_iff] at h
    show A i (A j (AL A I g)) = A j (AL A I (A i g))
    rw [O.comm i j _ h.1, ih h.2]
theorem ind_perm (O : Ops A cl L) {I J : List Nat} (p : I.Perm J) : ind cl I ↔ ind cl J := p.pairwise_iff fun {a b} e => by rw [O.sym]; exact e
theorem Ops.permL (O : Ops A cl L) {I J : List Nat} (p : I.Perm J) : ind cl I → ∀ g, AL A I g = AL A J g := by
  induction p with
  | nil => exact fun _ _ => rfl
  | cons x _ ih =>
    intro h g
    exact congrArg (A x) (ih (List.pairwise_cons.mp h).2 g)
  | swap x y l =>
    intro h g
    obtain ⟨a, b⟩ := List.pairwise_cons.mp h
    exact O.comm y x _ (a x List.mem_cons_self)
  | trans p q a b => exact fun h g => (a h g).trans (b ((ind_perm O p).mp h) g)
theorem hit_perm {i : Nat} {I J : List Nat} (p : I.Perm J) : hit cl i I = hit cl i J := by
  unfold hit
  rw [Bool.eq_iff_iff, List.any_eq_true, List.any_eq_true]
  exact ⟨fun ⟨x, a, b⟩ => ⟨x, p.mem_iff.mp a, b⟩, fun ⟨x, a, b⟩ => ⟨x, p.mem_iff.mpr a, b⟩⟩
theorem ok0_perm (O : Ops A cl L) {I I' : List Nat} (p : I.Perm I') : ok0 cl I ↔ ok0 cl I' := by
  unfold ok0
  rw [ind_perm O p]
  refine and_congr_left fun _ => ⟨fun n z => n ?_, fun n z => n ?_⟩
  · rw [z] at p; exact p.eq_nil
  · rw [z] at p; exact p.symm.eq_nil
theorem ok_perm (O : Ops A cl L) {J I I' : List Nat} (p : I.Perm I') : ok cl J I ↔ ok cl J I' := by
  unfold ok
  rw [ok0_perm O p]
  refine and_congr_right fun _ => ?_
  constructor
  · intro h j hj
    rw [← hit_perm p]
    exact h j hj
  · intro h j hj
    rw [hit_perm p]
    exact h j hj
theorem H_perm (O : Ops A cl L) {J J' : List Nat} (p : J.Perm J') : ∀ d, H A cl L d J = H A cl L d J'
  | 0 => by unfold H; rw [p.length_eq]
  | d + 1 => by
    unfold H
    funext f
    refine sm_congr fun I _ => ?_
    have e : ok cl J I ↔ ok cl J' I := and_congr_right fun _ => ⟨fun h j hj => h j (p.mem_iff.mpr hj), fun h j hj => h j (p.mem_iff.mp hj)⟩
    by_cases c : ok cl J I
    · rw [if_pos c, if_pos (e.mp c)]
    · rw [if_neg c, if_neg fun z => c (e.mpr z)]
theorem H_nn (O : Ops A cl L) : ∀ d J f, 0 ≤ H A cl L d J f
  | 0, J, f => by unfold H; split <;> decide
  | d + 1, J, f => by
    unfold H
    refine sm_nn fun I _ => ?_
    split
    · exact O.nnL I (H_nn O d I) f
    · exact Rat.le_refl
/-- the term of one set -/
noncomputable def T (A : Nat → V σ → V σ) (cl : Nat → Nat → Bool) (L : List Nat) (d : Nat) (J I : List Nat) : V σ := fun f => if ok cl J I then AL A I (H A cl L d I) f else 0
theorem T_nn (O : Ops A cl L) (d : Nat) (J I : List Nat) (f : σ) : 0 ≤ T A cl L d J I f := by
  unfold T
  split
  · exact O.nnL I (H_nn O d I) f
  · exact Rat.le_refl
theorem T_inv (O : Ops A cl L) (d : Nat) (J : List Nat) (f : σ) : PInv fun I => T A cl L d J I f := fun I I' p => by
  unfold T
  dsimp only
  by_cases c : ok cl J I
  · rw [if_pos c, if_pos ((ok_perm O p).mp c), O.permL p c.1.2, H_perm O p]
  · rw [if_neg c, if_neg fun z => c ((ok_perm O p).mpr z)]
theorem H_T (d : Nat) (J : List Nat) : H A cl L (d + 1) J = fun f => sm (subs L) fun I => T A cl L d J I f := rfl
/-- one set, i put in or not -/
theorem T_step (O : Ops A cl L) {d i : Nat} (cla : ∀ I, hit cl i I = false → ∀ f, A i (H A cl L d I) f ≤ A i (H A cl L d (i :: I)) f + H A cl L d I f) {J I : List Nat} (n : hit cl i I = false) (f : σ) : A i (T A cl L d J I) f ≤ T A cl L d J I f + T A cl L d J (i :: I) f := by
  by_cases c : ok cl J I
  · have c2 : ok cl J (i :: I) := by
      refine ⟨⟨List.cons_ne_nil _ _, List.pairwise_cons.mpr ⟨fun j hj => ?_, c.1.2⟩⟩, fun j hj => ?_⟩
      · unfold hit at n
        rw [List.any_eq_false] at n
        simpa using n j hj
      · unfold hit
        rw [List.any_cons, Bool.or_eq_true]
        exact .inr (c.2 j hj)
    have e1 : T A cl L d J I = AL A I (H A cl L d I) := funext fun f => if_pos c
    have e2 : T A cl L d J (i :: I) = AL A (i :: I) (H A cl L d (i :: I)) := funext fun f => if_pos c2
    rw [e1, e2, O.past n]
    have m := O.monoL I (cla I n) f
    rw [O.addL] at m
    have e3 : AL A (i :: I) (H A cl L d (i :: I)) = AL A I (A i (H A cl L d (i :: I))) := O.past n _
    rw [e3]
    grind
  · have e1 : T A cl L d J I = fun _ => 0 := funext fun f => if_neg c
    have z := T_nn O d J (i :: I) f
    rw [e1, O.zero]
    grind
theorem T_hit (d : Nat) {i : Nat} {J I : List Nat} : T A cl L d (i :: J) I = if hit cl i I = true then T A cl L d J I else fun _ => 0 := by
  funext f
  unfold T
  by_cases h : hit cl i I = true
  · rw [if_pos h]
    have e : ok cl (i :: J) I ↔ ok cl J I := and_congr_right fun _ => by
      constructor
      · exact fun z j hj => z j (List.mem_cons_of_mem _ hj)
      · intro z j hj
        rcases List.mem_cons.mp hj with rfl | hj
        · exact h
        · exact z j hj
    by_cases c : ok cl J I
    · rw [if_pos c, if_pos (e.mpr c)]
    · rw [if_neg c, if_neg fun z => c (e.mp z)]
  · rw [if_neg h, if_neg fun z => h (z.2 i List.mem_cons_self)]
/-- the sets without i and those with it -/
theorem split_at (O : Ops A cl L) {i : Nat} (hi : i ∈ L) {g : List Nat → Rat} (h : PInv g) : sm (subs L) g = sm (subs (L.erase i)) g + sm (subs (L.erase i)) fun I => g (i :: I) := by
  rw [sub_perm (List.perm_cons_erase hi) h, sub_cons]
theorem AT_inv (O : Ops A cl L) (i d : Nat) (J : List Nat) (f : σ) : PInv fun I => A i (T A cl L d J I) f := fun I I' p => by
  have e : T A cl L d J I = T A cl L d J I' := funext fun f => T_inv O d J f I I' p
  show A i _ f = A i _ f
  rw [e]
theorem hit_self (O : Ops A cl L) (i : Nat) (I : List Nat) : hit cl i (i :: I) = true := by
  unfold hit
  rw [List.any_cons, O.self]
  rfl
theorem rest_step (O : Ops A cl L) {d i : Nat} (hi : i ∈ L) (cla : ∀ I f, A i (H A cl L d I) f ≤ A i (H A cl L d (i :: I)) f + H A cl L d I f) (J : List Nat) (f : σ) :
    A i (H A cl L (d + 1) J) f + T A cl L d J [i] f ≤ A i (H A cl L (d + 1) (i :: J)) f + H A cl L (d + 1) J f := by
  rw [H_T, H_T, O.sum, O.sum]
  dsimp only
  rw [split_at O hi (AT_inv O i d J f), split_at O hi (AT_inv O i d (i :: J) f), split_at O hi (T_inv O d J f)]
  have e : (sm (subs (L.erase i)) fun I => A i (T A cl L d (i :: J) (i :: I)) f) = sm (subs (L.erase i)) fun I => A i (T A cl L d J (i :: I)) f := sm_congr fun I _ => by
    rw [T_hit, if_pos (hit_self O i I)]
  have le : (sm (subs (L.erase i)) fun I => A i (T A cl L d J I) f + if I = [] then T A cl L d J [i] f else 0) ≤ sm (subs (L.erase i)) fun I => A i (T A cl L d (i :: J) I) f + (T A cl L d J I f + T A cl L d J (i :: I) f) := by
    refine sm_le fun I _ => ?_
    by_cases c : I = []
    · subst c
      have z : ∀ J, T A cl L d J [] = fun _ => 0 := fun J => funext fun f => if_neg fun y => y.1.1 rfl
      rw [if_pos rfl, z, z, O.zero]
      grind
    · rw [if_neg c, T_hit]
      by_cases h : hit cl i I = true
      · rw [if_pos h]
        have a := T_nn O d J I f
        have b := T_nn O d J (i :: I) f
        grind
      · rw [if_neg h, O.zero]
        have := T_step O (fun I _ => cla I) (J := J) (Bool.eq_false_iff.mpr h) f
        grind
  rw [sm_add, sub_nil, sm_add, sm_add] at le
  rw [e]
  grind
theorem claim (O : Ops A cl L) {i : Nat} (hi : i ∈ L) : ∀ d J f, A i (H A cl L d J) f ≤ A i (H A cl L d (i :: J)) f + H A cl L d J f
  | 0, J, f => by
    have n := O.nn i (fun f => H_nn O 0 (i :: J) f) f
    have o := O.one i f
    have le : A i (H A cl L 0 J) f ≤ H A cl L 0 J f := by
      unfold H
      split
      · exact o
      · rw [O.zero]
        exact Rat.le_refl
    grind
  | d + 1, J, f => by
    have a := rest_step O hi (claim O hi d) J f
    have b := T_nn O d J [i] f
    grind
/-- so much is mended at most -/
noncomputable def Ph (A : Nat → V σ → V σ) (cl : Nat → Nat → Bool) (L : List Nat) : Nat → V σ
  | 0 => fun _ => 0
  | n + 1 => fun f => Ph A cl L n f + H A cl L (n + 1) [] f
theorem T_self (O : Ops A cl L) (d i : Nat) : T A cl L d [] [i] = A i (H A cl L d [i]) := funext fun f => if_pos ⟨⟨List.cons_ne_nil _ _, List.pairwise_singleton _ _⟩, fun _ h => nomatch h⟩
theorem Ph_step (O : Ops A cl L) {i : Nat} (hi : i ∈ L) (f : σ) : ∀ n, A i (Ph A cl L n) f + T A cl L 0 [] [i] f ≤ Ph A cl L n f + T A cl L n [] [i] f
  | 0 => by
    unfold Ph
    rw [O.zero]
    grind
  | n + 1 => by
    have ih := Ph_step O hi f n
    have a := rest_step O hi (claim O hi n) [] f
    have e := congrFun (T_self O (n + 1) i) f
    have e2 := congrFun (O.add i (Ph A cl L n) (H A cl L (n + 1) [])) f
    show A i (fun f => Ph A cl L n f + H A cl L (n + 1) [] f) f + _ ≤ Ph A cl L n f + H A cl L (n + 1) [] f + _
    rw [e2, e]
    grind
theorem Ph_next (O : Ops A cl L) {i : Nat} (hi : i ∈ L) (n : Nat) (f : σ) : A i (fun f => 1 + Ph A cl L n f) f ≤ Ph A cl L (n + 1) f := by
  have a := Ph_step O hi f n
  have e := congrFun (O.add i (fun _ => 1) (Ph A cl L n)) f
  have t0 : T A cl L 0 [] [i] f = A i (fun _ => 1) f := by
    rw [T_self O]
    unfold H
    rfl
  have t1 : T A cl L n [] [i] f ≤ H A cl L (n + 1) [] f := by
    rw [H_T]
    exact sm_one (g := fun I => T A cl L n [] I f) (sub_one hi) fun I _ => T_nn O n [] I f
  rw [e]
  show _ ≤ Ph A cl L n f + H A cl L (n + 1) [] f
  grind
theorem Ph_nn (O : Ops A cl L) (f : σ) : ∀ n, 0 ≤ Ph A cl L n f
  | 0 => Rat.le_refl
  | n + 1 => by
    have a := Ph_nn O f n
    have b := H_nn O (n + 1) [] f
    show 0 ≤ Ph A cl L n f + H A cl L (n + 1) [] f
    grind
theorem Ph_mono (O : Ops A cl L) (f : σ) (n : Nat) : Ph A cl L n f ≤ Ph A cl L (n + 1) f := by
  have b := H_nn O (n + 1) [] f
  show _ ≤ Ph A cl L n f + H A cl L (n + 1) [] f
  grind
end
end Lw

set_option autoImplicit false
set_option Elab.async false
set_option linter.all false
/-! what these come to on average -/
namespace Lw
open Classical
def pr {α : Type} (l : List α) (g : α → Rat) : Rat := l.foldr (fun x s => g x * s) 1
section
variable {α : Type}
@[simp] theorem pr_nil (g : α → Rat) : pr [] g = 1 := rfl
@[simp] theorem pr_cons (x : α) (l : List α) (g : α → Rat) : pr (x :: l) g = g x * pr l g := rfl
theorem pr_nn {l : List α} {g : α → Rat} (h : ∀ x ∈ l, 0 ≤ g x) : 0 ≤ pr l g := by
  induction l with
  | nil => show (0 : Rat) ≤ 1; decide
  | cons x l ih => exact Rat.mul_nonneg (h x List.mem_cons_self) (ih fun y hy => h y (List.mem_cons_of_mem _ hy))
theorem mul_le {a b c d : Rat} (a0 : 0 ≤ a) (ab : a ≤ b) (c0 : 0 ≤ c) (cd : c ≤ d) : a * c ≤ b * d :=
  Rat.le_trans (Rat.mul_le_mul_of_nonneg_right ab c0) (Rat.mul_le_mul_of_nonneg_left cd (Rat.le_trans a0 ab))
theorem pr_le {l : List α} {g h : α → Rat} (n : ∀ x ∈ l, 0 ≤ g x) (e : ∀ x ∈ l, g x ≤ h x) : pr l g ≤ pr l h := by
  induction l with
  | nil => exact Rat.le_refl
  | cons x l ih =>
    have n2 : ∀ y ∈ l, 0 ≤ g y := fun y hy => n y (List.mem_cons_of_mem _ hy)
    exact mul_le (n x List.mem_cons_self) (e x List.mem_cons_self) (pr_nn n2) (ih n2 fun y hy => e y (List.mem_cons_of_mem _ hy))
theorem pr_mul (l : List α) (g h : α → Rat) : (pr l fun x => g x * h x) = pr l g * pr l h := by
  induction l with
  | nil => simp
  | cons x l ih => simp only [pr_cons]; rw [ih]; grind
theorem pr_congr {l : List α} {g h : α → Rat} (e : ∀ x ∈ l, g x = h x) : pr l g = pr l h := by
  induction l with
  | nil => rfl
  | cons x l ih => rw [pr_cons, pr_cons, e x List.mem_cons_self, ih fun y hy => e y (List.mem_cons_of_mem _ hy)]
theorem pr_ones (l : List α) : (pr l fun _ => (1 : Rat)) = 1 := by
  induction l with
  | nil => rfl
  | cons x l ih => rw [pr_cons, ih]; grind
end
structure Avg {σ : Type} (A : Nat → V σ → V σ) (E : V σ → Rat) (p : Nat → Rat) : Prop where
  add : ∀ g h, E (fun f => g f + h f) = E g + E h
  mono : ∀ g h, (∀ f, g f ≤ h f) → E g ≤ E h
  red : ∀ i g, E (A i g) = p i * E g
  one : E (fun _ => 1) = 1
/-- weights: u is one by (1 less the weight) -/
structure Wts (cl : Nat → Nat → Bool) (L : List Nat) (p u : Nat → Rat) : Prop where
  p0 : ∀ i, 0 ≤ p i
  u1 : ∀ i, 1 ≤ u i
  lim : ∀ i ∈ L, p i * (pr L fun k => if cl k i = true then u k else 1) ≤ u i - 1
section
variable {σ : Type} {A : Nat → V σ → V σ} {cl : Nat → Nat → Bool} {L : List Nat} {E : V σ → Rat} {p u : Nat → Rat}
theorem Avg.zero (B : Avg A E p) : E (fun _ => 0) = 0 := by
  have e := B.add (fun _ => 0) (fun _ => 0)
  rw [show (fun f : σ => (0 : Rat) + 0) = fun _ => 0 from funext fun _ => by grind] at e
  grind
theorem Avg.sum (B : Avg A E p) {α : Type} (l : List α) (g : α → V σ) : E (fun f => sm l fun x => g x f) = sm l fun x => E (g x) := by
  induction l with
  | nil => exact B.zero
  | cons x l ih =>
    have e := B.add (g x) fun f => sm l fun x => g x f
    rw [ih] at e
    exact e
theorem Avg.redL (B : Avg A E p) (I : List Nat) (g : V σ) : E (AL A I g) = pr I p * E g := by
  induction I with
  | nil => rw [pr_nil]; show E g = _; grind
  | cons i I ih =>
    show E (A i (AL A I g)) = _
    rw [B.red, ih, pr_cons]
    grind
theorem Avg.nn (B : Avg A E p) {g : V σ} (h : ∀ f, 0 ≤ g f) : 0 ≤ E g := by
  have z := B.mono (fun _ => 0) g h
  rwa [B.zero] at z
def vv (cl : Nat → Nat → Bool) (u : Nat → Rat) (L I : List Nat) : Rat := pr L fun k => if hit cl k I = true then u k else 1
theorem vv_ge (W : Wts cl L p u) (M I : List Nat) : 0 ≤ vv cl u M I := pr_nn fun k _ => by
  have := W.u1 k
  split <;> grind
theorem vv_nil (M : List Nat) : vv cl u M [] = 1 := by
  unfold vv
  rw [pr_congr (h := fun _ => 1) fun k _ => if_neg (by unfold hit; simp), pr_ones]
theorem vv_one (M : List Nat) (i : Nat) : vv cl u M [i] = pr M fun k => if cl k i = true then u k else 1 := by
  unfold vv
  refine pr_congr fun k _ => ?_
  unfold hit
  rw [List.any_cons, List.any_nil, Bool.or_false]
theorem vv_cons (W : Wts cl L p u) (M : List Nat) (j : Nat) (I : List Nat) : vv cl u M (j :: I) ≤ vv cl u M [j] * vv cl u M I := by
  rw [vv_one]
  unfold vv
  rw [← pr_mul]
  refine pr_le (fun k _ => ?_) fun k _ => ?_
  · have := W.u1 k
    split <;> grind
  · have z := W.u1 k
    unfold hit
    rw [List.any_cons]
    cases a : cl k j with
    | true =>
      cases b : I.any fun j => cl k j with
      | true =>
        rw [if_pos (by rfl), if_pos rfl]
        have := Rat.mul_le_mul_of_nonneg_right z (show (0 : Rat) ≤ u k by grind)
        grind
      | false =>
        rw [if_pos (by rfl), if_pos rfl, if_neg (by decide)]
        grind
    | false =>
      cases b : I.any fun j => cl k j with
      | true =>
        rw [if_pos (by rfl), if_neg (by decide), if_pos rfl]
        grind
      | false =>
        rw [if_neg (by decide), if_neg (by decide)]
        grind
theorem pv_le (W : Wts cl L p u) : ∀ {J : List Nat}, (∀ j ∈ J, j ∈ L) → pr J p * vv cl u L J ≤ pr J fun j => u j - 1
  | [], _ => by
    rw [vv_nil, pr_nil, pr_nil]
    grind
  | j :: J, h => by
    have ih := pv_le W (J := J) fun k hk => h k (List.mem_cons_of_mem _ hk)
    have l := W.lim j (h j List.mem_cons_self)
    rw [← vv_one] at l
    have c := vv_cons W L j J
    have P : 0 ≤ pr J p := pr_nn fun k _ => W.p0 k
    have Pj := W.p0 j
    have a1 : 0 ≤ p j * vv cl u L [j] := Rat.mul_nonneg Pj (vv_ge W L [j])
    have a2 : 0 ≤ pr J p * vv cl u L J := Rat.mul_nonneg P (vv_ge W L J)
    have m := mul_le a1 l a2 ih
    have n := Rat.mul_le_mul_of_nonneg_left c (Rat.mul_nonneg Pj P)
    rw [pr_cons, pr_cons]
    have e : p j * vv cl u L [j] * (pr J p * vv cl u L J) = p j * pr J p * (vv cl u L [j] * vv cl u L J) := by grind
    rw [e] at m
    exact Rat.le_trans n m
theorem sub_prod (I : List Nat) : ∀ M : List Nat, (sm (subs M) fun J => if ∀ j ∈ J, hit cl j I = true then pr J fun j => u j - 1 else 0) = vv cl u M I
  | [] => by
    show (if ∀ j ∈ ([] : List Nat), hit cl j I = true then (1 : Rat) else 0) + 0 = 1
    rw [if_pos (fun _ h => nomatch h)]
    grind
  | x :: M => by
    rw [sub_cons, sub_prod I M]
    have e : (sm (subs M) fun J => if ∀ j ∈ x :: J, hit cl j I = true then pr (x :: J) fun j => u j - 1 else 0) = sm (subs M) fun J => (if hit cl x I = true then u x - 1 else 0) * if ∀ j ∈ J, hit cl j I = true then pr J fun j => u j - 1 else 0 := sm_congr fun J _ => by
      by_cases a : hit cl x I = true
      · by_cases b : ∀ j ∈ J, hit cl j I = true
        · rw [if_pos fun j hj => (List.mem_cons.mp hj).elim (fun z => by rw [z]; exact a) (b j), if_pos a, if_pos b, pr_cons]
        · rw [if_neg fun z => b fun j hj => z j (List.mem_cons_of_mem _ hj), if_neg b]
          grind
      · rw [if_neg fun z => a (z x List.mem_cons_self), if_neg a]
        grind
    rw [e, sm_mul, sub_prod I M]
    show _ = (if hit cl x I = true then u x else 1) * vv cl u M I
    split <;> grind
theorem pv_sum (W : Wts cl L p u) (I : List Nat) : (sm (subs L) fun J => if ok0 cl J ∧ ∀ j ∈ J, hit cl j I = true then pr J p * vv cl u L J else 0) ≤ vv cl u L I - 1 := by
  have le : (sm (subs L) fun J => (if ok0 cl J ∧ ∀ j ∈ J, hit cl j I = true then pr J p * vv cl u L J else 0) + if J = [] then 1 else 0) ≤ sm (subs L) fun J => if ∀ j ∈ J, hit cl j I = true then pr J fun j => u j - 1 else 0 := by
    refine sm_le fun J hJ => ?_
    by_cases c : J = []
    · subst c
      rw [if_neg fun z => z.1.1 rfl, if_pos rfl, if_pos (fun _ h => nomatch h), pr_nil]
      grind
    · rw [if_neg c]
      have sb : ∀ j ∈ J, j ∈ L := fun j hj => (sub_mem hJ).subset hj
      have nn : 0 ≤ pr J fun j => u j - 1 := pr_nn fun j _ => by have := W.u1 j; grind
      have pv := pv_le W sb
      by_cases b : ∀ j ∈ J, hit cl j I = true
      · rw [if_pos b]
        split <;> grind
      · rw [if_neg b, if_neg fun z => b z.2]
        grind
  rw [sm_add, sub_nil, sub_prod] at le
  grind
noncomputable def hh (A : Nat → V σ → V σ) (cl : Nat → Nat → Bool) (L : List Nat) (E : V σ → Rat) (d : Nat) (J : List Nat) : Rat := E (H A cl L d J)
theorem hh_nn (O : Ops A cl L) (B : Avg A E p) (d : Nat) (J : List Nat) : 0 ≤ hh A cl L E d J := B.nn (H_nn O d J)
theorem hh_succ (B : Avg A E p) (d : Nat) (J : List Nat) : hh A cl L E (d + 1) J = sm (subs L) fun I => if ok cl J I then pr I p * hh A cl L E d I else 0 := by
  unfold hh
  rw [H_T, B.sum]
  refine sm_congr fun I _ => ?_
  by_cases c : ok cl J I
  · rw [if_pos c, show T A cl L d J I = AL A I (H A cl L d I) from funext fun f => if_pos c, B.redL]
  · rw [if_neg c, show T A cl L d J I = fun _ => 0 from funext fun f => if_neg c, B.zero]
noncomputable def QQ (A : Nat → V σ → V σ) (cl : Nat → Nat → Bool) (L : List Nat) (E : V σ → Rat) (p u : Nat → Rat) (d : Nat) : Rat := sm (subs L) fun I => if ok0 cl I then pr I p * hh A cl L E d I * vv cl u L I else 0
theorem QQ_nn (O : Ops A cl L) (B : Avg A E p) (W : Wts cl L p u) (d : Nat) : 0 ≤ QQ A cl L E p u d := sm_nn fun I _ => by
  split
  · exact Rat.mul_nonneg (Rat.mul_nonneg (pr_nn fun i _ => W.p0 i) (hh_nn O B d I)) (vv_ge W L I)
  · exact Rat.le_refl
theorem QQ_step (O : Ops A cl L) (B : Avg A E p) (W : Wts cl L p u) (d : Nat) : QQ A cl L E p u (d + 1) + hh A cl L E (d + 1) [] ≤ QQ A cl L E p u d := by
  have e1 : QQ A cl L E p u (d + 1) = sm (subs L) fun I => sm (subs L) fun J => if ok0 cl J ∧ ok cl J I then pr J p * vv cl u L J * (pr I p * hh A cl L E d I) else 0 := by
    rw [sm_swap]
    refine sm_congr fun J _ => ?_
    by_cases c : ok0 cl J
    · rw [if_pos c, hh_succ B]
      have e : pr J p * (sm (subs L) fun I => if ok cl J I then pr I p * hh A cl L E d I else 0) * vv cl u L J = (pr J p * vv cl u L J) * sm (subs L) fun I => if ok cl J I then pr I p * hh A cl L E d I else 0 := by grind
      rw [e, ← sm_mul]
      refine sm_congr fun I _ => ?_
      by_cases b : ok cl J I
      · rw [if_pos b, if_pos ⟨c, b⟩]
      · rw [if_neg b, if_neg fun z => b z.2]
        grind
    · rw [if_neg c, sm_congr (h := fun _ => 0) fun I _ => if_neg fun z => c z.1, sm_zero]
  have e2 : hh A cl L E (d + 1) [] = sm (subs L) fun I => if ok0 cl I then pr I p * hh A cl L E d I else 0 := by
    rw [hh_succ B]
    refine sm_congr fun I _ => ?_
    by_cases c : ok0 cl I
    · rw [if_pos c, if_pos ⟨c, fun _ h => nomatch h⟩]
    · rw [if_neg c, if_neg fun z => c z.1]
  rw [e1, e2, ← sm_add]
  unfold QQ
  refine sm_le fun I _ => ?_
  by_cases c : ok0 cl I
  · rw [if_pos c, if_pos c]
    have e3 : (sm (subs L) fun J => if ok0 cl J ∧ ok cl J I then pr J p * vv cl u L J * (pr I p * hh A cl L E d I) else 0) = (pr I p * hh A cl L E d I) * sm (subs L) fun J => if ok0 cl J ∧ ∀ j ∈ J, hit cl j I = true then pr J p * vv cl u L J else 0 := by
      rw [← sm_mul]
      refine sm_congr fun J _ => ?_
      by_cases b : ok0 cl J ∧ ∀ j ∈ J, hit cl j I = true
      · rw [if_pos b, if_pos ⟨b.1, c, b.2⟩]
        grind
      · rw [if_neg b, if_neg fun z => b ⟨z.1, z.2.2⟩]
        grind
    rw [e3]
    have q : 0 ≤ pr I p * hh A cl L E d I := Rat.mul_nonneg (pr_nn fun i _ => W.p0 i) (hh_nn O B d I)
    have m := Rat.mul_le_mul_of_nonneg_left (pv_sum W I) q
    grind
  · rw [if_neg c, if_neg c, sm_congr (h := fun _ => 0) fun J _ => if_neg fun z => c z.2.1, sm_zero]
    grind
theorem sub_single (φ : List Nat → Rat) : ∀ M : List Nat, (sm (subs M) fun I => if I.length = 1 then φ I else 0) = sm M fun i => φ [i]
  | [] => by
    show (if ([] : List Nat).length = 1 then φ [] else 0) + 0 = 0
    rw [if_neg (by decide)]
    grind
  | x :: M => by
    rw [sub_cons, sub_single φ M, sm_cons]
    have e : (sm (subs M) fun I => if (x :: I).length = 1 then φ (x :: I) else 0) = sm (subs M) fun I => if I = [] then φ [x] else 0 := sm_congr fun I _ => by
      by_cases c : I = []
      · subst c
        rfl
      · rw [if_neg c, if_neg fun z => c (List.length_eq_zero_iff.mp (by rw [List.length_cons] at z; omega))]
    rw [e, sub_nil]
    grind
theorem QQ_zero (B : Avg A E p) (W : Wts cl L p u) : QQ A cl L E p u 0 ≤ sm L fun i => u i - 1 := by
  have e : QQ A cl L E p u 0 = sm (subs L) fun I => if I.length = 1 then (if ok0 cl I then pr I p * vv cl u L I else 0) else 0 := by
    unfold QQ
    refine sm_congr fun I _ => ?_
    by_cases c : ok0 cl I
    · rw [if_pos c, if_pos c]
      unfold hh H
      by_cases l : I.length = 1
      · simp only [if_pos l]
        rw [B.one]
        grind
      · simp only [if_neg l]
        rw [B.zero]
        grind
    · rw [if_neg c, if_neg c]
      split <;> rfl
  rw [e, sub_single]
  refine sm_le fun i hi => ?_
  rw [if_pos ⟨List.cons_ne_nil _ _, List.pairwise_singleton _ _⟩, vv_one]
  have l := W.lim i hi
  rw [pr_cons, pr_nil]
  grind
/-- on average these come to no more than the weights tell -/
theorem Ph_avg (O : Ops A cl L) (B : Avg A E p) (W : Wts cl L p u) (n : Nat) : E (Ph A cl L n) ≤ sm L fun i => u i - 1 := by
  have all : ∀ n, E (Ph A cl L n) + QQ A cl L E p u n ≤ QQ A cl L E p u 0 := fun n => by
    induction n with
    | zero =>
      show E (fun _ => 0) + _ ≤ _
      rw [B.zero]
      grind
    | succ n ih =>
      have s := QQ_step O B W n
      have e : E (Ph A cl L (n + 1)) = E (Ph A cl L n) + hh A cl L E (n + 1) [] := B.add _ _
      rw [e]
      grind
  have a := all n
  have b := QQ_nn O B W n
  have c := QQ_zero B W
  grind
end
end Lw

set_option autoImplicit false
set_option Elab.async false
set_option linter.all false
set_option maxRecDepth 100000
set_option maxHeartbeats 4000000
/-! wishes as such operators on fillings -/
namespace Rd
open PySem PySem.Spec PyProof.Rows L2 Dt
open Lw (sm V Ops Avg Wts)
theorem sm_const {α : Type} (c : Rat) : ∀ l : List α, (sm l fun _ => c) = (l.length : Rat) * c
  | [] => by
    show (0 : Rat) = ((0 : Nat) : Rat) * c
    grind
  | x :: l => by
    rw [Lw.sm_cons, sm_const c l, List.length_cons]
    grind
theorem sm_perm {α : Type} {l m : List α} (p : l.Perm m) (g : α → Rat) : sm l g = sm m g := by
  induction p with
  | nil => rfl
  | cons x _ ih => rw [Lw.sm_cons, Lw.sm_cons, ih]
  | swap x y l => simp only [Lw.sm_cons]; grind
  | trans _ _ a b => exact a.trans b
theorem sm_flat {α β : Type} (g : β → Rat) (k : α → List β) : ∀ l : List α, sm (l.flatMap k) g = sm l fun x => sm (k x) g
  | [] => rfl
  | x :: l => by rw [List.flatMap_cons, Lw.sm_app, sm_flat g k l]; rfl
theorem sm_filter {α : Type} (p : α → Bool) (g : α → Rat) : ∀ l : List α, sm (l.filter p) g = sm l fun x => if p x = true then g x else 0
  | [] => rfl
  | x :: l => by
    rw [List.filter_cons, Lw.sm_cons, ← sm_filter p g l]
    split
    · rw [Lw.sm_cons]
    · grind
theorem sm_reps {α : Type} (g : α → Rat) (l : List α) : ∀ c : Nat, sm (List.replicate c l).flatten g = (c : Rat) * sm l g
  | 0 => by
    show (0 : Rat) = ((0 : Nat) : Rat) * _
    grind
  | c + 1 => by
    rw [List.replicate_succ, List.flatten_cons, Lw.sm_app, sm_reps g l c]
    grind
theorem sumReps {α : Type} (g : α → Int) (l : List α) : ∀ c : Nat, ((List.replicate c l).flatten.map g).sum = (c : Int) * (l.map g).sum
  | 0 => (Int.zero_mul _).symm
  | c + 1 => by
    rw [List.replicate_succ, List.flatten_cons, List.map_append, List.sum_append, sumReps g l c, Int.natCast_add, Int.add_mul]
    omega
theorem sumFilter {α : Type} (p : α → Bool) (g : α → Int) : ∀ l : List α, ((l.filter p).map g).sum = (l.map fun x => ib (p x) * g x).sum
  | [] => rfl
  | x :: l => by
    rw [List.filter_cons, List.map_cons, List.sum_cons, ← sumFilter p g l]
    unfold ib
    split
    · rw [List.map_cons, List.sum_cons, Int.one_mul]
    · rw [Int.zero_mul, Int.zero_add]
theorem sumCount (a : List Int) : ∀ l : List (List Int), (l.map fun x => ib (decide (x = a))).sum = (l.count a : Int)
  | [] => rfl
  | x :: l => by
    rw [List.map_cons, List.sum_cons, sumCount a l, List.count_cons]
    unfold ib
    by_cases c : x = a
    · subst c
      simp
      omega
    · simp [c]
theorem perm_sums {l m : List (List Int)} (h : ∀ g : List Int → Int, (l.map g).sum = (m.map g).sum) : l.Perm m := by
  refine List.perm_iff_count.mpr fun a => ?_
  have z := h fun x => ib (decide (x = a))
  rw [sumCount, sumCount] at z
  omega
section
variable {hues n : Nat} {wds : List WD}
theorem plcs_far {j : Nat} (h : ¬ j < wds.length) : plcs wds (j : Int) = [] := by
  unfold plcs
  rw [Int.toNat_natCast, List.getD_eq_getElem?_getD, List.getElem?_eq_none (by omega)]
  rfl
theorem brkAt_far {f : List Int} {j : Nat} (h : ¬ j < wds.length) : brkAt f wds j = false := by
  unfold brkAt
  rw [List.getElem?_eq_none (by omega)]
theorem plcs_in (R : WsR hues n wds) (j : Nat) : (plcs wds (j : Int)).Nodup ∧ ∀ p ∈ plcs wds (j : Int), 0 ≤ p ∧ p < (n : Int) := by
  by_cases h : j < wds.length
  · rw [plcs_at h]
    exact ⟨R.nd _ (List.getElem_mem h), R.pl _ (List.getElem_mem h)⟩
  · rw [plcs_far h]
    exact ⟨List.nodup_nil, fun _ h => nomatch h⟩
theorem anew_mem (R : WsR hues n wds) {f : List Int} (hf : f ∈ fillL hues n) (j : Nat) {r : List Int} (hr : r ∈ fillL hues (plcs wds (j : Int)).length) : anewL f (plcs wds (j : Int)) r ∈ fillL hues n := by
  obtain ⟨fl, fh⟩ := fill_good hf
  obtain ⟨rl, rh⟩ := fill_good hr
  obtain ⟨nd, pl⟩ := plcs_in R j
  refine fill_allC _ _ (by rw [anewL_len, fl]) fun h hh => ?_
  obtain ⟨q, hq, rfl⟩ := List.getElem_of_mem hh
  have e : (anewL f (plcs wds (j : Int)) r)[q] = atF (anewL f (plcs wds (j : Int)) r) (q : Int) := by
    unfold atF
    rw [Int.toNat_natCast, Dt.getD_get hq]
  rw [e]
  by_cases c : (q : Int) ∈ plcs wds (j : Int)
  · have m := hues_anew_in (plcs wds (j : Int)) r f rl.symm nd fun p hp => by rw [fl]; exact pl p hp
    have z : atF (anewL f (plcs wds (j : Int)) r) (q : Int) ∈ huesA (anewL f (plcs wds (j : Int)) r) (plcs wds (j : Int)) := List.mem_map.mpr ⟨_, c, rfl⟩
    rw [m] at z
    exact rh _ z
  · rw [atF_anew_out (by omega) _ _ _ (fun p hp => (pl p hp).1) c]
    rw [anewL_len] at hq
    have e2 : atF f (q : Int) = f[q] := by
      unfold atF
      rw [Int.toNat_natCast, Dt.getD_get hq]
    rw [e2]
    exact fh _ (List.getElem_mem hq)
theorem far_brk (R : WsR hues n wds) {i j : Nat} (h : clashB wds i j = false) {f : List Int} (r : List Int) : brkAt (anewL f (plcs wds (j : Int)) r) wds i = brkAt f wds i := by
  by_cases c : i < wds.length
  · rw [brkAt_at c, brkAt_at c]
    refine brk_out (fun p hp => ((plcs_in R j).2 p hp).1) fun q hq => ⟨(R.pl _ (List.getElem_mem c) q hq).1, fun z => ?_⟩
    unfold clashB at h
    rw [List.any_eq_false] at h
    exact h q (by rw [plcs_at c]; exact hq) (decide_eq_true z)
  · rw [brkAt_far c, brkAt_far c]
theorem anew_swap (R : WsR hues n wds) {i j : Nat} (h : clashB wds i j = false) {f : List Int} (hf : f ∈ fillL hues n) {r s : List Int} (hr : r ∈ fillL hues (plcs wds (i : Int)).length) (hs : s ∈ fillL hues (plcs wds (j : Int)).length) :
    anewL (anewL f (plcs wds (i : Int)) r) (plcs wds (j : Int)) s = anewL (anewL f (plcs wds (j : Int)) s) (plcs wds (i : Int)) r := by
  obtain ⟨ni, pi⟩ := plcs_in R i
  obtain ⟨nj, pj⟩ := plcs_in R j
  have fl := (fill_good hf).1
  have rl := (fill_good hr).1
  have sl := (fill_good hs).1
  have dis : ∀ p ∈ plcs wds (i : Int), p ∉ plcs wds (j : Int) := fun p hp hq => by
    unfold clashB at h
    rw [List.any_eq_false] at h
    exact h p hp (decide_eq_true hq)
  have same : ∀ {ps r f f' : List Int} {q : Int}, ps.length = r.length → ps.Nodup → (∀ p ∈ ps, 0 ≤ p ∧ p < (f.length : Int)) → (∀ p ∈ ps, 0 ≤ p ∧ p < (f'.length : Int)) → q ∈ ps → atF (anewL f ps r) q = atF (anewL f' ps r) q := fun {ps r f f' q} e nd h1 h2 hq => by
    have a := hues_anew_in ps r f e nd h1
    have b := hues_anew_in ps r f' e nd h2
    exact List.map_inj_left.mp (a.trans b.symm) q hq
  refine ext_atF (by simp only [anewL_len]) fun q _ => ?_
  have q0 : (0 : Int) ≤ (q : Int) := by omega
  by_cases ci : (q : Int) ∈ plcs wds (i : Int)
  · rw [atF_anew_out q0 _ _ _ (fun p hp => (pj p hp).1) (dis _ ci)]
    exact same rl.symm ni (by rw [fl]; exact pi) (by rw [anewL_len, fl]; exact pi) ci
  · rw [atF_anew_out q0 (plcs wds (i : Int)) r _ (fun p hp => (pi p hp).1) ci]
    by_cases cj : (q : Int) ∈ plcs wds (j : Int)
    · exact same sl.symm nj (by rw [anewL_len, fl]; exact pj) (by rw [fl]; exact pj) cj
    · rw [atF_anew_out q0 _ _ _ (fun p hp => (pj p hp).1) cj, atF_anew_out q0 _ _ _ (fun p hp => (pj p hp).1) cj, atF_anew_out q0 _ _ _ (fun p hp => (pi p hp).1) ci]
def qk (hues k : Nat) : Rat := ((hues ^ k : Nat) : Rat)
theorem qk_pos (h0 : 0 < hues) (k : Nat) : 0 < qk hues k := by
  have := Nat.pow_pos (n := k) h0
  unfold qk
  exact Rat.natCast_pos.mpr this
def opA (hues n : Nat) (wds : List WD) (i : Nat) (g : V (List Int)) : V (List Int) := fun f => if f ∈ fillL hues n ∧ brkAt f wds i = true then (sm (fillL hues (plcs wds (i : Int)).length) fun r => g (anewL f (plcs wds (i : Int)) r)) / qk hues (plcs wds (i : Int)).length else 0
def clA (wds : List WD) (i j : Nat) : Bool := decide (i = j) || clashB wds i j
theorem clash_sym (i j : Nat) : clashB wds i j = clashB wds j i := by
  unfold clashB
  rw [Bool.eq_iff_iff, List.any_eq_true, List.any_eq_true]
  exact ⟨fun ⟨p, a, b⟩ => ⟨p, of_decide_eq_true b, decide_eq_true a⟩, fun ⟨p, a, b⟩ => ⟨p, of_decide_eq_true b, decide_eq_true a⟩⟩
theorem two_ops (h0 : 0 < hues) (R : WsR hues n wds) {i j : Nat} (h : clashB wds i j = false) (g : V (List Int)) (f : List Int) : opA hues n wds i (opA hues n wds j g) f = if f ∈ fillL hues n ∧ brkAt f wds i = true ∧ brkAt f wds j = true then (sm (fillL hues (plcs wds (i : Int)).length) fun r => sm (fillL hues (plcs wds (j : Int)).length) fun s => g (anewL (anewL f (plcs wds (i : Int)) r) (plcs wds (j : Int)) s)) / (qk hues (plcs wds (i : Int)).length * qk hues (plcs wds (j : Int)).length) else 0 := by
  have h' : clashB wds j i = false := by rw [clash_sym]; exact h
  unfold opA
  by_cases c : f ∈ fillL hues n ∧ brkAt f wds i = true
  · rw [if_pos c]
    by_cases b : brkAt f wds j = true
    · rw [if_pos ⟨c.1, c.2, b⟩]
      rw [Lw.sm_congr (h := fun r => (qk hues (plcs wds (j : Int)).length)⁻¹ * sm (fillL hues (plcs wds (j : Int)).length) fun s => g (anewL (anewL f (plcs wds (i : Int)) r) (plcs wds (j : Int)) s)) fun r hr => ?_, Lw.sm_mul]
      · have q1 := qk_pos h0 (plcs wds (i : Int)).length
        have q2 := qk_pos h0 (plcs wds (j : Int)).length
        grind
      · rw [if_pos ⟨anew_mem R c.1 i hr, by rw [far_brk R h']; exact b⟩, Rat.div_def]
        grind
    · rw [if_neg fun z => b z.2.2]
      rw [Lw.sm_congr (h := fun _ => 0) fun r hr => if_neg fun z => b (by have := z.2; rwa [far_brk R h'] at this), Lw.sm_zero]
      grind
  · rw [if_neg c, if_neg fun z => c ⟨z.1, z.2.1⟩]
theorem ops_wishes (h0 : 0 < hues) (R : WsR hues n wds) : Ops (opA hues n wds) (clA wds) (List.range wds.length) where
  add := fun i g h => funext fun f => by
    unfold opA
    split
    · rw [Lw.sm_add]
      grind
    · grind
  mono := fun i g h e f => by
    unfold opA
    split
    · rw [Rat.div_def, Rat.div_def]
      have q := qk_pos h0 (plcs wds (i : Int)).length
      exact Rat.mul_le_mul_of_nonneg_right (Lw.sm_le fun r _ => e _) (Rat.le_of_lt (Rat.inv_pos.mpr q))
    · exact Rat.le_refl
  comm := fun i j g h => funext fun f => by
    unfold clA at h
    rw [Bool.or_eq_false_iff] at h
    have h' : clashB wds j i = false := by rw [clash_sym]; exact h.2
    rw [two_ops h0 R h.2, two_ops h0 R h']
    by_cases c : f ∈ fillL hues n ∧ brkAt f wds i = true ∧ brkAt f wds j = true
    · rw [if_pos c, if_pos ⟨c.1, c.2.2, c.2.1⟩, Lw.sm_swap, Rat.mul_comm (qk _ _)]
      congr 1
      refine Lw.sm_congr fun s hs => Lw.sm_congr fun r hr => ?_
      rw [anew_swap R h.2 c.1 hr hs]
    · rw [if_neg c, if_neg fun z => c ⟨z.1, z.2.2, z.2.1⟩]
  one := fun i f => by
    unfold opA
    split
    · rw [sm_const, fill_len]
      have q := qk_pos h0 (plcs wds (i : Int)).length
      unfold qk at *
      grind
    · decide
  nd := List.nodup_range
  self := fun i => by unfold clA; simp
  sym := fun i j => by
    unfold clA
    rw [clash_sym]
    congr 1
    rw [decide_eq_decide]
    exact eq_comm
/-- the share of a wish -/
def shA (hues : Nat) (wds : List WD) (i : Nat) : Rat := ((wds.getD i ([], [])).2.length : Rat) / qk hues (plcs wds (i : Int)).length
def avA (hues n : Nat) (g : V (List Int)) : Rat := sm (fillL hues n) g / qk hues n
theorem red_perm (h0 : 0 < hues) (R : WsR hues n wds) {j : Nat} (hj : j < wds.length) : (((fillL hues n).filter fun f => brkAt f wds j).flatMap fun f => (fillL hues (plcs wds (j : Int)).length).map (anewL f (plcs wds (j : Int)))).Perm (List.replicate (wds[j]).2.length (fillL hues n)).flatten := by
  obtain ⟨nd, pl⟩ := plcs_in R j
  refine perm_sums fun g => ?_
  rw [sumReps, sumFlat, sumFilter]
  have o : Outs hues n wds j fun f => fS hues (plcs wds (j : Int)).length fun r => g (anewL f (plcs wds (j : Int)) r) := fun f hf s hs => by
    dsimp only
    refine fS_congr fun r hr => ?_
    rw [anew_twice (fill_good hr).1.symm (fill_good hs).1.symm nd fun p z => by rw [(fill_good hf).1]; exact pl p z]
  have sh := fS_share R hj o
  rw [fS_anew hues n _ (plcs wds (j : Int)) g rfl pl, Int.mul_left_comm] at sh
  have wp : (0 : Int) < (hues : Int) ^ (plcs wds (j : Int)).length := Int.pow_pos (by omega)
  have sh := Int.eq_of_mul_eq_mul_left (Int.ne_of_gt wp) sh
  rw [show ((fillL hues n).map g).sum = fS hues n g from rfl, ← sh]
  refine sumMapC fun f _ => ?_
  rw [List.map_map]
  rfl
theorem avg_wishes (h0 : 0 < hues) (R : WsR hues n wds) : Avg (opA hues n wds) (avA hues n) (shA hues wds) where
  add := fun g h => by
    unfold avA
    rw [Lw.sm_add]
    grind
  mono := fun g h e => by
    unfold avA
    rw [Rat.div_def, Rat.div_def]
    exact Rat.mul_le_mul_of_nonneg_right (Lw.sm_le fun f _ => e f) (Rat.le_of_lt (Rat.inv_pos.mpr (qk_pos h0 n)))
  red := fun i g => by
    have q1 := qk_pos h0 n
    have q2 := qk_pos h0 (plcs wds (i : Int)).length
    by_cases c : i < wds.length
    · have e : (sm (fillL hues n) fun f => opA hues n wds i g f) = (sm (List.replicate (wds[i]).2.length (fillL hues n)).flatten g) * (qk hues (plcs wds (i : Int)).length)⁻¹ := by
        rw [← sm_perm (red_perm h0 R c), sm_flat, sm_filter, Rat.mul_comm, ← Lw.sm_mul]
        refine Lw.sm_congr fun f hf => ?_
        unfold opA
        by_cases b : brkAt f wds i = true
        · rw [if_pos ⟨hf, b⟩, if_pos b, Lw.sm_map, Rat.div_def, Rat.mul_comm]
        · rw [if_neg fun z => b z.2, if_neg b, Rat.mul_zero]
      unfold avA shA
      rw [show sm (fillL hues n) (opA hues n wds i g) = sm (fillL hues n) fun f => opA hues n wds i g f from rfl, e, sm_reps, Dt.getD_get c]
      grind
    · have z : opA hues n wds i g = fun _ => 0 := funext fun f => if_neg fun y => by rw [brkAt_far c] at y; exact absurd y.2 (by decide)
      unfold avA shA
      rw [z, Lw.sm_zero, List.getD_eq_getElem?_getD, List.getElem?_eq_none (by omega)]
      show 0 / qk hues n = ((0 : Nat) : Rat) / _ * _
      grind
  one := by
    unfold avA
    rw [sm_const, fill_len]
    have q := qk_pos h0 n
    unfold qk at *
    grind
end
end Rd

set_option autoImplicit false
set_option Elab.async false
set_option linter.all false
set_option maxRecDepth 100000
set_option maxHeartbeats 4000000
/-! the mean is no more than the weights tell -/
namespace Rd
open PySem PySem.Spec PyProof.Rows L2 Dt
open Lw (sm V Ops Avg Wts Ph)
theorem sm_cast {α : Type} (X : α → Int) : ∀ l : List α, (((l.map X).sum : Int) : Rat) = sm l fun x => (X x : Rat)
  | [] => rfl
  | x :: l => by
    rw [List.map_cons, List.sum_cons, Lw.sm_cons, ← sm_cast X l]
    exact Rat.intCast_add _ _
theorem arch {c d : Rat} (h : ∀ n : Nat, d * (n : Rat) ≤ c) : d ≤ 0 := by
  refine Classical.byContradiction fun no => ?_
  have dp : 0 < d := by grind
  have q : c / d ≤ ((c / d).ceil : Rat) := Rat.le_ceil
  have m : (((c / d).ceil : Int) : Rat) ≤ (((c / d).ceil.toNat : Nat) : Rat) := by
    rw [← Rat.intCast_natCast]
    exact Rat.intCast_le_intCast.mpr (by omega)
  have h1 := h ((c / d).ceil.toNat + 1)
  rw [Rat.natCast_add] at h1
  have t : c / d ≤ (((c / d).ceil.toNat : Nat) : Rat) := Rat.le_trans q m
  generalize (((c / d).ceil.toNat : Nat) : Rat) = N at t h1
  have x := Rat.mul_le_mul_of_nonneg_left t (Rat.le_of_lt dp)
  have e : d * (c / d) = c := by grind
  rw [e] at x
  have o : ((1 : Nat) : Rat) = 1 := rfl
  rw [o] at h1
  grind
section
variable {hues n : Nat} {wds : List WD}
/-- one mending of the first broken wish -/
def stepK (hues n : Nat) (wds : List WD) (g : V (List Int)) : V (List Int) := fun f => match broL f wds wds.length with
  | [] => 0
  | k :: _ => opA hues n wds k.toNat g f
theorem broL_head {f : List Int} {k : Int} {r : List Int} (h : broL f wds wds.length = k :: r) : k.toNat < wds.length ∧ 0 ≤ k ∧ brkAt f wds k.toNat = true := by
  have m : k ∈ broL f wds wds.length := by rw [h]; exact List.mem_cons_self
  obtain ⟨a, b, c⟩ := broL_iff.mp m
  exact ⟨by omega, a, c⟩
theorem stepK_add (h0 : 0 < hues) (R : WsR hues n wds) (g h : V (List Int)) : stepK hues n wds (fun f => g f + h f) = fun f => stepK hues n wds g f + stepK hues n wds h f := funext fun f => by
  unfold stepK
  cases broL f wds wds.length with
  | nil => show (0 : Rat) = 0 + 0; grind
  | cons k r => exact congrFun ((ops_wishes h0 R).add k.toNat g h) f
theorem stepK_mono (h0 : 0 < hues) (R : WsR hues n wds) {g h : V (List Int)} (e : ∀ f, g f ≤ h f) (f : List Int) : stepK hues n wds g f ≤ stepK hues n wds h f := by
  unfold stepK
  cases broL f wds wds.length with
  | nil => exact Rat.le_refl
  | cons k r => exact (ops_wishes h0 R).mono k.toNat g h e f
theorem stepK_mul (c : Rat) (g : V (List Int)) : stepK hues n wds (fun f => c * g f) = fun f => c * stepK hues n wds g f := funext fun f => by
  unfold stepK
  cases broL f wds wds.length with
  | nil => show (0 : Rat) = c * 0; grind
  | cons k r =>
    show opA hues n wds k.toNat _ f = c * opA hues n wds k.toNat g f
    unfold opA
    split
    · rw [Lw.sm_mul]
      grind
    · grind
theorem stepK_one (h0 : 0 < hues) (R : WsR hues n wds) (f : List Int) : stepK hues n wds (fun _ => 1) f ≤ 1 := by
  unfold stepK
  cases broL f wds wds.length with
  | nil => show (0 : Rat) ≤ 1; decide
  | cons k r => exact (ops_wishes h0 R).one k.toNat f
theorem stepK_nn (h0 : 0 < hues) (R : WsR hues n wds) {g : V (List Int)} (e : ∀ f, 0 ≤ g f) (f : List Int) : 0 ≤ stepK hues n wds g f := by
  unfold stepK
  cases broL f wds wds.length with
  | nil => exact Rat.le_refl
  | cons k r => exact (ops_wishes h0 R).nn k.toNat e f
/-- that so many mendings come at least; the mean number of the first so many -/
def tN (hues n : Nat) (wds : List WD) : Nat → V (List Int)
  | 0 => fun _ => 1
  | k + 1 => stepK hues n wds (tN hues n wds k)
def eN (hues n : Nat) (wds : List WD) : Nat → V (List Int)
  | 0 => fun _ => 0
  | k + 1 => stepK hues n wds fun f => 1 + eN hues n wds k f
theorem tN_bd (h0 : 0 < hues) (R : WsR hues n wds) : ∀ k f, 0 ≤ tN hues n wds k f ∧ tN hues n wds k f ≤ 1
  | 0, f => ⟨(by show (0 : Rat) ≤ 1; decide), Rat.le_refl⟩
  | k + 1, f => ⟨stepK_nn h0 R (fun f => (tN_bd h0 R k f).1) f, Rat.le_trans (stepK_mono h0 R (fun f => (tN_bd h0 R k f).2) f) (stepK_one h0 R f)⟩
theorem eN_ge (h0 : 0 < hues) (R : WsR hues n wds) : ∀ (k : Nat) f, (k : Rat) * tN hues n wds k f ≤ eN hues n wds k f
  | 0, f => by
    show ((0 : Nat) : Rat) * 1 ≤ 0
    grind
  | k + 1, f => by
    have e := congrFun (stepK_mul (hues := hues) (n := n) (wds := wds) ((k + 1 : Nat) : Rat) (tN hues n wds k)) f
    show _ * stepK hues n wds (tN hues n wds k) f ≤ stepK hues n wds _ f
    rw [← e]
    refine stepK_mono h0 R (fun f => ?_) f
    have a := eN_ge h0 R k f
    have b := (tN_bd h0 R k f).2
    grind
theorem eN_le (h0 : 0 < hues) (R : WsR hues n wds) : ∀ (k : Nat) f, eN hues n wds k f ≤ Ph (opA hues n wds) (clA wds) (List.range wds.length) k f
  | 0, f => Rat.le_refl
  | k + 1, f => by
    have O := ops_wishes h0 R
    refine Rat.le_trans (stepK_mono h0 R (h := fun f => 1 + Ph (opA hues n wds) (clA wds) (List.range wds.length) k f) (fun f => by have := eN_le h0 R k f; grind) f) ?_
    unfold stepK
    cases h : broL f wds wds.length with
    | nil => exact Lw.Ph_nn O f (k + 1)
    | cons j r => exact Lw.Ph_next O (List.mem_range.mpr (broL_head h).1) k f
/-- what solves the mean's rows -/
theorem y_le (h0 : 0 < hues) (R : WsR hues n wds) {y : V (List Int)} {M : Rat} (yM : ∀ f, y f ≤ M) (ye : ∀ f, y f ≤ stepK hues n wds (fun f => 1 + y f) f) : ∀ (k : Nat) f, y f ≤ eN hues n wds k f + M * tN hues n wds k f
  | 0, f => by
    show y f ≤ 0 + M * 1
    have := yM f
    grind
  | k + 1, f => by
    refine Rat.le_trans (ye f) (Rat.le_trans (stepK_mono h0 R (h := fun f => (1 + eN hues n wds k f) + M * tN hues n wds k f) (fun f => by have := y_le h0 R yM ye k f; grind) f) ?_)
    rw [stepK_add h0 R, stepK_mul]
    exact Rat.le_refl
theorem y_avg (h0 : 0 < hues) (R : WsR hues n wds) {u : Nat → Rat} (W : Wts (clA wds) (List.range wds.length) (shA hues wds) u) {y : V (List Int)} {M : Rat} (M0 : 0 ≤ M) (yM : ∀ f, y f ≤ M) (ye : ∀ f, y f ≤ stepK hues n wds (fun f => 1 + y f) f) : avA hues n y ≤ sm (List.range wds.length) fun i => u i - 1 := by
  have B := avg_wishes h0 R
  have O := ops_wishes h0 R
  have mulE : ∀ (c : Rat) (g : V (List Int)), avA hues n (fun f => c * g f) = c * avA hues n g := fun c g => by
    unfold avA
    rw [Lw.sm_mul]
    grind
  refine (fun z => by grind) (arch (d := avA hues n y - sm (List.range wds.length) fun i => u i - 1) (c := M * sm (List.range wds.length) fun i => u i - 1) fun k => ?_)
  have a := B.mono _ _ (y_le h0 R yM ye k)
  rw [B.add, mulE] at a
  have b := B.mono _ _ (eN_le h0 R k)
  have c := Lw.Ph_avg O B W k
  have d := B.mono _ _ (eN_ge h0 R k)
  rw [mulE] at d
  have e := B.nn (fun f => (tN_bd h0 R k f).1)
  generalize avA hues n y = Y at *
  generalize avA hues n (eN hues n wds k) = Ek at *
  generalize avA hues n (tN hues n wds k) = Tk at *
  generalize (sm (List.range wds.length) fun i => u i - 1) = S at *
  generalize avA hues n (Ph (opA hues n wds) (clA wds) (List.range wds.length) k) = P at *
  have k0 : (0 : Rat) ≤ (k : Rat) := Rat.natCast_nonneg
  have x1 : Y - S ≤ M * Tk := by grind
  have x2 := Rat.mul_le_mul_of_nonneg_right x1 k0
  have x3 : (k : Rat) * Tk ≤ S := by grind
  have x4 := Rat.mul_le_mul_of_nonneg_left x3 M0
  grind
/-- the mean's rows, in whole numbers -/
theorem mean_by (h0 : 0 < hues) (R : WsR hues n wds) {u : Nat → Rat} (W : Wts (clA wds) (List.range wds.length) (shA hues wds) u) {X : List Int → Int} {D : Int} (D1 : 1 ≤ D) (X0 : ∀ f, 0 ≤ X f) (kept : ∀ f ∈ fillL hues n, mendsL hues wds f = [] → X f = 0)
    (row : ∀ f ∈ fillL hues n, mendsL hues wds f ≠ [] → ((mendsL hues wds f).length : Int) * X f = ((mendsL hues wds f).length : Int) * D + ((mendsL hues wds f).map X).sum) :
    ((fS hues n X : Int) : Rat) ≤ ((D : Int) : Rat) * qk hues n * sm (List.range wds.length) fun i => u i - 1 := by
  have Dp : (0 : Rat) < (D : Rat) := Rat.intCast_pos.mpr (by omega)
  have nnq : ∀ f, (0 : Rat) ≤ (X f : Rat) / (D : Rat) := fun f => by
    have x := Rat.intCast_nonneg.mpr (X0 f)
    rw [Rat.div_def]
    exact Rat.mul_nonneg x (Rat.le_of_lt (Rat.inv_pos.mpr Dp))
  have y0 : ∀ f, (0 : Rat) ≤ if f ∈ fillL hues n then (X f : Rat) / (D : Rat) else 0 := fun f => by
    split
    · exact nnq f
    · exact Rat.le_refl
  have M0 : (0 : Rat) ≤ sm (fillL hues n) fun f => (X f : Rat) / (D : Rat) := Lw.sm_nn fun f _ => nnq f
  have yM : ∀ f, (if f ∈ fillL hues n then (X f : Rat) / (D : Rat) else 0) ≤ sm (fillL hues n) fun f => (X f : Rat) / (D : Rat) := fun f => by
    split
    · rename_i hf
      exact Lw.sm_one (g := fun f => (X f : Rat) / (D : Rat)) hf fun f _ => nnq f
    · exact M0
  have ye : ∀ f, (if f ∈ fillL hues n then (X f : Rat) / (D : Rat) else 0) ≤ stepK hues n wds (fun f => 1 + if f ∈ fillL hues n then (X f : Rat) / (D : Rat) else 0) f := fun f => by
    have nn := stepK_nn h0 R (g := fun f => 1 + if f ∈ fillL hues n then (X f : Rat) / (D : Rat) else 0) (fun f => by have := y0 f; grind) f
    by_cases hf : f ∈ fillL hues n
    · rw [if_pos hf]
      cases hb : broL f wds wds.length with
      | nil =>
        rw [kept f hf (mendsL_nil hb)]
        have z : ((0 : Int) : Rat) / (D : Rat) = 0 := by
          rw [Rat.intCast_zero]
          grind
        rw [z]
        exact nn
      | cons k r =>
        obtain ⟨kl, k0, kb⟩ := broL_head hb
        have me := mendsL_cons (hues := hues) hb
        have q := qk_pos h0 (plcs wds k).length
        have ml : (mendsL hues wds f).length = hues ^ (plcs wds k).length := by rw [me, List.length_map, fill_len]
        have ne : mendsL hues wds f ≠ [] := fun z => by
          rw [z] at ml
          have := Nat.pow_pos (n := (plcs wds k).length) h0
          simp at ml
          omega
        have rw1 := row f hf ne
        rw [ml, me, List.map_map] at rw1
        have rw2 := congrArg (fun z : Int => (z : Rat)) rw1
        rw [Rat.intCast_add, Rat.intCast_mul, Rat.intCast_mul, sm_cast, Rat.intCast_natCast] at rw2
        have ek : ((k.toNat : Nat) : Int) = k := Int.toNat_of_nonneg k0
        have st : stepK hues n wds (fun f => 1 + if f ∈ fillL hues n then (X f : Rat) / (D : Rat) else 0) f = (sm (fillL hues (plcs wds k).length) fun r => 1 + (D : Rat)⁻¹ * (X (anewL f (plcs wds k) r) : Rat)) / qk hues (plcs wds k).length := by
          unfold stepK
          rw [hb]
          show opA hues n wds k.toNat _ f = _
          unfold opA
          rw [if_pos ⟨hf, kb⟩, ek]
          congr 1
          refine Lw.sm_congr fun r hr => ?_
          have mm := anew_mem R hf k.toNat (r := r) (by rw [ek]; exact hr)
          rw [ek] at mm
          show 1 + (if anewL f (plcs wds k) r ∈ fillL hues n then (X (anewL f (plcs wds k) r) : Rat) / (D : Rat) else 0) = _
          rw [if_pos mm, Rat.div_def, Rat.mul_comm]
        rw [st, Lw.sm_add, sm_const, Lw.sm_mul, fill_len]
        have e2 : (sm (fillL hues (plcs wds k).length) fun x => ((X ∘ anewL f (plcs wds k)) x : Rat)) = sm (fillL hues (plcs wds k).length) fun r => (X (anewL f (plcs wds k) r) : Rat) := rfl
        rw [e2] at rw2
        generalize (sm (fillL hues (plcs wds k).length) fun r => (X (anewL f (plcs wds k) r) : Rat)) = Z at rw2
        unfold qk at *
        generalize ((hues ^ (plcs wds k).length : Nat) : Rat) = Q at *
        have e3 : (X f : Rat) / (D : Rat) = (Q * 1 + (D : Rat)⁻¹ * Z) / Q := by grind
        rw [e3]
        exact Rat.le_refl
    · rw [if_neg hf]
      exact nn
  have fin := y_avg h0 R W M0 yM ye
  have av : avA hues n (fun f => if f ∈ fillL hues n then (X f : Rat) / (D : Rat) else 0) = (D : Rat)⁻¹ * ((fS hues n X : Int) : Rat) / qk hues n := by
    unfold avA fS
    rw [sm_cast, ← Lw.sm_mul]
    congr 1
    refine Lw.sm_congr fun f hf => ?_
    rw [if_pos hf, Rat.div_def, Rat.mul_comm]
  rw [av] at fin
  have q := qk_pos h0 n
  have m := Rat.mul_le_mul_of_nonneg_left fin (Rat.le_of_lt (Rat.mul_pos Dp q))
  generalize qk hues n = Q at *
  generalize ((fS hues n X : Int) : Rat) = Z at *
  have e4 : (D : Rat) * Q * ((D : Rat)⁻¹ * Z / Q) = Z := by grind
  rw [e4] at m
  exact m
end
end Rd

set_option autoImplicit false
set_option Elab.async false
set_option linter.all false
set_option maxRecDepth 100000
set_option maxHeartbeats 4000000
/-! as many fillings keep all as the weights tell -/
namespace Rd
open PySem PySem.Spec PyProof.Rows L2 Dt
open Lw (sm pr V Ops Avg Wts Ph)
theorem pr_perm {α : Type} {l m : List α} (p : l.Perm m) (g : α → Rat) : pr l g = pr m g := by
  induction p with
  | nil => rfl
  | cons x _ ih => rw [Lw.pr_cons, Lw.pr_cons, ih]
  | swap x y l => simp only [Lw.pr_cons]; grind
  | trans _ _ a b => exact a.trans b
theorem pr_ge1 {α : Type} {l : List α} {g : α → Rat} (h : ∀ x ∈ l, 1 ≤ g x) : 1 ≤ pr l g := by
  have z := Lw.pr_le (l := l) (g := fun _ => (1 : Rat)) (h := g) (fun _ _ => by decide) h
  rwa [Lw.pr_ones] at z
theorem pr_part {g : Nat → Rat} (g1 : ∀ x, 1 ≤ g x) : ∀ {M L : List Nat}, M.Nodup → (∀ x ∈ M, x ∈ L) → pr M g ≤ pr L g
  | [], L, _, _ => pr_ge1 fun x _ => g1 x
  | x :: M, L, nd, h => by
    have hx := h x List.mem_cons_self
    rw [pr_perm (List.perm_cons_erase hx) g, Lw.pr_cons, Lw.pr_cons]
    obtain ⟨nx, nM⟩ := List.nodup_cons.mp nd
    have ih := pr_part g1 (L := L.erase x) nM fun y hy => (List.mem_erase_of_ne (fun z => nx (by rw [← z]; exact hy))).mpr (h y (List.mem_cons_of_mem _ hy))
    exact Rat.mul_le_mul_of_nonneg_left ih (by have := g1 x; grind)
section
variable {hues n : Nat} {wds : List WD} {u : Nat → Rat}
/-- none of these is broken -/
def noneB (wds : List WD) (S : List Nat) (f : List Int) : Bool := S.all fun i => !brkAt f wds i
def kpR (hues n : Nat) (wds : List WD) (S : List Nat) : Rat := avA hues n fun f => if noneB wds S f = true then 1 else 0
theorem none_perm {S S' : List Nat} (p : ∀ i, i ∈ S ↔ i ∈ S') (f : List Int) : noneB wds S f = noneB wds S' f := by
  unfold noneB
  rw [Bool.eq_iff_iff, List.all_eq_true, List.all_eq_true]
  exact ⟨fun h i hi => h i ((p i).mpr hi), fun h i hi => h i ((p i).mp hi)⟩
theorem kp_perm {S S' : List Nat} (p : ∀ i, i ∈ S ↔ i ∈ S') : kpR hues n wds S = kpR hues n wds S' := by
  unfold kpR
  congr 1
  funext f
  rw [none_perm p]
theorem kpR_nn (h0 : 0 < hues) (R : WsR hues n wds) (S : List Nat) : 0 ≤ kpR hues n wds S := (avg_wishes h0 R).nn fun f => by split <;> decide
theorem kp_drop (h0 : 0 < hues) (R : WsR hues n wds) (i : Nat) (S : List Nat) : kpR hues n wds S ≤ kpR hues n wds (i :: S) + shA hues wds i * kpR hues n wds (S.filter fun j => !clA wds j i) := by
  have B := avg_wishes h0 R
  unfold kpR
  rw [← B.red]
  rw [show avA hues n (fun f => if noneB wds (i :: S) f = true then 1 else 0) + avA hues n (opA hues n wds i fun f => if noneB wds (S.filter fun j => !clA wds j i) f = true then 1 else 0) = _ from (B.add _ _).symm]
  unfold avA
  rw [Rat.div_def, Rat.div_def]
  refine Rat.mul_le_mul_of_nonneg_right (Lw.sm_le fun f hf => ?_) (Rat.le_of_lt (Rat.inv_pos.mpr (qk_pos h0 n)))
  have nn : 0 ≤ opA hues n wds i (fun f => if noneB wds (S.filter fun j => !clA wds j i) f = true then 1 else 0) f := (ops_wishes h0 R).nn i (fun f => by split <;> decide) f
  by_cases s : noneB wds S f = true
  · by_cases b : brkAt f wds i = true
    · have e : opA hues n wds i (fun f => if noneB wds (S.filter fun j => !clA wds j i) f = true then 1 else 0) f = 1 := by
        unfold opA
        rw [if_pos ⟨hf, b⟩]
        have all : ∀ r, (if noneB wds (S.filter fun j => !clA wds j i) (anewL f (plcs wds (i : Int)) r) = true then (1 : Rat) else 0) = 1 := fun r => by
          refine if_pos ?_
          unfold noneB at *
          rw [List.all_eq_true] at *
          intro j hj
          obtain ⟨j1, j2⟩ := List.mem_filter.mp hj
          have nc : clashB wds j i = false := by
            have z : clA wds j i = false := by simpa using j2
            unfold clA at z
            exact (Bool.or_eq_false_iff.mp z).2
          rw [far_brk R nc]
          exact s j j1
        rw [Lw.sm_congr (h := fun _ => 1) fun r _ => all r, sm_const, fill_len]
        have q := qk_pos h0 (plcs wds (i : Int)).length
        unfold qk at *
        grind
      rw [if_pos s, e]
      split <;> grind
    · have e : noneB wds (i :: S) f = true := by
        unfold noneB at *
        rw [List.all_cons, s, Bool.eq_false_iff.mpr b]
        rfl
      rw [if_pos s, if_pos e]
      grind
  · rw [if_neg s]
    split <;> grind
theorem kp_one (h0 : 0 < hues) (R : WsR hues n wds) (W : Wts (clA wds) (List.range wds.length) (shA hues wds) u) {S : List Nat} (nd : S.Nodup) (sb : ∀ j ∈ S, j < wds.length) {i : Nat} (hi : i < wds.length) (ni : i ∉ S)
    (ch : kpR hues n wds (S.filter fun j => !clA wds j i) ≤ pr (S.filter fun j => clA wds j i) u * kpR hues n wds ((S.filter fun j => clA wds j i) ++ S.filter fun j => !clA wds j i)) : (u i)⁻¹ * kpR hues n wds S ≤ kpR hues n wds (i :: S) := by
  have d := kp_drop h0 R i S
  have e : kpR hues n wds ((S.filter fun j => clA wds j i) ++ S.filter fun j => !clA wds j i) = kpR hues n wds S := kp_perm fun j => by
    rw [List.mem_append, List.mem_filter, List.mem_filter]
    constructor
    · rintro (h | h)
      · exact h.1
      · exact h.1
    · intro h
      cases c : clA wds j i with
      | true => exact .inl ⟨h, rfl⟩
      | false => exact .inr ⟨h, rfl⟩
  rw [e] at ch
  have l := W.lim i (List.mem_range.mpr hi)
  have g1 : ∀ k, 1 ≤ (if clA wds k i = true then u k else 1) := fun k => by
    have := W.u1 k
    split <;> grind
  have pp := pr_part g1 (M := i :: S.filter fun j => clA wds j i) (L := List.range wds.length) (List.nodup_cons.mpr ⟨fun z => ni (List.mem_filter.mp z).1, nd.sublist List.filter_sublist⟩) (fun x hx => by
    rcases List.mem_cons.mp hx with rfl | hx
    · exact List.mem_range.mpr hi
    · exact List.mem_range.mpr (sb x (List.mem_filter.mp hx).1))
  have e2 : (pr (i :: S.filter fun j => clA wds j i) fun k => if clA wds k i = true then u k else 1) = u i * pr (S.filter fun j => clA wds j i) u := by
    rw [Lw.pr_cons, if_pos (by unfold clA; simp)]
    congr 1
    exact Lw.pr_congr fun k hk => if_pos (List.mem_filter.mp hk).2
  rw [e2] at pp
  have p0 := W.p0 i
  have u1 := W.u1 i
  have ks := kpR_nn h0 R S
  have x1 := Rat.mul_le_mul_of_nonneg_left pp p0
  have x2 := Rat.mul_le_mul_of_nonneg_left ch p0
  generalize kpR hues n wds (S.filter fun j => !clA wds j i) = KT at *
  generalize pr (S.filter fun j => clA wds j i) u = C at *
  generalize (pr (List.range wds.length) fun k => if clA wds k i = true then u k else 1) = G at *
  generalize kpR hues n wds S = KS at *
  generalize kpR hues n wds (i :: S) = KI at *
  generalize shA hues wds i = p at *
  generalize u i = U at *
  have x3 : p * (U * C) ≤ U - 1 := Rat.le_trans x1 l
  have x4 := Rat.mul_le_mul_of_nonneg_right x3 ks
  have x5 := Rat.mul_le_mul_of_nonneg_left (show KS ≤ KI + p * (C * KS) by grind) (show (0 : Rat) ≤ U by grind)
  have x6 : KS ≤ U * KI := by grind
  have x7 := Rat.mul_le_mul_of_nonneg_left x6 (Rat.le_of_lt (Rat.inv_pos.mpr (show (0 : Rat) < U by grind)))
  have x8 : U⁻¹ * (U * KI) = KI := by grind
  rw [x8] at x7
  exact x7
/-- one after another -/
theorem kp_chain (h0 : 0 < hues) (R : WsR hues n wds) (W : Wts (clA wds) (List.range wds.length) (shA hues wds) u) {k : Nat} (cla : ∀ (S : List Nat), S.length ≤ k → S.Nodup → (∀ j ∈ S, j < wds.length) → ∀ i, i < wds.length → i ∉ S → (u i)⁻¹ * kpR hues n wds S ≤ kpR hues n wds (i :: S)) (T : List Nat) : ∀ (C : List Nat), (C ++ T).length ≤ k + 1 → (C ++ T).Nodup → (∀ j ∈ C ++ T, j < wds.length) → kpR hues n wds T ≤ pr C u * kpR hues n wds (C ++ T)
  | [], _, _, _ => by
    rw [Lw.pr_nil, List.nil_append]
    grind
  | c :: C, hl, nd, sb => by
    rw [List.cons_append] at hl nd sb ⊢
    rw [List.length_cons] at hl
    obtain ⟨nc, nC⟩ := List.nodup_cons.mp nd
    have ih := kp_chain h0 R W cla T C (by omega) nC fun j hj => sb j (List.mem_cons_of_mem _ hj)
    have a := cla (C ++ T) (by omega) nC (fun j hj => sb j (List.mem_cons_of_mem _ hj)) c (sb c List.mem_cons_self) nc
    have u1 := W.u1 c
    have pC : 0 ≤ pr C u := Lw.pr_nn fun j _ => by have := W.u1 j; grind
    have b := Rat.mul_le_mul_of_nonneg_left a (show (0 : Rat) ≤ u c by grind)
    have e : u c * ((u c)⁻¹ * kpR hues n wds (C ++ T)) = kpR hues n wds (C ++ T) := by grind
    rw [e] at b
    have d := Rat.mul_le_mul_of_nonneg_left b pC
    rw [Lw.pr_cons]
    grind
theorem split_ok {S : List Nat} {i : Nat} (nd : S.Nodup) : (S.filter (fun j => clA wds j i) ++ S.filter fun j => !clA wds j i).Perm S := List.filter_append_perm _ S
theorem kp_claim (h0 : 0 < hues) (R : WsR hues n wds) (W : Wts (clA wds) (List.range wds.length) (shA hues wds) u) : ∀ (k : Nat) (S : List Nat), S.length ≤ k → S.Nodup → (∀ j ∈ S, j < wds.length) →
    ∀ i, i < wds.length → i ∉ S → (u i)⁻¹ * kpR hues n wds S ≤ kpR hues n wds (i :: S) := by
  intro k
  induction k with
  | zero =>
    intro S hl nd sb i hi ni
    have e : S = [] := List.length_eq_zero_iff.mp (by omega)
    subst e
    refine kp_one h0 R W nd sb hi ni ?_
    rw [List.filter_nil, List.filter_nil, Lw.pr_nil, List.nil_append]
    grind
  | succ k ih =>
    intro S hl nd sb i hi ni
    have pm := split_ok (wds := wds) (i := i) nd
    refine kp_one h0 R W nd sb hi ni (kp_chain h0 R W ih _ _ (by rw [pm.length_eq]; exact hl) (pm.nodup_iff.mpr nd) fun j hj => sb j (pm.mem_iff.mp hj))
/-- as many keep all as the weights tell -/
theorem kp_least (h0 : 0 < hues) (R : WsR hues n wds) (W : Wts (clA wds) (List.range wds.length) (shA hues wds) u) : 1 ≤ pr (List.range wds.length) u * kpR hues n wds (List.range wds.length) := by
  have z := kp_chain h0 R W (k := wds.length) (kp_claim h0 R W wds.length) [] (List.range wds.length) (by rw [List.append_nil, List.length_range]; omega) (by rw [List.append_nil]; exact List.nodup_range) (fun j hj => by rw [List.append_nil] at hj; exact List.mem_range.mp hj)
  rw [List.append_nil] at z
  have e : kpR hues n wds [] = 1 := (avg_wishes h0 R).one
  rw [e] at z
  exact z
theorem kp_whole (h0 : 0 < hues) : ((kpS hues n wds allA : Int) : Rat) = qk hues n * kpR hues n wds (List.range wds.length) := by
  have q := qk_pos h0 n
  unfold kpR avA kpS fS
  rw [sm_cast]
  have e : (sm (fillL hues n) fun f => ((i0 (cbA wds allA f) : Int) : Rat)) = sm (fillL hues n) fun f => if noneB wds (List.range wds.length) f = true then 1 else 0 := Lw.sm_congr fun f hf => by
    unfold i0
    by_cases c : cbA wds allA f = 0
    · have y : noneB wds (List.range wds.length) f = true := by
        unfold noneB
        rw [List.all_eq_true]
        intro i hi
        rw [cb_zero c (List.mem_range.mp hi) rfl]
        rfl
      rw [if_pos c, if_pos y]
      rfl
    · have y : ¬ noneB wds (List.range wds.length) f = true := fun y => c (by
        rw [cb_all (A := allA) fun _ _ => rfl]
        have z : broL f wds wds.length = [] := by
          cases h : broL f wds wds.length with
          | nil => rfl
          | cons k r =>
            obtain ⟨a, b, c⟩ := broL_head h
            unfold noneB at y
            rw [List.all_eq_true] at y
            have := y _ (List.mem_range.mpr a)
            rw [c] at this
            cases this
        rw [z]
        rfl)
      rw [if_neg c, if_neg y]
      rfl
  rw [e]
  grind
end
end Rd

set_option autoImplicit false
set_option Elab.async false
set_option linter.all false
set_option maxRecDepth 100000
set_option maxHeartbeats 4000000
/-! what shown weights tell, in whole numbers -/
namespace Rd
open PySem PySem.Spec PyProof.Rows L2 Dt
open Lw (sm pr V Ops Avg Wts Ph)
theorem castN (k : Nat) : (((k : Nat) : Int) : Rat) = (k : Rat) := Rat.intCast_natCast k
theorem four_mul (D q S F : Rat) : D * q * S * F = S * F * (D * q) := by grind
theorem six_mul {a P Q b G : Rat} (q : 0 < Q) : a * P * Q * Q⁻¹ * b⁻¹ * G = a / b * (P * G) := by grind
/-- one by one less the weight -/
def uW (ws : List Fc) (i : Nat) : Rat := ((wAt ws i).2 : Rat) / (((wAt ws i).2 - (wAt ws i).1 : Int) : Rat)
section
variable {ws : List Fc} {Bd : Int}
theorem wAt_lt (g : GoodW Bd ws) (i : Nat) : 1 ≤ (wAt ws i).1 ∧ (wAt ws i).1 < (wAt ws i).2 := by
  unfold wAt
  by_cases h : i < ws.length
  · rw [Dt.getD_get h]
    obtain ⟨a, b, _⟩ := g.each _ (List.getElem_mem h)
    exact ⟨a, b⟩
  · rw [List.getD_eq_getElem?_getD, List.getElem?_eq_none (by omega)]
    exact ⟨by decide, by decide⟩
theorem cast_pos {z : Int} (h : 1 ≤ z) : (0 : Rat) < (z : Rat) := Rat.intCast_pos.mpr (by omega)
theorem uW_ok (g : GoodW Bd ws) (i : Nat) : 1 ≤ uW ws i ∧ uW ws i - 1 = ((wAt ws i).1 : Rat) / (((wAt ws i).2 - (wAt ws i).1 : Int) : Rat) ∧ (uW ws i)⁻¹ = (((wAt ws i).2 - (wAt ws i).1 : Int) : Rat) / ((wAt ws i).2 : Rat) ∧ uW ws i - 1 = ((wAt ws i).1 : Rat) / ((wAt ws i).2 : Rat) * uW ws i := by
  obtain ⟨a1, ab⟩ := wAt_lt g i
  unfold uW
  generalize (wAt ws i).1 = a at *
  generalize (wAt ws i).2 = b at *
  have d0 := cast_pos (show 1 ≤ b - a by omega)
  have b0 := cast_pos (show 1 ≤ b by omega)
  have a0 := cast_pos a1
  rw [Rat.intCast_sub] at *
  generalize (a : Rat) = A at *
  generalize (b : Rat) = B at *
  have e : B / (B - A) - 1 = A / (B - A) := by grind
  refine ⟨?_, e, by grind, by grind⟩
  have z : 0 ≤ A / (B - A) := by
    rw [Rat.div_def]
    exact Rat.mul_nonneg (Rat.le_of_lt a0) (Rat.le_of_lt (Rat.inv_pos.mpr d0))
  grind
theorem room_val (g : GoodW Bd ws) (i : Nat) : ∀ (l : List Int) (p : Fc), 1 ≤ p.2 → 1 ≤ (l.foldl (stepW ws i) p).2 ∧ ((l.foldl (stepW ws i) p).1 : Rat) * (p.2 : Rat) = (p.1 : Rat) * (pr l fun z => if z = (i : Int) then 1 else (uW ws z.toNat)⁻¹) * ((l.foldl (stepW ws i) p).2 : Rat)
  | [], p, h => ⟨h, by
    rw [Lw.pr_nil]
    show (p.1 : Rat) * _ = _ * 1 * (p.2 : Rat)
    grind⟩
  | z :: l, p, h => by
    rw [List.foldl_cons, Lw.pr_cons]
    by_cases c : z = (i : Int)
    · have e : stepW ws i p z = p := if_pos c
      rw [e, if_pos c]
      obtain ⟨x, y⟩ := room_val g i l p h
      refine ⟨x, ?_⟩
      rw [y]
      grind
    · have e : stepW ws i p z = (p.1 * ((wAt ws z.toNat).2 - (wAt ws z.toNat).1), p.2 * (wAt ws z.toNat).2) := if_neg c
      rw [e, if_neg c]
      obtain ⟨a1, ab⟩ := wAt_lt g z.toNat
      obtain ⟨_, _, ui, _⟩ := uW_ok g z.toNat
      rw [ui]
      obtain ⟨x, y⟩ := room_val g i l (p.1 * ((wAt ws z.toNat).2 - (wAt ws z.toNat).1), p.2 * (wAt ws z.toNat).2) (mul_pos1 h (by omega))
      refine ⟨x, ?_⟩
      dsimp only at y
      rw [Rat.intCast_mul, Rat.intCast_mul] at y
      have b0 := cast_pos (show 1 ≤ (wAt ws z.toNat).2 by omega)
      generalize (((wAt ws z.toNat).2 - (wAt ws z.toNat).1 : Int) : Rat) = D at *
      generalize ((wAt ws z.toNat).2 : Rat) = B at *
      grind
theorem mend_val (g : GoodW Bd ws) : ∀ (l : List Fc), (∀ x ∈ l, 1 ≤ x.1 ∧ x.1 < x.2) → ∀ p : Fc, 1 ≤ p.2 → 1 ≤ (l.foldl mSt p).2 ∧ ((l.foldl mSt p).1 : Rat) * (p.2 : Rat) = ((p.1 : Rat) + (p.2 : Rat) * sm l fun x => (x.1 : Rat) / ((x.2 - x.1 : Int) : Rat)) * ((l.foldl mSt p).2 : Rat)
  | [], _, p, h => ⟨h, by
    rw [Lw.sm_nil]
    show (p.1 : Rat) * _ = (_ + _ * 0) * (p.2 : Rat)
    grind⟩
  | x :: l, hx, p, h => by
    obtain ⟨a1, ab⟩ := hx x List.mem_cons_self
    rw [List.foldl_cons, Lw.sm_cons]
    have e : mSt p x = (p.1 * (x.2 - x.1) + x.1 * p.2, p.2 * (x.2 - x.1)) := rfl
    rw [e]
    obtain ⟨u, v⟩ := mend_val g l (fun y hy => hx y (List.mem_cons_of_mem _ hy)) (p.1 * (x.2 - x.1) + x.1 * p.2, p.2 * (x.2 - x.1)) (mul_pos1 h (by omega))
    refine ⟨u, ?_⟩
    dsimp only at v
    rw [Rat.intCast_mul, Rat.intCast_add, Rat.intCast_mul, Rat.intCast_mul] at v
    have d0 := cast_pos (show 1 ≤ x.2 - x.1 by omega)
    generalize ((x.2 - x.1 : Int) : Rat) = D at *
    generalize (sm l fun x => (x.1 : Rat) / ((x.2 - x.1 : Int) : Rat)) = S at *
    grind
theorem kept_val : ∀ (l : List Fc), (∀ x ∈ l, 1 ≤ x.1 ∧ x.1 < x.2) → ∀ p : Fc, 1 ≤ p.2 → 1 ≤ (l.foldl kSt p).2 ∧ ((l.foldl kSt p).1 : Rat) * (p.2 : Rat) = (p.1 : Rat) * (pr l fun x => ((x.2 - x.1 : Int) : Rat) / (x.2 : Rat)) * ((l.foldl kSt p).2 : Rat)
  | [], _, p, h => ⟨h, by
    rw [Lw.pr_nil]
    show (p.1 : Rat) * _ = _ * 1 * (p.2 : Rat)
    grind⟩
  | x :: l, hx, p, h => by
    obtain ⟨a1, ab⟩ := hx x List.mem_cons_self
    rw [List.foldl_cons, Lw.pr_cons]
    have e : kSt p x = (p.1 * (x.2 - x.1), p.2 * x.2) := rfl
    rw [e]
    obtain ⟨u, v⟩ := kept_val l (fun y hy => hx y (List.mem_cons_of_mem _ hy)) (p.1 * (x.2 - x.1), p.2 * x.2) (mul_pos1 h (by omega))
    refine ⟨u, ?_⟩
    dsimp only at v
    rw [Rat.intCast_mul, Rat.intCast_mul] at v
    have b0 := cast_pos (show 1 ≤ x.2 by omega)
    generalize ((x.2 - x.1 : Int) : Rat) = D at *
    generalize (x.2 : Rat) = B at *
    grind
theorem pr_map {α β : Type} (f : β → α) (g : α → Rat) : ∀ l : List β, pr (l.map f) g = pr l fun x => g (f x)
  | [] => rfl
  | x :: l => by rw [List.map_cons, Lw.pr_cons, Lw.pr_cons, pr_map f g l]
theorem pr_filter {α : Type} (p : α → Bool) (g : α → Rat) : ∀ l : List α, pr (l.filter p) g = pr l fun x => if p x = true then g x else 1
  | [] => rfl
  | x :: l => by
    rw [List.filter_cons, Lw.pr_cons, ← pr_filter p g l]
    split
    · rw [Lw.pr_cons]
    · grind
theorem ws_map (ws : List Fc) : ws = (List.range ws.length).map (wAt ws) := by
  refine List.ext_getElem (by rw [List.length_map, List.length_range]) fun i h1 h2 => ?_
  rw [List.getElem_map, List.getElem_range]
  unfold wAt
  rw [Dt.getD_get h1]
theorem pr_single (x : Rat) (i : Nat) : ∀ {l : List Nat}, l.Nodup → (pr l fun k => if k = i then x else 1) = if i ∈ l then x else 1
  | [], _ => by rw [Lw.pr_nil, if_neg (List.not_mem_nil)]
  | k :: l, nd => by
    obtain ⟨nk, nl⟩ := List.nodup_cons.mp nd
    rw [Lw.pr_cons, pr_single x i nl]
    by_cases c : k = i
    · subst c
      rw [if_pos rfl, if_neg nk, if_pos List.mem_cons_self]
      grind
    · rw [if_neg c]
      by_cases m : i ∈ l
      · rw [if_pos m, if_pos (List.mem_cons_of_mem _ m)]
        grind
      · rw [if_neg m, if_neg fun z => (List.mem_cons.mp z).elim (fun y => c y.symm) m]
        grind
end
section
variable {many hues : Int} {wds : List WD} {ws : List Fc} {Bd : Int}
theorem cls_pr (g : GoodW Bd ws) {i : Nat} (hi : i < wds.length) : (pr (clsL wds wds[i] wds.length) fun z => if z = (i : Int) then 1 else (uW ws z.toNat)⁻¹) * (pr (List.range wds.length) fun k => if clA wds k i = true then uW ws k else 1) = uW ws i := by
  unfold clsL
  rw [pr_map, pr_filter, ← Lw.pr_mul]
  have e : (pr (List.range wds.length) fun k : Nat => (if clAt wds wds[i] k = true then (if (k : Int) = (i : Int) then (1 : Rat) else (uW ws ((k : Int)).toNat)⁻¹) else 1) * if clA wds k i = true then uW ws k else 1) = pr (List.range wds.length) fun k => if k = i then uW ws i else 1 := Lw.pr_congr fun k hk => by
    have hk := List.mem_range.mp hk
    rw [clAt_of (List.getElem?_eq_getElem hk), Int.toNat_natCast]
    by_cases c : k = i
    · subst c
      have hA : clA wds k k = true := by unfold clA; simp
      rw [if_pos rfl, if_pos rfl, if_pos hA]
      split <;> grind
    · rw [if_neg c, if_neg (show ¬ (k : Int) = (i : Int) by omega)]
      have e2 : clA wds k i = clB wds[i] wds[k] := by
        unfold clA
        rw [decide_eq_false c, Bool.false_or, clash_sym, clash_cl hi hk]
      rw [e2]
      have u1 := (uW_ok g k).1
      split
      · grind
      · grind
  rw [e, pr_single _ _ List.nodup_range, if_pos (List.mem_range.mpr hi)]
theorem wts_shown (gr : GoodR many hues wds) (g : GoodW Bd ws) (sh : shownB wds hues ws = true) : Wts (clA wds) (List.range wds.length) (shA hues.toNat wds) (uW ws) where
  p0 := fun i => by
    unfold shA qk
    rw [Rat.div_def]
    have h2 := gr.h2
    have q := qk_pos (hues := hues.toNat) (by omega) (plcs wds (i : Int)).length
    exact Rat.mul_nonneg Rat.natCast_nonneg (Rat.le_of_lt (Rat.inv_pos.mpr q))
  u1 := fun i => (uW_ok g i).1
  lim := fun i hi => by
    have hi := List.mem_range.mp hi
    have h2 := gr.h2
    unfold shownB at sh
    have ok := (List.all_eq_true.mp sh) i (List.mem_range.mpr hi)
    rw [okW_of (List.getElem?_eq_getElem hi)] at ok
    have ok := of_decide_eq_true ok
    obtain ⟨a1, ab⟩ := wAt_lt g i
    obtain ⟨u1, _, _, u4⟩ := uW_ok g i
    obtain ⟨r2, rv⟩ := room_val g i (clsL wds wds[i] wds.length) (wAt ws i) (by omega)
    have cp := cls_pr (wds := wds) g hi
    have okR := Rat.intCast_le_intCast.mpr ok
    rw [Rat.intCast_mul, Rat.intCast_mul, castN] at okR
    have q := qk_pos (hues := hues.toNat) (by omega) (plcs wds (i : Int)).length
    have ev : ((everyI wds[i] hues : Int) : Rat) = qk hues.toNat (plcs wds (i : Int)).length := by
      unfold everyI qk
      rw [plcs_at hi, ← castN, Int.natCast_pow, Int.toNat_of_nonneg (by omega)]
    rw [ev] at okR
    have sh : shA hues.toNat wds i = (wds[i].2.length : Rat) / qk hues.toNat (plcs wds (i : Int)).length := by
      unfold shA
      rw [Dt.getD_get hi]
    rw [sh, u4]
    unfold roomF at okR
    have r0 := cast_pos r2
    have b0 := cast_pos (show 1 ≤ (wAt ws i).2 by omega)
    have a0 := cast_pos a1
    have G0 : 0 ≤ pr (List.range wds.length) fun k => if clA wds k i = true then uW ws k else 1 := Lw.pr_nn fun k _ => by
      have := (uW_ok g k).1
      split <;> grind
    generalize (((clsL wds wds[i] wds.length).foldl (stepW ws i) (wAt ws i)).1 : Rat) = F1 at *
    generalize (((clsL wds wds[i] wds.length).foldl (stepW ws i) (wAt ws i)).2 : Rat) = F2 at *
    generalize (pr (clsL wds wds[i] wds.length) fun z => if z = (i : Int) then 1 else (uW ws z.toNat)⁻¹) = P at *
    generalize (pr (List.range wds.length) fun k => if clA wds k i = true then uW ws k else 1) = G at *
    generalize qk hues.toNat (plcs wds (i : Int)).length = Q at *
    generalize ((wds[i].2.length : Nat) : Rat) = Rr at *
    generalize uW ws i = U at *
    generalize ((wAt ws i).1 : Rat) = a at *
    generalize ((wAt ws i).2 : Rat) = b at *
    -- Rr / Q <= a / b * P
    have x1 : Rr * b ≤ a * P * Q := by
      have y1 := Rat.mul_le_mul_of_nonneg_right okR (Rat.le_of_lt b0)
      have y2 : Rr * F2 * b = F2 * (Rr * b) := by grind
      have y3 : F1 * Q * b = F2 * (a * P * Q) := by grind
      rw [y2, y3] at y1
      exact Rat.le_of_mul_le_mul_left y1 r0
    have x2 := Rat.mul_le_mul_of_nonneg_right x1 (Rat.le_of_lt (Rat.inv_pos.mpr q))
    have x3 := Rat.mul_le_mul_of_nonneg_right x2 (Rat.le_of_lt (Rat.inv_pos.mpr b0))
    have x4 := Rat.mul_le_mul_of_nonneg_right x3 G0
    have e1 : Rr * b * Q⁻¹ * b⁻¹ * G = Rr / Q * G := by grind
    have e2 : a * P * Q * Q⁻¹ * b⁻¹ * G = a / b * U := by
      rw [← cp]
      exact six_mul q
    rw [e1, e2] at x4
    exact x4
/-- least_kept and most_mended, before they are brought to lowest terms -/
theorem kept_bound (gr : GoodR many hues wds) (R : WsR hues.toNat many.toNat wds) (g : GoodW Bd ws) (hl : ws.length = wds.length) (sh : shownB wds hues ws = true) : (keptF (hues ^ many.toNat) ws).1 ≤ kpS hues.toNat many.toNat wds allA * (keptF (hues ^ many.toNat) ws).2 ∧ 1 ≤ (keptF (hues ^ many.toNat) ws).2 := by
  have h2 := gr.h2
  have h0 : 0 < hues.toNat := by omega
  have W := wts_shown gr g sh
  have kl := kp_least h0 R W
  have kw := kp_whole (n := many.toNat) (wds := wds) h0
  have ok : ∀ x ∈ ws, 1 ≤ x.1 ∧ x.1 < x.2 := fun x hx => ⟨(g.each x hx).1, (g.each x hx).2.1⟩
  obtain ⟨k2, kv⟩ := kept_val ws ok (hues ^ many.toNat, 1) (by show (1 : Int) ≤ 1; decide)
  refine ⟨Rat.intCast_le_intCast.mp ?_, k2⟩
  rw [Rat.intCast_mul, kw]
  have e1 : (pr ws fun x => ((x.2 - x.1 : Int) : Rat) / (x.2 : Rat)) = pr (List.range wds.length) fun i => (uW ws i)⁻¹ := by
    rw [show (pr ws fun x => ((x.2 - x.1 : Int) : Rat) / (x.2 : Rat)) = pr ((List.range ws.length).map (wAt ws)) fun x => ((x.2 - x.1 : Int) : Rat) / (x.2 : Rat) from congrArg (fun l => pr l fun x : Fc => ((x.2 - x.1 : Int) : Rat) / (x.2 : Rat)) (ws_map ws), pr_map, hl]
    exact Lw.pr_congr fun i _ => (uW_ok g i).2.2.1.symm
  have e2 : (pr (List.range wds.length) fun i => (uW ws i)⁻¹) * pr (List.range wds.length) (uW ws) = 1 := by
    rw [← Lw.pr_mul, Lw.pr_congr (h := fun _ => 1) fun i _ => by have := (uW_ok g i).1; grind, Lw.pr_ones]
  have eN : (((hues ^ many.toNat : Int)) : Rat) = qk hues.toNat many.toNat := by
    unfold qk
    rw [← castN, Int.natCast_pow, Int.toNat_of_nonneg (by omega)]
  rw [e1] at kv
  dsimp only at kv
  rw [eN] at kv
  have q := qk_pos h0 many.toNat
  have d0 : 0 ≤ pr (List.range wds.length) fun i => (uW ws i)⁻¹ := Lw.pr_nn fun i _ => Rat.le_of_lt (Rat.inv_pos.mpr (by have := (uW_ok g i).1; grind))
  have f0 := cast_pos k2
  have x1 := Rat.mul_le_mul_of_nonneg_left kl d0
  unfold keptF
  generalize ((ws.foldl kSt (hues ^ many.toNat, 1)).1 : Rat) = F1 at *
  generalize ((ws.foldl kSt (hues ^ many.toNat, 1)).2 : Rat) = F2 at *
  generalize (pr (List.range wds.length) fun i => (uW ws i)⁻¹) = d at *
  generalize pr (List.range wds.length) (uW ws) = U at *
  generalize kpR hues.toNat many.toNat wds (List.range wds.length) = K at *
  generalize qk hues.toNat many.toNat = N at *
  have x2 : d ≤ K := by
    have y : d * (U * K) = K := by rw [← Rat.mul_assoc, e2, Rat.one_mul]
    rw [y, Rat.mul_one] at x1
    exact x1
  have x3 := Rat.mul_le_mul_of_nonneg_right (Rat.mul_le_mul_of_nonneg_left x2 (Rat.le_of_lt q)) (Rat.le_of_lt f0)
  have o : ((1 : Int) : Rat) = 1 := rfl
  rw [o] at kv
  grind
theorem mend_bound (gr : GoodR many hues wds) (R : WsR hues.toNat many.toNat wds) (g : GoodW Bd ws) (hl : ws.length = wds.length) (sh : shownB wds hues ws = true) {X : List Int → Int} {D : Int} (D1 : 1 ≤ D) (X0 : ∀ f, 0 ≤ X f) (kept : ∀ f ∈ fillL hues.toNat many.toNat, mendsL hues.toNat wds f = [] → X f = 0)
    (row : ∀ f ∈ fillL hues.toNat many.toNat, mendsL hues.toNat wds f ≠ [] → ((mendsL hues.toNat wds f).length : Int) * X f = ((mendsL hues.toNat wds f).length : Int) * D + ((mendsL hues.toNat wds f).map X).sum) :
    fS hues.toNat many.toNat X * (mendF ws).2 ≤ (mendF ws).1 * (D * ((hues.toNat ^ many.toNat : Nat) : Int)) ∧ 1 ≤ (mendF ws).2 := by
  have h2 := gr.h2
  have h0 : 0 < hues.toNat := by omega
  have W := wts_shown gr g sh
  have mb := mean_by h0 R W D1 X0 kept row
  have ok : ∀ x ∈ ws, 1 ≤ x.1 ∧ x.1 < x.2 := fun x hx => ⟨(g.each x hx).1, (g.each x hx).2.1⟩
  obtain ⟨k2, kv⟩ := mend_val g ws ok (0, 1) (by decide)
  refine ⟨Rat.intCast_le_intCast.mp ?_, k2⟩
  rw [Rat.intCast_mul, Rat.intCast_mul, Rat.intCast_mul, castN]
  have e1 : (sm ws fun x => (x.1 : Rat) / ((x.2 - x.1 : Int) : Rat)) = sm (List.range wds.length) fun i => uW ws i - 1 := by
    rw [show (sm ws fun x => (x.1 : Rat) / ((x.2 - x.1 : Int) : Rat)) = sm ((List.range ws.length).map (wAt ws)) fun x => (x.1 : Rat) / ((x.2 - x.1 : Int) : Rat) from congrArg (fun l => sm l fun x : Fc => (x.1 : Rat) / ((x.2 - x.1 : Int) : Rat)) (ws_map ws), Lw.sm_map, hl]
    exact Lw.sm_congr fun i _ => (uW_ok g i).2.1.symm
  rw [e1] at kv
  dsimp only at kv
  have f0 := cast_pos k2
  have o : ((1 : Int) : Rat) = 1 := rfl
  have z : ((0 : Int) : Rat) = 0 := rfl
  rw [o, z] at kv
  have x1 := Rat.mul_le_mul_of_nonneg_right mb (Rat.le_of_lt f0)
  unfold mendF qk at *
  generalize ((ws.foldl mSt (0, 1)).1 : Rat) = F1 at *
  generalize ((ws.foldl mSt (0, 1)).2 : Rat) = F2 at *
  generalize (sm (List.range wds.length) fun i => uW ws i - 1) = S at *
  rw [Rat.mul_one, Rat.zero_add, Rat.one_mul] at kv
  rw [kv]
  rw [four_mul] at x1
  exact x1
end
end Rd

set_option linter.all false
namespace Rd
/-! elimination with whole numbers: what its divisions leave is whole -/
def sm : Nat → (Nat → Int) → Int
  | 0, _ => 0
  | n + 1, f => sm n f + f n
theorem sm_succ (n : Nat) (f : Nat → Int) : sm (n + 1) f = sm n f + f n := rfl
theorem sm_congr {n : Nat} {f g : Nat → Int} (h : ∀ i, i < n → f i = g i) : sm n f = sm n g := by
  induction n with
  | zero => rfl
  | succ n ih => simp only [sm_succ]; rw [ih fun i hi => h i (by omega), h n (by omega)]
theorem sm_add (n : Nat) (f g : Nat → Int) : sm n (fun i => f i + g i) = sm n f + sm n g := by
  induction n with
  | zero => rfl
  | succ n ih => simp only [sm_succ]; rw [ih]; omega
theorem sm_sub (n : Nat) (f g : Nat → Int) : sm n (fun i => f i - g i) = sm n f - sm n g := by
  induction n with
  | zero => rfl
  | succ n ih => simp only [sm_succ]; rw [ih]; omega
theorem sm_mul (n : Nat) (c : Int) (f : Nat → Int) : sm n (fun i => c * f i) = c * sm n f := by
  induction n with
  | zero => exact (Int.mul_zero c).symm
  | succ n ih => simp only [sm_succ]; rw [ih, Int.mul_add]
theorem sm_zero (n : Nat) : sm n (fun _ => 0) = 0 := by
  induction n with
  | zero => rfl
  | succ n ih => simp only [sm_succ]; rw [ih]; rfl
theorem sm_le {n : Nat} {f g : Nat → Int} (h : ∀ i, i < n → f i ≤ g i) : sm n f ≤ sm n g := by
  induction n with
  | zero => exact Int.le_refl _
  | succ n ih =>
    simp only [sm_succ]
    have := ih fun i hi => h i (by omega)
    have := h n (by omega)
    omega
theorem sm_lt {n : Nat} {f g : Nat → Int} (h : ∀ i, i < n → f i ≤ g i) {j : Nat} (hj : j < n) (lt : f j < g j) : sm n f < sm n g := by
  induction n with
  | zero => omega
  | succ n ih =>
    simp only [sm_succ]
    have hn := h n (by omega)
    by_cases e : j = n
    · subst e
      have := sm_le (n := j) (f := f) (g := g) fun i hi => h i (by omega)
      omega
    · have := ih (fun i hi => h i (by omega)) (by omega)
      omega
theorem sm_mono {m n : Nat} {f : Nat → Int} (h : ∀ i, i < n → 0 ≤ f i) (le : m ≤ n) : sm m f ≤ sm n f := by
  induction n with
  | zero => rw [show m = 0 by omega]; exact Int.le_refl _
  | succ n ih =>
    by_cases e : m = n + 1
    · rw [e]; exact Int.le_refl _
    · simp only [sm_succ]
      have := ih (fun i hi => h i (by omega)) (by omega)
      have := h n (by omega)
      omega
theorem sm_mono_lt {m n : Nat} {f : Nat → Int} (h : ∀ i, i < n → 0 ≤ f i) (le : m ≤ n) {j : Nat} (mj : m ≤ j) (hj : j < n) (pos : 0 < f j) : sm m f < sm n f := by
  induction n with
  | zero => omega
  | succ n ih =>
    simp only [sm_succ]
    have hn := h n (by omega)
    by_cases e : j = n
    · subst e
      have := sm_mono (n := j) (m := m) (f := f) (fun i hi => h i (by omega)) (by omega)
      omega
    · have := ih (fun i hi => h i (by omega)) (by omega) (by omega)
      omega
theorem sm_one (n c : Nat) (hc : c < n) (f : Nat → Int) : sm n (fun i => if i = c then f i else 0) = f c := by
  induction n with
  | zero => omega
  | succ n ih =>
    simp only [sm_succ]
    by_cases e : c = n
    · subst e
      rw [if_pos rfl, sm_congr (g := fun _ => 0) fun i hi => if_neg (by omega), sm_zero]
      omega
    · rw [ih (by omega), if_neg (by omega)]
      omega
/-- expansion along a row -/
def dl (r : Nat → Int) : List Nat → (List Nat → Int) → Int
  | [], _ => 0
  | c :: cs, F => r c * F cs - dl r cs fun ds => F (c :: ds)
theorem dl_congr (r : Nat → Int) (cs : List Nat) : ∀ {F G : List Nat → Int}, (∀ ds, F ds = G ds) → dl r cs F = dl r cs G := by
  intro F G h
  rw [show F = G from funext h]
theorem dl_sub (r : Nat → Int) (cs : List Nat) : ∀ (a : Int) (F G : List Nat → Int), dl r cs (fun ds => a * F ds - G ds) = a * dl r cs F - dl r cs G := by
  induction cs with
  | nil => intro a F G; exact (by unfold dl; omega)
  | cons c cs ih =>
    intro a F G
    unfold dl
    rw [ih a (fun ds => F (c :: ds)) (fun ds => G (c :: ds))]
    rw [Int.mul_sub, Int.mul_sub, Int.mul_left_comm]
    omega
theorem dl_zero (r : Nat → Int) (cs : List Nat) : dl r cs (fun _ => 0) = 0 := by
  induction cs with
  | nil => rfl
  | cons c cs ih => unfold dl; simp only [ih]; omega
theorem dl_dl (r : Nat → Int) (cs : List Nat) : ∀ F, dl r cs (fun ds => dl r ds F) = 0 := by
  induction cs with
  | nil => intro F; rfl
  | cons c cs ih =>
    intro F
    have e : dl r cs (fun ds => dl r (c :: ds) F) = dl r cs (fun ds => r c * F ds - dl r ds fun es => F (c :: es)) := rfl
    show r c * dl r cs F - dl r cs (fun ds => dl r (c :: ds) F) = 0
    rw [e, dl_sub, ih]
    omega
theorem dl_anti (r s : Nat → Int) (cs : List Nat) : ∀ F, dl r cs (fun ds => dl s ds F) = - dl s cs (fun ds => dl r ds F) := by
  induction cs with
  | nil => intro F; rfl
  | cons c cs ih =>
    intro F
    show r c * dl s cs F - dl r cs (fun ds => s c * F ds - dl s ds fun es => F (c :: es)) = - (s c * dl r cs F - dl s cs (fun ds => r c * F ds - dl r ds fun es => F (c :: es)))
    rw [dl_sub, dl_sub, ih]
    omega
def dt : List (Nat → Int) → List Nat → Int
  | [], cs => if cs = [] then 1 else 0
  | r :: rs, cs => dl r cs (dt rs)
theorem dt_dup {r : Nat → Int} {rs : List (Nat → Int)} (h : r ∈ rs) : ∀ cs, dl r cs (dt rs) = 0 := by
  induction rs with
  | nil => cases h
  | cons s rs ih =>
    intro cs
    show dl r cs (fun ds => dl s ds (dt rs)) = 0
    rcases List.mem_cons.mp h with rfl | h
    · exact dl_dl r cs _
    · rw [dl_anti, dl_congr s cs (G := fun _ => 0) fun ds => ih h ds, dl_zero]
      rfl
/-- how often an entry counts in the expansion -/
def cf : List Nat → (List Nat → Int) → Nat → Int
  | [], _, _ => 0
  | c :: cs, F, l => (if l = c then F cs else 0) - cf cs (fun ds => F (c :: ds)) l
theorem dl_cf (r : Nat → Int) (n : Nat) (cs : List Nat) : ∀ F, (∀ c ∈ cs, c < n) → dl r cs F = sm n fun l => r l * cf cs F l := by
  induction cs with
  | nil => intro F _; exact ((sm_congr fun i _ => Int.mul_zero _).trans (sm_zero n)).symm
  | cons c cs ih =>
    intro F h
    show r c * F cs - dl r cs (fun ds => F (c :: ds)) = _
    rw [ih _ fun c hc => h c (List.mem_cons_of_mem _ hc)]
    have e : (sm n fun l => r l * cf (c :: cs) F l) = sm n fun l => (if l = c then r l * F cs else 0) - r l * cf cs (fun ds => F (c :: ds)) l := by
      refine sm_congr fun i _ => ?_
      show r i * ((if i = c then F cs else 0) - cf cs (fun ds => F (c :: ds)) i) = _
      rw [Int.mul_sub]
      by_cases z : i = c
      · rw [if_pos z, if_pos z]
      · rw [if_neg z, if_neg z, Int.mul_zero]
    rw [e, sm_sub, sm_one n c (h c List.mem_cons_self) fun l => r l * F cs]
def dn : Nat → List Nat
  | 0 => []
  | n + 1 => n :: dn n
theorem dn_lt {n c : Nat} (h : c ∈ dn n) : c < n := by
  induction n with
  | zero => cases h
  | succ n ih =>
    rcases List.mem_cons.mp h with rfl | h
    · exact Nat.lt_succ_self _
    · have := ih h
      omega
section
variable (A : Nat → Nat → Int)
def dD (k : Nat) : Int := dt ((dn k).map A) (dn k)
def dZ (k j l : Nat) : Int := cf (dn k) (fun ds => dt ((dn k).map A) (j :: ds)) l
theorem dD_zero : dD A 0 = 1 := rfl
theorem mem_dn {i k : Nat} (h : i < k) : i ∈ dn k := by
  induction k with
  | zero => omega
  | succ k ih =>
    by_cases e : i = k
    · rw [e]; exact List.mem_cons_self
    · exact List.mem_cons_of_mem _ (ih (by omega))
theorem dZ_row {k j i : Nat} (h : i < k) : sm k (fun l => A i l * dZ A k j l) = A i j * dD A k := by
  have z := dt_dup (r := A i) (rs := (dn k).map A) (List.mem_map_of_mem (mem_dn h)) (j :: dn k)
  have z : A i j * dD A k - dl (A i) (dn k) (fun ds => dt ((dn k).map A) (j :: ds)) = 0 := z
  rw [dl_cf (A i) k (dn k) _ fun c hc => dn_lt hc] at z
  show sm k (fun l => A i l * cf (dn k) (fun ds => dt ((dn k).map A) (j :: ds)) l) = _
  omega
theorem dD_succ (k : Nat) : dD A (k + 1) = A k k * dD A k - sm k fun l => A k l * dZ A k k l := by
  show A k k * dD A k - dl (A k) (dn k) (fun ds => dt ((dn k).map A) (k :: ds)) = _
  rw [dl_cf (A k) k (dn k) _ fun c hc => dn_lt hc]
  rfl
/-- where sums of rows are at most nought, so are the unknowns -/
def Mpp (n : Nat) : Prop := ∀ m, m ≤ n → ∀ y : Nat → Int, (∀ i, i < m → sm m (fun l => A i l * y l) ≤ 0) → ∀ i, i < m → y i ≤ 0
variable {A}
theorem Mpp.inj {n : Nat} (h : Mpp A n) {m : Nat} (le : m ≤ n) {y z : Nat → Int} (e : ∀ i, i < m → sm m (fun l => A i l * y l) = sm m (fun l => A i l * z l)) : ∀ i, i < m → y i = z i := by
  have d : ∀ (y z : Nat → Int), (∀ i, i < m → sm m (fun l => A i l * y l) = sm m (fun l => A i l * z l)) → ∀ i, i < m → y i ≤ z i := fun y z e i hi => by
    have := h m le (fun l => y l - z l) (fun i hi => by
      rw [sm_congr (g := fun l => A i l * y l - A i l * z l) fun l _ => Int.mul_sub _ _ _, sm_sub, e i hi]
      omega) i hi
    omega
  intro i hi
  have a := d y z e i hi
  have b := d z y (fun i hi => (e i hi).symm) i hi
  omega
theorem Mpp.pos {n : Nat} (h : Mpp A n) : ∀ k, k ≤ n → 0 < dD A k := by
  intro k
  induction k with
  | zero => intro _; rw [dD_zero]; omega
  | succ k ih =>
    intro le
    have p0 := ih (by omega)
    refine Int.not_le.mp fun np => ?_
    have := h (k + 1) le (fun l => if l = k then dD A k else - dZ A k k l) (fun i hi => ?_) k (by omega)
    · rw [if_pos rfl] at this
      omega
    · have e : sm (k + 1) (fun l => A i l * (if l = k then dD A k else - dZ A k k l)) = A i k * dD A k - sm k (fun l => A i l * dZ A k k l) := by
        simp only [sm_succ]
        rw [if_pos trivial, sm_congr (g := fun l => 0 - A i l * dZ A k k l) fun l hl => by rw [if_neg (by omega), Int.mul_neg]; omega, sm_sub, sm_zero]
        omega
      rw [e]
      by_cases c : i = k
      · rw [c, ← dD_succ]
        exact np
      · rw [dZ_row A (by omega)]
        omega
/-- the table behind k steps -/
def dT (A : Nat → Nat → Int) (k i j : Nat) : Int :=
  if j < k then (if i = j then dD A k else 0) else if i < k then dZ A k j i else A i j * dD A k - sm k fun l => A i l * dZ A k j l
theorem dT_zero (i j : Nat) : dT A 0 i j = A i j := by
  unfold dT
  rw [if_neg (by omega), if_neg (by omega), dD_zero]
  show A i j * 1 - 0 = _
  omega
theorem dT_pivot (k : Nat) : dT A k k k = dD A (k + 1) := by
  unfold dT
  rw [if_neg (by omega), if_neg (by omega), dD_succ]
theorem alg1 (a b c d e f g : Int) (h1 : a = b) : a = b := h1
theorem Mpp.new {n : Nat} (h : Mpp A n) {k : Nat} (le : k < n) {j : Nat} (hj : k < j) : ∀ l, l < k + 1 → (if l = k then dD A k * dT A k k j else dD A (k + 1) * dZ A k j l - dZ A k k l * dT A k k j) = dD A k * dZ A (k + 1) j l := by
  refine h.inj (m := k + 1) (by omega) fun i hi => ?_
  have tk : dT A k k j = A k j * dD A k - sm k fun l => A k l * dZ A k j l := by
    unfold dT
    rw [if_neg (by omega), if_neg (by omega)]
  have r : sm (k + 1) (fun l => A i l * (dD A k * dZ A (k + 1) j l)) = dD A k * (A i j * dD A (k + 1)) := by
    rw [sm_congr (g := fun l => dD A k * (A i l * dZ A (k + 1) j l)) fun l _ => Int.mul_left_comm _ _ _, sm_mul, dZ_row A hi]
  rw [r]
  have l0 : sm (k + 1) (fun l => A i l * (if l = k then dD A k * dT A k k j else dD A (k + 1) * dZ A k j l - dZ A k k l * dT A k k j)) = dD A (k + 1) * (sm k fun l => A i l * dZ A k j l) - dT A k k j * (sm k fun l => A i l * dZ A k k l) + A i k * (dD A k * dT A k k j) := by
    simp only [sm_succ]
    rw [if_pos trivial, sm_congr (g := fun l => dD A (k + 1) * (A i l * dZ A k j l) - dT A k k j * (A i l * dZ A k k l)) fun l hl => by
      rw [if_neg (by omega), Int.mul_sub, Int.mul_left_comm, Int.mul_comm (dZ A k k l), Int.mul_left_comm (A i l) (dT A k k j)], sm_sub, sm_mul, sm_mul]
  rw [l0]
  by_cases c : i = k
  · subst c
    have e1 : (sm i fun l => A i l * dZ A i j l) = A i j * dD A i - dT A i i j := by omega
    have e2 : (sm i fun l => A i l * dZ A i i l) = A i i * dD A i - dD A (i + 1) := by have := dD_succ A i; omega
    rw [e1, e2]
    generalize dD A (i + 1) = p, dD A i = q, dT A i i j = t, A i i = a, A i j = b
    rw [Int.mul_sub, Int.mul_sub]
    have x1 : t * (a * q) = a * (q * t) := by rw [Int.mul_left_comm, Int.mul_comm t q]
    have x2 : p * (b * q) = q * (b * p) := by rw [Int.mul_left_comm, Int.mul_left_comm q, Int.mul_comm p q]
    have x3 : t * p = p * t := Int.mul_comm _ _
    omega
  · rw [dZ_row A (by omega), dZ_row A (by omega)]
    generalize dD A (k + 1) = p, dD A k = q, dT A k k j = t, A i k = a, A i j = b
    have x1 : t * (a * q) = a * (q * t) := by rw [Int.mul_left_comm, Int.mul_comm t q]
    have x2 : p * (b * q) = q * (b * p) := by rw [Int.mul_left_comm, Int.mul_left_comm q, Int.mul_comm p q]
    omega
theorem Mpp.row {n : Nat} (h : Mpp A n) {k : Nat} (le : k < n) (j : Nat) : dT A (k + 1) k j = dT A k k j := by
  by_cases c : j ≤ k
  · have e : dT A (k + 1) k j = if k = j then dD A (k + 1) else 0 := by
      unfold dT
      rw [if_pos (by omega)]
    rw [e]
    by_cases d : k = j
    · rw [if_pos d, ← d, dT_pivot]
    · rw [if_neg d]
      unfold dT
      rw [if_pos (by omega), if_neg d]
  · have e := h.new le (j := j) (by omega) k (by omega)
    rw [if_pos rfl] at e
    have p := h.pos k (by omega)
    have e2 : dT A (k + 1) k j = dZ A (k + 1) j k := by
      unfold dT
      rw [if_neg (by omega), if_pos (by omega)]
    rw [e2]
    exact (Int.eq_of_mul_eq_mul_left (by omega) e).symm
/-- one step: what is divided leaves no rest -/
theorem Mpp.step {n : Nat} (h : Mpp A n) {k : Nat} (le : k < n) {i : Nat} (ne : i ≠ k) (j : Nat) : dT A k k k * dT A k i j - dT A k i k * dT A k k j = dD A k * dT A (k + 1) i j := by
  rw [dT_pivot]
  by_cases c : j < k
  · have e1 : dT A k k j = 0 := by
      unfold dT
      rw [if_pos c, if_neg (by omega)]
    have e2 : dT A k i j = if i = j then dD A k else 0 := by
      unfold dT
      rw [if_pos c]
    have e3 : dT A (k + 1) i j = if i = j then dD A (k + 1) else 0 := by
      unfold dT
      rw [if_pos (by omega)]
    rw [e1, e2, e3]
    by_cases d : i = j
    · rw [if_pos d, if_pos d, Int.mul_comm]
      omega
    · rw [if_neg d, if_neg d]
      omega
  · by_cases d : j = k
    · subst d
      have e3 : dT A (j + 1) i j = 0 := by
        unfold dT
        rw [if_pos (by omega), if_neg ne]
      rw [e3, dT_pivot, Int.mul_comm]
      omega
    · have nw := h.new le (j := j) (by omega)
      have tk : dT A k k j = dZ A (k + 1) j k := by
        rw [← h.row le j]
        unfold dT
        rw [if_neg (by omega), if_pos (by omega)]
      by_cases f : i < k
      · have e := nw i (by omega)
        rw [if_neg (by omega)] at e
        have e1 : dT A k i j = dZ A k j i := by
          unfold dT
          rw [if_neg (by omega), if_pos f]
        have e2 : dT A k i k = dZ A k k i := by
          unfold dT
          rw [if_neg (by omega), if_pos f]
        have e3 : dT A (k + 1) i j = dZ A (k + 1) j i := by
          unfold dT
          rw [if_neg (by omega), if_pos (by omega)]
        rw [e1, e2, e3, e]
      · have e1 : dT A k i j = A i j * dD A k - sm k fun l => A i l * dZ A k j l := by
          unfold dT
          rw [if_neg (by omega), if_neg (by omega)]
        have e2 : dT A k i k = A i k * dD A k - sm k fun l => A i l * dZ A k k l := by
          unfold dT
          rw [if_neg (by omega), if_neg (by omega)]
        have e3 : dT A (k + 1) i j = A i j * dD A (k + 1) - (sm k (fun l => A i l * dZ A (k + 1) j l) + A i k * dT A k k j) := by
          rw [tk]
          unfold dT
          rw [if_neg (by omega), if_neg (by omega), sm_succ]
        have e4 : dD A k * sm k (fun l => A i l * dZ A (k + 1) j l) = dD A (k + 1) * (sm k fun l => A i l * dZ A k j l) - dT A k k j * (sm k fun l => A i l * dZ A k k l) := by
          rw [← sm_mul, ← sm_mul, ← sm_mul, ← sm_sub]
          refine sm_congr fun l hl => ?_
          have e := nw l (by omega)
          rw [if_neg (by omega)] at e
          rw [Int.mul_left_comm, ← e, Int.mul_sub, Int.mul_left_comm, Int.mul_comm (dZ A k k l), Int.mul_left_comm (A i l) (dT A k k j)]
        rw [e1, e2, e3, Int.mul_sub, Int.mul_sub, Int.mul_add, e4, Int.sub_mul]
        generalize dD A (k + 1) = p, dD A k = q, dT A k k j = t, A i k = a, A i j = b
        generalize (sm k fun l => A i l * dZ A k j l) = u, (sm k fun l => A i l * dZ A k k l) = v
        have x1 : p * (b * q) = q * (b * p) := by rw [Int.mul_left_comm, Int.mul_left_comm q, Int.mul_comm p q]
        have x2 : a * q * t = q * (a * t) := by rw [Int.mul_comm a q, Int.mul_assoc]
        have x3 : v * t = t * v := Int.mul_comm _ _
        omega
theorem Mpp.fdiv {n : Nat} (h : Mpp A n) {k : Nat} (le : k < n) {i : Nat} (ne : i ≠ k) (j : Nat) : (dT A k k k * dT A k i j - dT A k i k * dT A k k j) / dD A k = dT A (k + 1) i j := by
  rw [h.step le ne j]
  exact Int.mul_ediv_cancel_left _ (by have := h.pos k (by omega); omega)
/-- what stands at the end solves the rows -/
theorem Mpp.end_ {n : Nat} (h : Mpp A n) : (∀ i, i < n → dT A n i n = dZ A n n i) ∧ ∀ i, i < n → sm n (fun l => A i l * dT A n l n) = A i n * dD A n := by
  have a : ∀ i, i < n → dT A n i n = dZ A n n i := fun i hi => by
    unfold dT
    rw [if_neg (by omega), if_pos hi]
  refine ⟨a, fun i hi => ?_⟩
  rw [sm_congr (g := fun l => A i l * dZ A n n l) fun l hl => by rw [a l hl], dZ_row A hi]
end
/-! rows of a walk that ends -/
theorem max_of (y : Nat → Int) : ∀ m, 0 < m → ∃ i, i < m ∧ ∀ l, l < m → y l ≤ y i := by
  intro m
  induction m with
  | zero => intro h; omega
  | succ m ih =>
    intro _
    by_cases c : m = 0
    · subst c
      exact ⟨0, by omega, fun l hl => by rw [show l = 0 by omega]; exact Int.le_refl _⟩
    · obtain ⟨i, hi, q⟩ := ih (by omega)
      by_cases d : y m ≤ y i
      · exact ⟨i, by omega, fun l hl => by
          by_cases e : l = m
          · rw [e]; exact d
          · exact q l (by omega)⟩
      · exact ⟨m, by omega, fun l hl => by
          by_cases e : l = m
          · rw [e]; exact Int.le_refl _
          · have := q l (by omega); omega⟩
theorem mpp_walk {n : Nat} (c : Nat → Int) (N : Nat → Nat → Int) (δ : Nat → Nat) (A : Nat → Nat → Int) (hA : ∀ i, i < n → ∀ j, j < n → A i j = (if j = i then c i else 0) - N i j)
    (h0 : ∀ i, i < n → ∀ j, j < n → 0 ≤ N i j) (hs : ∀ i, i < n → sm n (N i) ≤ c i) (lead : ∀ i, i < n → sm n (N i) < c i ∨ ∃ j, j < n ∧ 0 < N i j ∧ δ j < δ i) : Mpp A n := by
  intro m le y hy i0 hi0
  refine Int.not_lt.mp fun pos => ?_
  obtain ⟨im, him, mx⟩ := max_of y m (by omega)
  have mpos : 0 < y im := by have := mx i0 hi0; omega
  have row : ∀ i, i < m → c i * y i ≤ sm m fun l => N i l * y l := fun i hi => by
    have z := hy i hi
    rw [sm_congr (g := fun l => (if l = i then c i * y l else 0) - N i l * y l) fun l hl => by
      rw [hA i (by omega) l (by omega), Int.sub_mul]
      by_cases e : l = i
      · rw [if_pos e, if_pos e]
      · rw [if_neg e, if_neg e, Int.zero_mul], sm_sub, sm_one m i hi fun l => c i * y l] at z
    omega
  have go : ∀ d i, δ i ≤ d → i < m → y i = y im → False := by
    intro d
    induction d with
    | zero =>
      intro i hd hi e
      have r := row i hi
      have b : (sm m fun l => N i l * y l) ≤ sm m fun l => y im * N i l := sm_le fun l hl => by
        rw [Int.mul_comm]
        exact Int.mul_le_mul_of_nonneg_right (mx l hl) (h0 i (by omega) l (by omega))
      rw [sm_mul] at b
      have t := sm_mono (m := m) (n := n) (f := N i) (fun l hl => h0 i (by omega) l hl) le
      rcases lead i (by omega) with q | ⟨j, _, _, q⟩
      · have u : y im * sm m (N i) < y im * c i := Int.mul_lt_mul_of_pos_left (by omega) mpos
        rw [e, Int.mul_comm] at r
        omega
      · omega
    | succ d ih =>
      intro i hd hi e
      have r := row i hi
      have b0 : ∀ l, l < m → N i l * y l ≤ y im * N i l := fun l hl => by
        rw [Int.mul_comm]
        exact Int.mul_le_mul_of_nonneg_right (mx l hl) (h0 i (by omega) l (by omega))
      have b : (sm m fun l => N i l * y l) ≤ sm m fun l => y im * N i l := sm_le b0
      rw [sm_mul] at b
      have t := sm_mono (m := m) (n := n) (f := N i) (fun l hl => h0 i (by omega) l hl) le
      have s := hs i (by omega)
      rw [e, Int.mul_comm] at r
      rcases lead i (by omega) with q | ⟨j, hj, Nj, q⟩
      · have u : y im * sm m (N i) < y im * c i := Int.mul_lt_mul_of_pos_left (by omega) mpos
        omega
      · by_cases mj : m ≤ j
        · have t2 := sm_mono_lt (m := m) (n := n) (f := N i) (fun l hl => h0 i (by omega) l hl) le mj hj Nj
          have u : y im * sm m (N i) < y im * c i := Int.mul_lt_mul_of_pos_left (by omega) mpos
          omega
        · have hjm : j < m := by omega
          by_cases ej : y j = y im
          · exact ih j (by omega) hjm ej
          · have lt : N i j * y j < y im * N i j := by
              rw [Int.mul_comm]
              have := mx j hjm
              exact Int.mul_lt_mul_of_pos_right (by omega) Nj
            have b2 := sm_lt b0 hjm lt
            rw [sm_mul] at b2
            have u : y im * sm m (N i) ≤ y im * c i := Int.mul_le_mul_of_nonneg_left (by omega) (by omega)
            omega
  exact go _ im (Nat.le_refl _) him rfl
end Rd

set_option Elab.async false
set_option linter.all false
set_option maxRecDepth 100000
set_option maxHeartbeats 4000000
/-! the rows of the means, by numbers of fillings -/
namespace Rd
def badN (ws : List (List Int)) : List Nat := (List.range ws.length).filter fun i => decide (ws.getD i [] ≠ [])
def eqA (ws : List (List Int)) (i j : Nat) : Int :=
  if j < (badN ws).length then (if j = i then ((ws.getD ((badN ws).getD i 0) []).length : Int) else 0) - ((ws.getD ((badN ws).getD i 0) []).count ((badN ws).getD j 0 : Int) : Int) else ((ws.getD ((badN ws).getD i 0) []).length : Int)
def matL (n m : Nat) (T : Nat → Nat → Int) : List (List Int) := (List.range n).map fun i => (List.range m).map (T i)
theorem badN_nodup (ws : List (List Int)) : (badN ws).Nodup := (List.nodup_range (n := ws.length)).filter _
theorem badN_mem {ws : List (List Int)} {i : Nat} : i ∈ badN ws ↔ i < ws.length ∧ ws.getD i [] ≠ [] := by
  unfold badN
  rw [List.mem_filter, List.mem_range]
  exact and_congr_right fun _ => ⟨of_decide_eq_true, decide_eq_true⟩
theorem badN_at {ws : List (List Int)} {i : Nat} (h : i < (badN ws).length) : (badN ws).getD i 0 < ws.length ∧ ws.getD ((badN ws).getD i 0) [] ≠ [] := by
  refine badN_mem.mp ?_
  rw [List.getD_eq_getElem?_getD, List.getElem?_eq_getElem h]
  exact List.getElem_mem h
theorem badN_inj {ws : List (List Int)} {i j : Nat} (hi : i < (badN ws).length) (hj : j < (badN ws).length) (e : (badN ws).getD i 0 = (badN ws).getD j 0) : i = j := by
  rw [List.getD_eq_getElem?_getD, List.getD_eq_getElem?_getD, List.getElem?_eq_getElem hi, List.getElem?_eq_getElem hj] at e
  refine (List.getElem?_inj hi (badN_nodup ws)).mp ?_
  rw [List.getElem?_eq_getElem hi, List.getElem?_eq_getElem hj]
  exact congrArg some e
/-- the value of a number: that of its place among the broken ones, else nought -/
def xvN (b : List Nat) (x : Nat → Int) (a : Int) : Int := sm b.length fun l => if (b.getD l 0 : Int) = a then x l else 0
theorem xvN_at {ws : List (List Int)} {x : Nat → Int} {i : Nat} (h : i < (badN ws).length) : xvN (badN ws) x ((badN ws).getD i 0 : Int) = x i := by
  unfold xvN
  rw [sm_congr (g := fun l => if l = i then x l else 0) fun l hl => by
    by_cases c : l = i
    · rw [if_pos c, if_pos (by rw [c])]
    · rw [if_neg c, if_neg (fun z => c (badN_inj hl h (by omega)))], sm_one _ _ h]
theorem xvN_not {ws : List (List Int)} {x : Nat → Int} {a : Int} (h : ∀ i, i ∈ badN ws → (i : Int) ≠ a) : xvN (badN ws) x a = 0 := by
  unfold xvN
  refine (sm_congr fun l hl => if_neg ?_).trans (sm_zero _)
  rw [List.getD_eq_getElem?_getD, List.getElem?_eq_getElem hl]
  exact h _ (List.getElem_mem hl)
theorem cntB_sum (b : List Nat) (x : Nat → Int) : ∀ l : List Int, (sm b.length fun j => (l.count (b.getD j 0 : Int) : Int) * x j) = (l.map (xvN b x)).sum
  | [] => (sm_congr fun j _ => Int.zero_mul _).trans (sm_zero _)
  | a :: l => by
    rw [List.map_cons, List.sum_cons, ← cntB_sum b x l]
    unfold xvN
    rw [← sm_add]
    refine sm_congr fun j _ => ?_
    rw [List.count_cons]
    by_cases c : (b.getD j 0 : Int) = a
    · rw [if_pos c, if_pos (beq_iff_eq.mpr c.symm), Int.natCast_add, Int.add_mul]
      omega
    · rw [if_neg c, if_neg (by simpa using fun z => c z.symm), Nat.add_zero]
      omega
theorem cnt_one_le {ws : List (List Int)} (a : Int) : xvN (badN ws) (fun _ => 1) a ≤ 1 := by
  by_cases c : ∃ i, i < (badN ws).length ∧ ((badN ws).getD i 0 : Int) = a
  · obtain ⟨i, hi, rfl⟩ := c
    rw [xvN_at hi]
    exact Int.le_refl _
  · rw [xvN_not fun i hi e => ?_]
    · decide
    · obtain ⟨j, hj, ej⟩ := List.mem_iff_getElem.mp hi
      exact c ⟨j, hj, by rw [List.getD_eq_getElem?_getD, List.getElem?_eq_getElem hj]; show ((badN ws)[j] : Int) = a; rw [ej]; exact e⟩
theorem sum_le_len {φ : Int → Int} (h : ∀ a, φ a ≤ 1) : ∀ l : List Int, (l.map φ).sum ≤ l.length
  | [] => Int.le_refl _
  | a :: l => by
    have := sum_le_len h l
    have := h a
    rw [List.map_cons, List.sum_cons, List.length_cons]
    omega
theorem sum_lt_len {φ : Int → Int} (h : ∀ a, φ a ≤ 1) : ∀ {l : List Int}, (∃ a ∈ l, φ a ≤ 0) → (l.map φ).sum < l.length
  | [], e => by obtain ⟨_, z, _⟩ := e; cases z
  | a :: l, e => by
    have h1 := sum_le_len h l
    have h2 := h a
    rw [List.map_cons, List.sum_cons, List.length_cons]
    obtain ⟨b, hb, q⟩ := e
    rcases List.mem_cons.mp hb with rfl | hb
    · omega
    · have := sum_lt_len h ⟨b, hb, q⟩
      omega
theorem cnt_sum1 (b : List Nat) (l : List Int) : (sm b.length fun j => (l.count (b.getD j 0 : Int) : Int)) = (l.map (xvN b fun _ => 1)).sum := by
  rw [← cntB_sum]
  exact sm_congr fun j _ => (Int.mul_one _).symm
/-- from each broken one a way leads to a kept one, or nearer to one -/
structure Leads (ws : List (List Int)) : Prop where
  inn : ∀ i, i < ws.length → ∀ a ∈ ws.getD i [], 0 ≤ a ∧ a < ws.length
  near : ∃ δ : Nat → Nat, ∀ i, i < ws.length → ws.getD i [] ≠ [] → ∃ a ∈ ws.getD i [], ws.getD a.toNat [] = [] ∨ δ a.toNat < δ i
theorem Leads.mpp {ws : List (List Int)} (h : Leads ws) : Mpp (eqA ws) (badN ws).length := by
  obtain ⟨δ, near⟩ := h.near
  refine mpp_walk (fun i => ((ws.getD ((badN ws).getD i 0) []).length : Int)) (fun i j => ((ws.getD ((badN ws).getD i 0) []).count ((badN ws).getD j 0 : Int) : Int)) (fun i => δ ((badN ws).getD i 0)) (eqA ws) (fun i hi j hj => ?_) (fun i _ j _ => Int.natCast_nonneg _) (fun i hi => ?_) (fun i hi => ?_)
  · unfold eqA
    rw [if_pos hj]
  · rw [cnt_sum1]
    exact sum_le_len cnt_one_le _
  · obtain ⟨b0, b1⟩ := badN_at hi
    obtain ⟨a, ha, q⟩ := near _ b0 b1
    obtain ⟨a0, a1⟩ := h.inn _ b0 a ha
    by_cases c : a.toNat ∈ badN ws
    · right
      obtain ⟨j, hj, ej⟩ := List.mem_iff_getElem.mp c
      have e : (badN ws).getD j 0 = a.toNat := by rw [List.getD_eq_getElem?_getD, List.getElem?_eq_getElem hj]; exact ej
      refine ⟨j, hj, ?_, ?_⟩
      · show (0 : Int) < ((ws.getD ((badN ws).getD i 0) []).count ((badN ws).getD j 0 : Int) : Int)
        rw [e, show ((a.toNat : Nat) : Int) = a by omega]
        have := List.count_pos_iff.mpr ha
        omega
      · show δ ((badN ws).getD j 0) < _
        rw [e]
        rcases q with q | q
        · exact absurd q (badN_mem.mp c).2
        · exact q
    · left
      rw [cnt_sum1]
      refine sum_lt_len cnt_one_le ⟨a, ha, ?_⟩
      rw [xvN_not fun k hk e => c ?_]
      · exact Int.le_refl _
      · have : k = a.toNat := by omega
        rw [← this]
        exact hk
/-- the unknowns as they come out, by numbers, and the divisor -/
def solN (ws : List (List Int)) : Int → Int := xvN (badN ws) fun l => dT (eqA ws) (badN ws).length l (badN ws).length
def divN (ws : List (List Int)) : Int := dD (eqA ws) (badN ws).length
theorem eqA_row {ws : List (List Int)} {i : Nat} (hi : i < (badN ws).length) (y : Nat → Int) : sm (badN ws).length (fun l => eqA ws i l * y l) = ((ws.getD ((badN ws).getD i 0) []).length : Int) * y i - ((ws.getD ((badN ws).getD i 0) []).map (xvN (badN ws) y)).sum := by
  rw [← cntB_sum, sm_congr (g := fun l => (if l = i then ((ws.getD ((badN ws).getD i 0) []).length : Int) * y l else 0) - ((ws.getD ((badN ws).getD i 0) []).count ((badN ws).getD l 0 : Int) : Int) * y l) fun l hl => by
    unfold eqA
    rw [if_pos hl, Int.sub_mul]
    by_cases c : l = i
    · rw [if_pos c, if_pos c]
    · rw [if_neg c, if_neg c, Int.zero_mul], sm_sub, sm_one _ _ hi fun l => ((ws.getD ((badN ws).getD i 0) []).length : Int) * y l]
theorem eqA_last {ws : List (List Int)} (i : Nat) : eqA ws i (badN ws).length = ((ws.getD ((badN ws).getD i 0) []).length : Int) := by
  unfold eqA
  rw [if_neg (Nat.lt_irrefl _)]
section
variable {ws : List (List Int)}
theorem divN_pos (h : Leads ws) : 0 < divN ws := h.mpp.pos _ (Nat.le_refl _)
theorem solN_kept {a : Int} (h : a < 0 ∨ ws.getD a.toNat [] = []) : solN ws a = 0 := by
  unfold solN
  refine xvN_not fun i hi e => ?_
  have := badN_mem.mp hi
  rcases h with h | h
  · omega
  · rw [show a.toNat = i by omega] at h
    exact this.2 h
theorem solN_row (h : Leads ws) {i : Nat} (hi : i < ws.length) (hb : ws.getD i [] ≠ []) : ((ws.getD i []).length : Int) * solN ws i = ((ws.getD i []).length : Int) * divN ws + ((ws.getD i []).map (solN ws)).sum := by
  obtain ⟨j, hj, ej⟩ := List.mem_iff_getElem.mp (badN_mem.mpr ⟨hi, hb⟩)
  have e : (badN ws).getD j 0 = i := by rw [List.getD_eq_getElem?_getD, List.getElem?_eq_getElem hj]; exact ej
  have r := h.mpp.end_.2 j hj
  rw [eqA_row hj, eqA_last, e] at r
  have s : solN ws i = dT (eqA ws) (badN ws).length j (badN ws).length := by
    unfold solN
    rw [← e]
    exact xvN_at hj
  rw [s]
  have r : _ - ((ws.getD i []).map (solN ws)).sum = _ * divN ws := r
  omega
theorem solN_nonneg (h : Leads ws) (a : Int) : 0 ≤ solN ws a := by
  have M := h.mpp
  have p := divN_pos h
  have z := M (badN ws).length (Nat.le_refl _) (fun l => - dT (eqA ws) (badN ws).length l (badN ws).length) fun i hi => by
    rw [sm_congr (g := fun l => 0 - eqA ws i l * dT (eqA ws) (badN ws).length l (badN ws).length) fun l _ => by rw [Int.mul_neg]; omega, sm_sub, sm_zero, M.end_.2 i hi, eqA_last]
    have : 0 ≤ ((ws.getD ((badN ws).getD i 0) []).length : Int) * dD (eqA ws) (badN ws).length := Int.mul_nonneg (Int.natCast_nonneg _) (Int.le_of_lt p)
    omega
  by_cases c : ∃ i, i < (badN ws).length ∧ ((badN ws).getD i 0 : Int) = a
  · obtain ⟨i, hi, rfl⟩ := c
    unfold solN
    rw [xvN_at hi]
    have := z i hi
    omega
  · have : solN ws a = 0 := by
      unfold solN
      refine xvN_not fun i hi e => ?_
      obtain ⟨j, hj, ej⟩ := List.mem_iff_getElem.mp hi
      exact c ⟨j, hj, by rw [List.getD_eq_getElem?_getD, List.getElem?_eq_getElem hj]; show ((badN ws)[j] : Int) = a; rw [ej]; exact e⟩
    omega
/-- only one solution -/
theorem solN_one (h : Leads ws) {y : Int → Int} {E : Int} (kept : ∀ i, i < ws.length → ws.getD i [] = [] → y (i : Int) = 0) (row : ∀ i, i < ws.length → ws.getD i [] ≠ [] → ((ws.getD i []).length : Int) * y i = ((ws.getD i []).length : Int) * E + ((ws.getD i []).map y).sum) : ∀ i, i < ws.length → y (i : Int) * divN ws = solN ws i * E := by
  have yv : ∀ i, i < ws.length → xvN (badN ws) (fun l => y ((badN ws).getD l 0 : Int)) (i : Int) = y i := fun i hi => by
    by_cases c : i ∈ badN ws
    · obtain ⟨j, hj, ej⟩ := List.mem_iff_getElem.mp c
      have e : (badN ws).getD j 0 = i := by rw [List.getD_eq_getElem?_getD, List.getElem?_eq_getElem hj]; exact ej
      rw [← e, xvN_at hj]
    · rw [xvN_not fun k hk e => c (by rw [← show k = i by omega]; exact hk)]
      refine (kept i hi ?_).symm
      refine Classical.byContradiction fun n => c (badN_mem.mpr ⟨hi, n⟩)
  have key := h.mpp.inj (Nat.le_refl _) (y := fun l => y ((badN ws).getD l 0 : Int) * divN ws) (z := fun l => dT (eqA ws) (badN ws).length l (badN ws).length * E) fun i hi => by
    obtain ⟨b0, b1⟩ := badN_at hi
    have e1 : sm (badN ws).length (fun l => eqA ws i l * (y ((badN ws).getD l 0 : Int) * divN ws)) = divN ws * sm (badN ws).length (fun l => eqA ws i l * y ((badN ws).getD l 0 : Int)) := by
      rw [← sm_mul]
      exact sm_congr fun l _ => by rw [← Int.mul_assoc, Int.mul_comm]
    have e2 : sm (badN ws).length (fun l => eqA ws i l * (dT (eqA ws) (badN ws).length l (badN ws).length * E)) = E * sm (badN ws).length (fun l => eqA ws i l * dT (eqA ws) (badN ws).length l (badN ws).length) := by
      rw [← sm_mul]
      exact sm_congr fun l _ => by rw [← Int.mul_assoc, Int.mul_comm]
    rw [e1, e2, h.mpp.end_.2 i hi, eqA_last, eqA_row hi]
    have r := row _ b0 b1
    have sy : ((ws.getD ((badN ws).getD i 0) []).map (xvN (badN ws) fun l => y ((badN ws).getD l 0 : Int))).sum = ((ws.getD ((badN ws).getD i 0) []).map y).sum := by
      congr 1
      refine List.map_congr_left fun a ha => ?_
      obtain ⟨a0, a1⟩ := h.inn _ b0 a ha
      have := yv a.toNat (by omega)
      rw [show ((a.toNat : Nat) : Int) = a by omega] at this
      exact this
    rw [sy, r]
    show divN ws * (_ * E + _ - _) = E * (_ * divN ws)
    generalize divN ws = d, ((ws.getD ((badN ws).getD i 0) []).length : Int) = c, ((ws.getD ((badN ws).getD i 0) []).map y).sum = t
    rw [show c * E + t - t = c * E by omega, Int.mul_left_comm, Int.mul_comm d E, Int.mul_left_comm]
  intro i hi
  by_cases c : i ∈ badN ws
  · obtain ⟨j, hj, ej⟩ := List.mem_iff_getElem.mp c
    have e : (badN ws).getD j 0 = i := by rw [List.getD_eq_getElem?_getD, List.getElem?_eq_getElem hj]; exact ej
    have k := key j hj
    have s : solN ws i = dT (eqA ws) (badN ws).length j (badN ws).length := by
      unfold solN
      rw [← e]
      exact xvN_at hj
    rw [s]
    have k : y ((badN ws).getD j 0 : Int) * divN ws = _ := k
    rw [e] at k
    exact k
  · have k : ws.getD i [] = [] := Classical.byContradiction fun n => c (badN_mem.mpr ⟨hi, n⟩)
    rw [kept i hi k, solN_kept (.inr (by rw [Int.toNat_natCast]; exact k)), Int.zero_mul, Int.zero_mul]
/-- the divisors are not great -/
theorem dD_le (h : Leads ws) {B : Nat} (hB : ∀ i, i < ws.length → (ws.getD i []).length ≤ B) : ∀ k, k ≤ (badN ws).length → dD (eqA ws) k ≤ ((B ^ k : Nat) : Int) := by
  intro k
  induction k with
  | zero => intro _; rw [dD_zero, Nat.pow_zero]; exact Int.le_refl _
  | succ k ih =>
    intro le
    have i1 := ih (by omega)
    have p0 := h.mpp.pos k (by omega)
    have off : ∀ i l, l < (badN ws).length → i ≠ l → eqA ws i l ≤ 0 := fun i l hl ne => by
      unfold eqA
      rw [if_pos hl, if_neg (Ne.symm ne)]
      have := Int.natCast_nonneg ((ws.getD ((badN ws).getD i 0) []).count ((badN ws).getD l 0 : Int))
      omega
    have zl : ∀ l, l < k → dZ (eqA ws) k k l ≤ 0 := h.mpp k (by omega) (fun l => dZ (eqA ws) k k l) fun i hi => by
      rw [dZ_row (eqA ws) hi]
      have a := off i k (by omega) (by omega)
      have : eqA ws i k * dD (eqA ws) k ≤ 0 * dD (eqA ws) k := Int.mul_le_mul_of_nonneg_right a (by omega)
      omega
    have s0 : 0 ≤ sm k fun l => eqA ws k l * dZ (eqA ws) k k l := by
      have := sm_le (n := k) (f := fun _ => 0) (g := fun l => eqA ws k l * dZ (eqA ws) k k l) fun l hl => Int.mul_nonneg_of_nonpos_of_nonpos (off k l (by omega) (by omega)) (zl l hl)
      rw [sm_zero] at this
      exact this
    have d1 : eqA ws k k ≤ (B : Int) := by
      unfold eqA
      rw [if_pos (by omega), if_pos rfl]
      have := hB _ (badN_at (show k < (badN ws).length by omega)).1
      omega
    have e := dD_succ (eqA ws) k
    have m : eqA ws k k * dD (eqA ws) k ≤ (B : Int) * dD (eqA ws) k := Int.mul_le_mul_of_nonneg_right d1 (by omega)
    have m2 : (B : Int) * dD (eqA ws) k ≤ (B : Int) * ((B ^ k : Nat) : Int) := Int.mul_le_mul_of_nonneg_left i1 (Int.natCast_nonneg _)
    have e3 : ((B ^ (k + 1) : Nat) : Int) = (B : Int) * ((B ^ k : Nat) : Int) := by rw [Nat.pow_succ, Nat.mul_comm, Int.natCast_mul]
    omega
theorem badN_le (ws : List (List Int)) : (badN ws).length ≤ ws.length := by
  unfold badN
  have := List.length_filter_le (fun i => decide (ws.getD i [] ≠ [])) (List.range ws.length)
  rw [List.length_range] at this
  exact this
/-- the sum over all numbers is that of the unknowns -/
theorem solN_sum (ws : List (List Int)) : ((List.range ws.length).map fun i : Nat => solN ws (i : Int)).sum = sm (badN ws).length fun l => dT (eqA ws) (badN ws).length l (badN ws).length := by
  have go : ∀ (x : Nat → Int) (b : List Nat) (n : Nat), (∀ l, l < b.length → b.getD l 0 < n) → ((List.range n).map fun i : Nat => xvN b x (i : Int)).sum = sm b.length x := by
    intro x b n hb
    have rs : ∀ (n : Nat) (φ : Nat → Int), ((List.range n).map φ).sum = sm n φ := by
      intro n φ
      induction n with
      | zero => rfl
      | succ n ih => rw [List.range_succ, List.map_append, List.sum_append, ih, sm_succ]; simp
    rw [rs]
    unfold xvN
    have sw : ∀ (m n : Nat) (φ : Nat → Nat → Int), (sm n fun i => sm m fun l => φ i l) = sm m fun l => sm n fun i => φ i l := by
      intro m n φ
      induction n with
      | zero => exact (sm_zero m).symm
      | succ n ih => rw [sm_succ, ih, ← sm_add]; exact sm_congr fun l _ => (sm_succ n _).symm
    rw [sw]
    refine sm_congr fun l hl => ?_
    rw [sm_congr (g := fun i => if i = b.getD l 0 then x l else 0) fun i _ => by
      by_cases c : i = b.getD l 0
      · rw [if_pos c, if_pos (by omega)]
      · rw [if_neg c, if_neg (by omega)], sm_one _ _ (hb l hl) fun _ => x l]
  exact go _ _ _ fun l hl => (badN_at hl).1
end
end Rd

set_option Elab.async false
set_option linter.all false
set_option maxRecDepth 100000
set_option maxHeartbeats 4000000
/-! how great the numbers of the rows get -/
namespace Rd
theorem abs_add_le (a b : Int) : (a + b).natAbs ≤ a.natAbs + b.natAbs := by omega
theorem abs_sub_le (a b : Int) : (a - b).natAbs ≤ a.natAbs + b.natAbs := by omega
theorem dl_le {r : Nat → Int} {M : Nat} (hr : ∀ c, (r c).natAbs ≤ M) : ∀ (cs : List Nat) (F : List Nat → Int) (B : Nat), (∀ ds, ds.length + 1 = cs.length → (F ds).natAbs ≤ B) → (dl r cs F).natAbs ≤ cs.length * (M * B)
  | [], F, B, _ => Nat.zero_le _
  | c :: cs, F, B, h => by
    show (r c * F cs - dl r cs fun ds => F (c :: ds)).natAbs ≤ (cs.length + 1) * (M * B)
    have a := dl_le hr cs (fun ds => F (c :: ds)) B fun ds hd => h (c :: ds) (by rw [List.length_cons, List.length_cons, hd])
    have b : (r c * F cs).natAbs ≤ M * B := by
      rw [Int.natAbs_mul]
      exact Nat.mul_le_mul (hr c) (h cs rfl)
    have d := abs_sub_le (r c * F cs) (dl r cs fun ds => F (c :: ds))
    rw [Nat.succ_mul]
    omega
theorem cf_le {l : Nat} : ∀ (cs : List Nat) (F : List Nat → Int) (B : Nat), (∀ ds, ds.length + 1 = cs.length → (F ds).natAbs ≤ B) → (cf cs F l).natAbs ≤ cs.length * B
  | [], F, B, _ => Nat.zero_le _
  | c :: cs, F, B, h => by
    show ((if l = c then F cs else 0) - cf cs (fun ds => F (c :: ds)) l).natAbs ≤ (cs.length + 1) * B
    have a := cf_le (l := l) cs (fun ds => F (c :: ds)) B fun ds hd => h (c :: ds) (by rw [List.length_cons, List.length_cons, hd])
    have b : (if l = c then F cs else 0).natAbs ≤ B := by
      split
      · exact h cs rfl
      · exact Nat.zero_le _
    have d := abs_sub_le (if l = c then F cs else 0) (cf cs (fun ds => F (c :: ds)) l)
    rw [Nat.succ_mul]
    omega
theorem dt_le {n M : Nat} : ∀ (rs : List (Nat → Int)), (∀ r ∈ rs, ∀ c, (r c).natAbs ≤ M) → ∀ cs : List Nat, cs.length = rs.length → rs.length ≤ n → (dt rs cs).natAbs ≤ (n * M) ^ rs.length
  | [], _, cs, _, _ => by
    unfold dt
    show _ ≤ 1
    split
    · exact Nat.le_refl 1
    · exact Nat.zero_le _
  | r :: rs, h, cs, e, le => by
    rw [List.length_cons] at e le
    show (dl r cs (dt rs)).natAbs ≤ (n * M) ^ (rs.length + 1)
    have a := dl_le (h r List.mem_cons_self) cs (dt rs) ((n * M) ^ rs.length) fun ds hd => dt_le rs (fun r hr => h r (List.mem_cons_of_mem _ hr)) ds (by omega) (by omega)
    refine Nat.le_trans a ?_
    rw [Nat.pow_succ, ← Nat.mul_assoc, Nat.mul_comm ((n * M) ^ rs.length)]
    exact Nat.mul_le_mul_right _ (Nat.mul_le_mul_right _ (by omega))
theorem dn_len (k : Nat) : (dn k).length = k := by
  induction k with
  | zero => rfl
  | succ k ih => show (dn k).length + 1 = _; rw [ih]
section
variable {A : Nat → Nat → Int} {n M : Nat}
theorem dD_abs (h : ∀ i j, (A i j).natAbs ≤ M) {k : Nat} (hk : k ≤ n) : (dD A k).natAbs ≤ (n * M) ^ k := by
  have := dt_le (n := n) (M := M) ((dn k).map A) (fun r hr c => by
    obtain ⟨i, _, rfl⟩ := List.mem_map.mp hr
    exact h i c) (dn k) (by rw [List.length_map]) (by rw [List.length_map, dn_len]; exact hk)
  rw [List.length_map, dn_len] at this
  exact this
theorem dZ_abs (h : ∀ i j, (A i j).natAbs ≤ M) {k : Nat} (hk : k ≤ n) (j l : Nat) : (dZ A k j l).natAbs ≤ n * (n * M) ^ k := by
  have := cf_le (l := l) (dn k) (fun ds => dt ((dn k).map A) (j :: ds)) ((n * M) ^ k) fun ds hd => by
    have := dt_le (n := n) (M := M) ((dn k).map A) (fun r hr c => by
      obtain ⟨i, _, rfl⟩ := List.mem_map.mp hr
      exact h i c) (j :: ds) (by rw [List.length_map, List.length_cons, hd]) (by rw [List.length_map, dn_len]; exact hk)
    rw [List.length_map, dn_len] at this
    exact this
  rw [dn_len] at this
  exact Nat.le_trans this (Nat.mul_le_mul_right _ hk)
theorem sm_abs {B : Nat} : ∀ (k : Nat) (f : Nat → Int), (∀ i, (f i).natAbs ≤ B) → (sm k f).natAbs ≤ k * B
  | 0, _, _ => Nat.zero_le _
  | k + 1, f, h => by
    have a := sm_abs k f h
    have b := h k
    rw [sm_succ, Nat.succ_mul]
    omega
theorem dT_abs (h : ∀ i j, (A i j).natAbs ≤ M) {k : Nat} (hk : k ≤ n) (i j : Nat) : (dT A k i j).natAbs ≤ (n * M + 1) * (n * (n * M) ^ k) + M * (n * M) ^ k + (n * M) ^ k := by
  unfold dT
  have d := dD_abs h hk
  split
  · split
    · omega
    · exact Nat.zero_le _
  · split
    · have := dZ_abs h hk j i
      rw [Nat.succ_mul]
      omega
    · have a : (A i j * dD A k).natAbs ≤ M * (n * M) ^ k := by
        rw [Int.natAbs_mul]
        exact Nat.mul_le_mul (h i j) d
      have b := sm_abs (B := M * (n * (n * M) ^ k)) k (fun l => A i l * dZ A k j l) fun l => by
        rw [Int.natAbs_mul]
        exact Nat.mul_le_mul (h i l) (dZ_abs h hk j l)
      have c : k * (M * (n * (n * M) ^ k)) ≤ n * M * (n * (n * M) ^ k) := by
        rw [← Nat.mul_assoc]
        exact Nat.mul_le_mul_right _ (Nat.mul_le_mul_right _ hk)
      have e := abs_sub_le (A i j * dD A k) (sm k fun l => A i l * dZ A k j l)
      rw [Nat.succ_mul]
      omega
end
theorem eqA_abs {ws : List (List Int)} {B : Nat} (h : ∀ i, (ws.getD i []).length ≤ B) (i j : Nat) : (eqA ws i j).natAbs ≤ B := by
  unfold eqA
  have a := h ((badN ws).getD i 0)
  have b := List.count_le_length (a := ((badN ws).getD j 0 : Int)) (l := ws.getD ((badN ws).getD i 0) [])
  split
  · split <;> omega
  · omega
theorem dT_log {ws : List (List Int)} (h : ∀ i, (ws.getD i []).length ≤ 64) (hn : ws.length ≤ 32) {k : Nat} (hk : k ≤ (badN ws).length) (i j : Nat) : (dT (eqA ws) k i j).natAbs < 2 ^ 400 := by
  have bl := badN_le ws
  have a := dT_abs (n := 32) (eqA_abs h) (show k ≤ 32 by omega) i j
  refine Nat.lt_of_le_of_lt a ?_
  have p : (32 * 64) ^ k ≤ (32 * 64) ^ 32 := Nat.pow_le_pow_right (by decide) (by omega)
  have q : (32 * 64 + 1) * (32 * (32 * 64) ^ k) + 64 * (32 * 64) ^ k + (32 * 64) ^ k ≤ (32 * 64 + 1) * (32 * (32 * 64) ^ 32) + 64 * (32 * 64) ^ 32 + (32 * 64) ^ 32 := by omega
  exact Nat.lt_of_le_of_lt q (by decide)
end Rd
namespace Rd
theorem eq_row {ws : List (List Int)} {i : Nat} {row : List Int} (hi : i < (badN ws).length) (hr : ws.getD ((badN ws).getD i 0) [] = row) : (((badN ws).map fun o : Nat => -((row.count (o : Int) : Nat) : Int)) ++ [(row.length : Int)]).set i (-((row.count ((badN ws).getD i 0 : Int) : Nat) : Int) + (row.length : Int)) = (List.range ((badN ws).length + 1)).map (eqA ws i) := by
  refine List.ext_getElem (by simp) fun j h1 h2 => ?_
  have jl : j < (badN ws).length + 1 := by simpa using h2
  rw [List.getElem_set, List.getElem_map, List.getElem_range]
  unfold eqA
  rw [hr]
  by_cases c : j < (badN ws).length
  · have e : (badN ws).getD j 0 = (badN ws)[j] := by rw [List.getD_eq_getElem?_getD, List.getElem?_eq_getElem c]; rfl
    rw [if_pos c]
    by_cases d : i = j
    · subst d
      rw [if_pos rfl, if_pos rfl]
      omega
    · rw [if_neg d, if_neg (Ne.symm d), List.getElem_append_left (by rw [List.length_map]; exact c), List.getElem_map, e]
      omega
  · rw [if_neg c, if_neg (by omega)]
    have : j = (badN ws).length := by omega
    subst this
    rw [List.getElem_append_right (by rw [List.length_map]; exact Nat.le_refl _)]
    simp
theorem mat_get {n m : Nat} {T : Nat → Nat → Int} {i : Nat} (h : i < n) : (matL n m T)[i]? = some ((List.range m).map (T i)) := by
  unfold matL
  rw [List.getElem?_map, List.getElem?_range h]
  rfl
theorem mat_len {n m : Nat} {T : Nat → Nat → Int} : (matL n m T).length = n := by
  unfold matL
  rw [List.length_map, List.length_range]
end Rd

set_option Elab.async false
set_option linter.all false
set_option maxRecDepth 100000
set_option maxHeartbeats 4000000
/-! the refusals' classes, from one reckoning of the frozen part -/
namespace Rd
open PySem PySem.Spec PyProof.Rows L2 Dt
def okCX (K : PySem.W.Frag) (D T : Addr) : Bool :=
  PySem.W.excIn K D [.type "ValueError", .type "Exception", .type "BaseException", .type "object"] "ValueError.__new__" && PySem.W.keepIn K (.ref D) &&
  (PySem.W.findIn K (.ref D) "__getattribute__" == some (some (.builtin "BaseException.__getattribute__"))) && (PySem.W.findIn K (.ref D) "__getattr__" == some none) &&
  (PySem.W.subIn K (.ref D) (.type "BaseException") == some true) && PySem.W.hasDictIn K D && (PySem.W.findIn K (.ref D) "__class__" == some (some (.builtin "object.__class__"))) &&
  (PySem.W.mroIn K D (.type "object") == some true) && (PySem.W.typeIn K (.ref D) == some (.type "type")) && (PySem.W.exmOne K (.ref D) (.ref T) == some true)
def allOkX (K : PySem.W.Frag) (cs : List Addr) : Bool :=
  (List.range 12).all (fun i => okCX K (cs.getD i 0) (cs.getD 11 0)) && (PySem.W.specialIn K (.builtin "object.__class__") "__get__" == some (some (.builtin "getset_descriptor.__get__"))) && (PySem.W.takesIn K (.builtin "object.__class__") == some true) &&
  (List.range 12).all (fun i => (List.range 11).all fun j => PySem.W.kitOne K (.ref (cs.getD i 0)) (.ref (cs.getD j 0)) == some (decide (i = j))) &&
  (List.range 12).all (fun i => PySem.W.kitOne K (.ref (cs.getD i 0)) (.type "ValueError") == some true)
theorem clsX_of {K : PySem.W.Frag} {h : Heap} {mg : Str → Option Value} {q0 q1 q2 q3 q4 q5 q6 q7 q8 q9 q10 q11 : Addr} (X : K.In h) (G : h.Ns mainGlobals mg)
    (cl0 : PySem.W.nsIn K mainGlobals "NoEnd" = some (some (.ref q0)))
    (cl1 : PySem.W.nsIn K mainGlobals "NoLog" = some (some (.ref q1)))
    (cl2 : PySem.W.nsIn K mainGlobals "NoName" = some (some (.ref q2)))
    (cl3 : PySem.W.nsIn K mainGlobals "NoRow" = some (some (.ref q3)))
    (cl4 : PySem.W.nsIn K mainGlobals "NoStep" = some (some (.ref q4)))
    (cl5 : PySem.W.nsIn K mainGlobals "NoTable" = some (some (.ref q5)))
    (cl6 : PySem.W.nsIn K mainGlobals "NoText" = some (some (.ref q6)))
    (cl7 : PySem.W.nsIn K mainGlobals "NoWish" = some (some (.ref q7)))
    (cl8 : PySem.W.nsIn K mainGlobals "Spent" = some (some (.ref q8)))
    (cl9 : PySem.W.nsIn K mainGlobals "Told" = some (some (.ref q9)))
    (cl10 : PySem.W.nsIn K mainGlobals "TooMany" = some (some (.ref q10)))
    (cl11 : PySem.W.nsIn K mainGlobals "DrawError" = some (some (.ref q11)))
    (zi : mg "isinstance" = none) (zv : mg "ValueError" = none) (hA : allOkX K [q0, q1, q2, q3, q4, q5, q6, q7, q8, q9, q10, q11] = true) : ClsX K mg (fun i => [q0, q1, q2, q3, q4, q5, q6, q7, q8, q9, q10, q11].getD i 0) := by
  unfold allOkX at hA
  simp only [Bool.and_eq_true, List.all_eq_true, List.mem_range, beq_iff_eq] at hA
  obtain ⟨⟨⟨⟨h1, h2⟩, h3⟩, h4⟩, h5⟩ := hA
  have ho : ∀ i, i < 12 → _ := fun i hi => by
    have z := h1 i hi
    unfold okCX at z
    simp only [Bool.and_eq_true, beq_iff_eq] at z
    exact z
  exact { g_NoEnd := PySem.W.mg_of X G cl0, g_NoLog := PySem.W.mg_of X G cl1, g_NoName := PySem.W.mg_of X G cl2, g_NoRow := PySem.W.mg_of X G cl3, g_NoStep := PySem.W.mg_of X G cl4, g_NoTable := PySem.W.mg_of X G cl5, g_NoText := PySem.W.mg_of X G cl6, g_NoWish := PySem.W.mg_of X G cl7, g_Spent := PySem.W.mg_of X G cl8, g_Told := PySem.W.mg_of X G cl9, g_TooMany := PySem.W.mg_of X G cl10, g_DrawError := PySem.W.mg_of X G cl11, m_isinstance := zi, m_ValueError := zv, x := fun i hi => (ho i hi).1.1.1.1.1.1.1.1.1, k := fun i hi => (ho i hi).1.1.1.1.1.1.1.1.2, e := fun i hi => ⟨(ho i hi).1.1.1.1.1.1.1.2, (ho i hi).1.1.1.1.1.1.2, (ho i hi).1.1.1.1.1.2, (ho i hi).1.1.1.1.2, (ho i hi).1.1.1.2, h2, h3, (ho i hi).1.1.2⟩, kit := fun i hi j hj => h4 i hi j hj, kitV := fun i hi => h5 i hi, ty := fun i hi => (ho i hi).1.2, exm := fun i hi => (ho i hi).2 }
end Rd

set_option Elab.async false
set_option linter.all false
set_option maxRecDepth 100000
set_option maxHeartbeats 4000000
namespace Rd
open PySem PySem.Spec PyProof.Rows L2 Dt
def topS (i : Nat) : Stmt := PySem.Challenge.pw_redraw_k36_whole_weights_bound_what_come.main.body.getD i (.Pass ⟨0, 0, 0, 0⟩)
abbrev sTap : Stmt := topS 35
abbrev nTap : List Str := ["script", "start", "cell"]
theorem scTap : FnScope nTap ["script", "start"] (defScope sTap) := ⟨rfl, rfl, rfl, by decide +kernel, rfl, by decide +kernel, by decide +kernel⟩
abbrev sDig : Stmt := topS 36
abbrev nDig : List Str := ["tape", "many", "found", "more"]
theorem scDig : FnScope nDig ["tape", "many"] (defScope sDig) := ⟨rfl, rfl, rfl, by decide +kernel, rfl, by decide +kernel, by decide +kernel⟩
def spTap (K : PySem.W.Frag) : Sp := fun vs H Q _ => ∃ (a : Addr) (ns : List Int) (st : Int), vs = [.ref a, .int st] ∧ SqL K H a (ns.map V.int) ∧ ns.length ≤ 63 ∧ 0 ≤ st ∧ st ≤ 100 ∧
  ∀ H' tp, Same H H' → H tp = none → Tape H' tp → Q (.ref tp) H'
def spDig : Sp := fun vs H Q _ => ∃ (tp : Addr) (m : Int), vs = [.ref tp, .int m] ∧ Tape H tp ∧ 1 ≤ m ∧ m.natAbs.log2 < 9000 ∧
  ∀ H' d, Taped tp H H' → 0 ≤ d → d < m → Q (.int d) H'
structure TxtT (mg : Str → Option Value) : Prop where
  m_len : mg "len" = none
  m_abs : mg "abs" = none
theorem abs_nn (z : Int) : 0 ≤ (if z < 0 then -z else z) := by split <;> omega
section
variable {P : Program} {w : World} {K : PySem.W.Frag} {mg : Str → Option Value} {base : Heap}
theorem ok_tap {f : Addr} {fd : FuncData} {k : Nat} (F : Fun K "_law_tape" "_law_tape" sTap f fd) (T : TxtT mg) : FnOk P w K mg base CX0 (k + 1) f fd ["script", "start"] (spTap K) := by
  refine F.ok scTap (fun vs H Q E h => ?_) (fun cdv A outer s H vs Q E hr h => ?_)
  · obtain ⟨a, ns, st, rfl, _⟩ := h
    rfl
  · obtain ⟨a, ns, st, rfl, hS, hl, s0, s1, q⟩ := h
    refine ⟨_, (pss_cons (ps_set (i := 2) scTap.nd rfl (Or.inl rfl) pe_int)
  (C8.pss_cut (ps_if (pt_cmpR op_lt (pv 1) (pe_callB call_len_seq (by rfl) T.m_len (by decide +kernel) (pa_cons (pv 0) pa_nil)) (nomark _))
  (pss_one (ps_set (i := 2) scTap.nd rfl (Or.inl rfl) (pe_callB call_abs (by rfl) T.m_abs (by decide +kernel) (pa_cons (pe_ix ix_list (pv 0) (pv 1) (fun _ _ => rfl)) pa_nil)))) (pss_one (ps_if (pt_cmpR op_gt (pe_callB call_len_seq (by rfl) T.m_len (by decide +kernel) (pa_cons (pv 0) pa_nil)) pe_int (nomark _))
  (pss_one (ps_set (i := 2) scTap.nd rfl (Or.inl rfl) (pe_op op_add (pe_op op_mod (pe_callB call_abs (by rfl) T.m_abs (by decide +kernel) (pa_cons (pe_ix ix_list (pv 0) (pe_op op_mod (pv 1) (pe_callB call_len_seq (by rfl) T.m_len (by decide +kernel) (pa_cons (pv 0) pa_nil))) (fun _ _ => rfl)) pa_nil)) (pe_op op_pow pe_int pe_int)) (pe_op op_mul (pv 1) pe_int)))) pss_nil)))
  (pss_one (ps_ret (pe_lst (pa_cons (pv 2) (pa_cons (pe_op op_add (pe_op op_mod (pe_op op_add (pe_op op_mul (pv 1) pe_int) (pv 2)) pe_int) pe_int) pa_nil))))))), ?_⟩
    refine ⟨fun σ H' => H' = H ∧ ∃ c : Int, 0 ≤ c ∧ σ = [some (.ref a), some (.int st), some (.int c)], ?_, ?_⟩
    · refine ⟨.int st, rfl, .ref a, rfl, a, _, rfl, .inl hS, _, _, rfl, rfl, _, rfl, ite2 (fun e => ?_) (fun e => ?_)⟩
      · rw [List.length_map] at e
        have e1 : st < (ns.length : Int) := of_decide_eq_true e
        have hi : st.toNat < ns.length := by omega
        refine ⟨.ref a, rfl, .int st, rfl, a, _, st, _, rfl, rfl, hS, atI_of s0 (List.getElem?_eq_getElem hi), _, rfl, rfl, _, abs_nn _, rfl⟩
      · refine ⟨.ref a, rfl, a, _, rfl, .inl hS, _, _, rfl, rfl, _, rfl, ite2 (fun e2 => ?_) (fun e2 => ?_)⟩
        · rw [List.length_map] at e2
          have e3 : 0 < (ns.length : Int) := of_decide_eq_true e2
          have n0 := Int.emod_nonneg st (show (ns.length : Int) ≠ 0 by omega)
          have n1 := Int.emod_lt_of_pos st e3
          have hi : (st % (ns.length : Int)).toNat < ns.length := by omega
          refine ⟨.ref a, rfl, .int st, rfl, .ref a, rfl, a, _, rfl, .inl hS, _, _, rfl, rfl, (by rw [List.length_map]; exact e3), ?_⟩
          rw [List.length_map]
          refine ⟨a, _, _, _, rfl, rfl, hS, atI_of n0 (List.getElem?_eq_getElem hi), _, rfl, 10, 9, rfl, rfl, ⟨by decide, by decide, by decide⟩, _, _, rfl, rfl, (by show (0 : Int) < 10 ^ 9; decide), .int st, rfl, st, 1000003, rfl, rfl, .inl ⟨by omega, by omega⟩, _, _, rfl, rfl, rfl, _, ?_, rfl⟩
          have := Int.emod_nonneg (if ns[(st % (ns.length : Int)).toNat] < 0 then -ns[(st % (ns.length : Int)).toNat] else ns[(st % (ns.length : Int)).toNat]) (show (10 ^ (9 : Int).toNat : Int) ≠ 0 by decide)
          omega
        · exact ⟨rfl, 0, by decide, rfl⟩
    · rintro σ H1 ⟨rfl, c, c0, rfl⟩
      refine ⟨.int c, rfl, .int st, rfl, st, 7919, rfl, rfl, .inl ⟨by omega, by omega⟩, .int c, rfl, _, _, rfl, rfl, _, _, rfl, rfl, (by show (0 : Int) < 998244353; decide), _, _, rfl, rfl, (by show 2 ≤ sizeLine; decide), fun tp nt => ?_⟩
      have g1 := Int.emod_nonneg (st * 7919 + c) (by decide : (998244353 : Int) ≠ 0)
      have g2 := Int.emod_lt_of_pos (st * 7919 + c) (by decide : (0 : Int) < 998244353)
      exact q _ tp (same_upd nt) nt ⟨c, _, upd_same, c0, by omega, by omega⟩
theorem ok_dig {f : Addr} {fd : FuncData} {k : Nat} (F : Fun K "_law_digit" "_law_digit" sDig f fd) : FnOk P w K mg base CX0 (k + 1) f fd ["tape", "many"] spDig := by
  refine F.ok scDig (fun vs H Q E h => ?_) (fun cdv A outer s H vs Q E hr h => ?_)
  · obtain ⟨tp, m, rfl, _⟩ := h
    rfl
  · obtain ⟨tp, m, rfl, hT, m1, hlog, q⟩ := h
    obtain ⟨b, c, h1, b0, c0, c1⟩ := id hT
    refine ⟨_, (pss_cons (ps_if (pt_cmpR op_gt (pe_ix ix_list (pv 0) pe_int (fun _ _ => rfl)) pe_int (nomark _))
  (pss_cons (ps_set (i := 2) scDig.nd rfl (Or.inl rfl) (pe_op op_mod (pe_ix ix_list (pv 0) pe_int (fun _ _ => rfl)) (pv 1)))
  (pss_cons (ps_asg (pe_op op_fdivW (pe_ix ix_list (pv 0) pe_int (fun _ _ => rfl)) (pv 1)) (pg_sub (pv 0) pe_int set_list))
  (pss_one (ps_ret (pv 2))))) pss_nil)
  (pss_cons (ps_asg (pe_op op_mod (pe_op op_add (pe_op op_mul (pe_ix ix_list (pv 0) pe_int (fun _ _ => rfl)) pe_int) pe_int) pe_int) (pg_sub (pv 0) pe_int set_list))
  (pss_cons (ps_set (i := 3) scDig.nd rfl (Or.inl rfl) (pe_op op_mod (pe_op op_mul (pe_ix ix_list (pv 0) pe_int (fun _ _ => rfl)) pe_int) pe_int))
  (pss_one (ps_ret (pe_op op_mod (pe_op op_add (pe_op op_mul (pe_op op_mod (pe_op op_mul (pe_ix ix_list (pv 0) pe_int (fun _ _ => rfl)) (pe_ix ix_list (pv 0) pe_int (fun _ _ => rfl))) pe_int) pe_int) (pv 3)) (pv 1))))))), ?_⟩
    have q2 : ∀ (b' c' d : Int), 0 ≤ b' → 0 ≤ c' → c' ≤ 2147483647 → 0 ≤ d → d < m → Q (.int d) (upd H tp (.lst [.int b', .int c'])) := fun b' c' d x1 x2 x3 x4 x5 =>
      q _ _ ⟨fun a o n e => by rw [upd_ne n]; exact e, b', c', upd_same, x1, x2, x3⟩ x4 x5
    refine ⟨.ref tp, rfl, tp, _, 0, _, rfl, rfl, .inl (.inl h1), rfl, b, 0, rfl, rfl, _, rfl, ite2 (fun e => ?_) (fun e => ?_)⟩
    · refine ⟨.ref tp, rfl, tp, _, 0, _, rfl, rfl, .inl (.inl h1), rfl, .int m, rfl, b, m, rfl, rfl, (by show 0 < m; omega), ?_⟩
      refine ⟨.ref tp, rfl, tp, _, 0, _, rfl, rfl, .inl (.inl h1), rfl, .int m, rfl, b, m, rfl, rfl, ⟨by omega, hlog⟩, .ref tp, rfl, tp, _, 0, 0, rfl, rfl, h1, rfl, ?_⟩
      exact ⟨.int (b % m), rfl, q2 (b / m) c _ (Int.ediv_nonneg b0 (by omega)) c0 c1 (Int.emod_nonneg _ (by omega)) (Int.emod_lt_of_pos _ (by omega))⟩
    · refine ⟨.ref tp, rfl, tp, _, 1, _, rfl, rfl, .inl (.inl h1), rfl, c, 48271, rfl, rfl, .inl ⟨by omega, by omega⟩, _, _, rfl, rfl, _, _, rfl, rfl, (by show (0 : Int) < 2147483647; decide), .ref tp, rfl, tp, _, 1, 1, rfl, rfl, h1, rfl, ?_⟩
      have n1 := Int.emod_nonneg (c * 48271 + 11) (by decide : (2147483647 : Int) ≠ 0)
      have n2 := Int.emod_lt_of_pos (c * 48271 + 11) (by decide : (0 : Int) < 2147483647)
      generalize ec : (c * 48271 + 11) % 2147483647 = c' at n1 n2
      refine ⟨.ref tp, rfl, tp, _, 1, _, rfl, rfl, .inl (.inl upd_same), rfl, c', 40692, by rw [← ec], rfl, .inl ⟨by omega, by omega⟩, _, _, rfl, rfl, (by show (0 : Int) < 2147483399; decide), ?_⟩
      have k1 := Int.emod_nonneg (c' * c') (by decide : (2147483629 : Int) ≠ 0)
      have k2 := Int.emod_lt_of_pos (c' * c') (by decide : (0 : Int) < 2147483629)
      refine ⟨.ref tp, rfl, tp, _, 1, _, rfl, rfl, .inl (.inl upd_same), rfl, .ref tp, rfl, tp, _, 1, _, rfl, rfl, .inl (.inl upd_same), rfl, c', c', by rw [← ec], by rw [← ec], .inl ⟨by omega, by omega⟩, _, _, rfl, rfl, (by show (0 : Int) < 2147483629; decide), _, 2147483399, rfl, rfl, .inl ⟨by omega, by omega⟩, _, rfl, _, _, rfl, rfl, .int m, rfl, _, m, rfl, rfl, (by show 0 < m; omega), ?_⟩
      have z := q2 b c' ((c' * c' % 2147483629 * 2147483399 + c' * 40692 % 2147483399) % m) b0 n1 (by omega) (Int.emod_nonneg _ (by omega)) (Int.emod_lt_of_pos _ (by omega))
      rw [← ec] at z ⊢
      exact z
end
end Rd

set_option Elab.async false
set_option linter.all false
set_option maxRecDepth 100000
set_option maxHeartbeats 4000000
namespace Rd
open PySem PySem.Spec PyProof.Rows L2 Dt
abbrev sWis : Stmt := topS 37
abbrev nWis : List Str := ["tape", "many", "hues", "most", "size", "left", "places", "every", "place", "longer", "row", "count", "rows", "k", "hue"]
theorem scWis : FnScope nWis ["tape", "many", "hues", "most"] (defScope sWis) := ⟨rfl, rfl, rfl, by decide +kernel, rfl, by decide +kernel, by decide +kernel⟩
def spWis : Sp := fun vs H Q _ => ∃ (tp : Addr) (many hues most : Int), vs = [.ref tp, .int many, .int hues, .int most] ∧ Tape H tp ∧ 1 ≤ many ∧ many ≤ 6 ∧ 2 ≤ hues ∧ hues ≤ 4 ∧ 1 ≤ most ∧ most ≤ 100 ∧
  ∀ H' wa wd, Taped tp H H' → IsWish H' wa wd → Good many hues wd → Neat wd → Q (.ref wa) H'
structure TxtW (P : Program) (w : World) (K : PySem.W.Frag) (mg : Str → Option Value) (base : Heap) : Prop where
  m_range : mg "range" = none
  m_list : mg "list" = none
  m_min : mg "min" = none
  m_len : mg "len" = none
  m_sorted : mg "sorted" = none
  m_tuple : mg "tuple" = none
  c__law_digit : Cal P w K mg base 1 "_law_digit" ["tape", "many"] spDig
theorem pow64 {h s : Nat} (h4 : h ≤ 4) (s3 : s ≤ 3) : h ^ s ≤ 64 := Nat.le_trans (Nat.pow_le_pow_left h4 s) (Nat.le_trans (Nat.pow_le_pow_right (by decide) s3) (by decide))
section
variable {P : Program} {w : World} {K : PySem.W.Frag} {mg : Str → Option Value} {base : Heap}
set_option maxHeartbeats 16000000 in
theorem ok_wis {f : Addr} {fd : FuncData} {k : Nat} (F : Fun K "_law_wish" "_law_wish" sWis f fd) (T : TxtW P w K mg base) : FnOk P w K mg base CX0 (k + 2) f fd ["tape", "many", "hues", "most"] spWis := by
  refine F.ok scWis (fun vs H Q E h => ?_) (fun cdv A outer s H vs Q E hr h => ?_)
  · obtain ⟨tp, many, hues, most, rfl, _⟩ := h
    rfl
  · obtain ⟨tp, many, hues, most, rfl, hT, m1, m6, h2, h4, o1, o100, q⟩ := h
    refine ⟨_, (pss_cons (ps_set (i := 4) scWis.nd rfl (Or.inl rfl) (pe_callB (call_min2 rfl) (by rfl) T.m_min (by decide +kernel) (pa_cons (pv 1) (pa_cons (pe_op op_add pe_int (pe_cal T.c__law_digit (hr.mono (by omega)) (by rfl) (pa_cons (pv 0) (pa_cons pe_int pa_nil)))) pa_nil))))
  (pss_cons (ps_set (i := 5) scWis.nd rfl (Or.inr rfl) (pe_listRg rfl (by rfl) T.m_list (prg_1 (by rfl) T.m_range (pv 1))))
  (pss_cons (ps_set (i := 6) scWis.nd rfl (Or.inl rfl) (pe_callB cr_sorted (by rfl) T.m_sorted (by decide +kernel) (pa_cons (pe_lc (te := tBM K "list" rPopAt (tVar 5) (tCons (tCall spDig [] E0 (tCons (tVar 0) (tCons (tCB (rLen K) (tCons (tVar 5) tNil)) tNil))) tNil)) (own := [("k", 13)]) rfl scWis.nd  (pi_range1 (by rfl) T.m_range (pa_cons (pv 4) pa_nil)) (blkOk_by (own := [("k", 13)]) (N := nWis) (sc := defScope sWis) (by decide +kernel))
   (fun _ _ _ _ _ => (pg_name (i := 13) scWis.nd rfl (Or.inl rfl))) (fun _ _ _ _ _ => pts_nil) (fun _ _ _ _ _ => (pe_bm PySem.F.plainAttrs_list PySem.F.slot_list_pop PySem.F.type_list_pop mt_popAt (pv 5) (pa_cons (pe_cal T.c__law_digit (hr.mono (by omega)) (by rfl) (pa_cons (pv 0) (pa_cons (pe_callB call_len_seq (by rfl) T.m_len (by decide +kernel) (pa_cons (pv 5) pa_nil)) pa_nil))) pa_nil)))) pa_nil)))
  (pss_cons (ps_set (i := 7) scWis.nd rfl (Or.inr rfl) (pe_lst (pa_cons (pe_tup pa_nil) pa_nil)))
  (pss_cons (ps_for PassesOwn.never rfl (pi_list (pv 6)) (pg_name (i := 8) scWis.nd rfl (Or.inl rfl))
  (pss_cons (ps_set (i := 9) scWis.nd rfl (Or.inl rfl) (pe_lst pa_nil))
  (pss_cons (ps_for PassesOwn.never rfl (pi_list (pv 7)) (pg_name (i := 10) scWis.nd rfl (Or.inr rfl))
  (pss_one (ps_expr (pe_bm PySem.F.plainAttrs_list PySem.F.slot_list_extend PySem.F.type_list_extend mt_extend (pv 9) (pa_cons (pe_lc (te := tOp (rCatA K) (tVar 10) (tTup (tCons (tVar 14) tNil))) (own := [("hue", 14)]) rfl scWis.nd  (pi_range1 (by rfl) T.m_range (pa_cons (pv 2) pa_nil)) (blkOk_by (own := [("hue", 14)]) (N := nWis) (sc := defScope sWis) (by decide +kernel))
   (fun _ _ _ _ _ => (pg_name (i := 14) scWis.nd rfl (Or.inl rfl))) (fun _ _ _ _ _ => pts_nil) (fun _ _ _ _ _ => (pe_op op_catA (pv 10) (pe_tup (pa_cons (pv 14) pa_nil))))) pa_nil)))))
  (pss_one (ps_set (i := 7) scWis.nd rfl (Or.inr rfl) (pv 9))))))
  (pss_cons (ps_set (i := 11) scWis.nd rfl (Or.inl rfl) (pe_callB (call_min2 rfl) (by rfl) T.m_min (by decide +kernel) (pa_cons (pe_callB call_len_seq (by rfl) T.m_len (by decide +kernel) (pa_cons (pv 7) pa_nil)) (pa_cons (pe_op op_add pe_int (pe_cal T.c__law_digit (hr.mono (by omega)) (by rfl) (pa_cons (pv 0) (pa_cons (pv 3) pa_nil)))) pa_nil))))
  (C8.pss_cut (ps_if (pt_cmpR op_eq (pe_cal T.c__law_digit (hr.mono (by omega)) (by rfl) (pa_cons (pv 0) (pa_cons pe_int pa_nil))) pe_int (nomark _))
  (pss_one (ps_set (i := 11) scWis.nd rfl (Or.inl rfl) (pe_op op_add pe_int (pe_cal T.c__law_digit (hr.mono (by omega)) (by rfl) (pa_cons (pv 0) (pa_cons (pe_callB call_len_seq (by rfl) T.m_len (by decide +kernel) (pa_cons (pv 7) pa_nil)) pa_nil)))))) pss_nil)
  (pss_cons (ps_setLc (i := 12) (te := tBM K "list" rPopAt (tVar 7) (tCons (tCall spDig [] E0 (tCons (tVar 0) (tCons (tCB (rLen K) (tCons (tVar 7) tNil)) tNil))) tNil)) (own := [("k", 13)]) rfl scWis.nd rfl rfl (sw_true rfl rfl rfl (by decide +kernel)) (pi_range1 (by rfl) T.m_range (pa_cons (pv 11) pa_nil)) (blkOk_by (own := [("k", 13)]) (N := nWis) (sc := defScope sWis) (by decide +kernel))
   (fun _ _ _ _ _ => (pg_name (i := 13) scWis.nd rfl (Or.inl rfl))) (fun _ _ _ _ _ => pts_nil) (fun _ _ _ _ _ => (pe_bm PySem.F.plainAttrs_list PySem.F.slot_list_pop PySem.F.type_list_pop mt_popAt (pv 7) (pa_cons (pe_cal T.c__law_digit (hr.mono (by omega)) (by rfl) (pa_cons (pv 0) (pa_cons (pe_callB call_len_seq (by rfl) T.m_len (by decide +kernel) (pa_cons (pv 7) pa_nil)) pa_nil))) pa_nil))))
  (pss_one (ps_ret (pe_tup (pa_cons (pe_callTy call_tuple_of (by rfl) T.m_tuple (by decide +kernel) (pa_cons (pv 6) pa_nil)) (pa_cons (pe_callTy call_tuple_of (by rfl) T.m_tuple (by decide +kernel) (pa_cons (pe_callB Tt.cr_sortedT (by rfl) T.m_sorted (by decide +kernel) (pa_cons (pv 12) pa_nil)) pa_nil)) pa_nil))))))))))))), ?_⟩
    -- size
    refine ⟨.int many, rfl, .ref tp, rfl, tp, 3, rfl, hT, by decide, by decide, fun H1 sz D1 z0 z1 => ⟨1, sz, rfl, rfl, many, 1 + sz, rfl, ?_⟩⟩
    obtain ⟨u1, u3, um⟩ : 1 ≤ (if 1 + sz < many then 1 + sz else many) ∧ (if 1 + sz < many then 1 + sz else many) ≤ 3 ∧ (if 1 + sz < many then 1 + sz else many) ≤ many := by split <;> omega
    generalize (if 1 + sz < many then 1 + sz else many) = size at u1 u3 um
    -- left
    refine ⟨.int many, rfl, many, rfl, ⟨by omega, by omega, by omega, by omega, by omega⟩, fun l nl => ?_⟩
    have nlt := D1.2.new nl
    have nl0 : H l = none := D1.free nl
    have E3 := D1.put (o := .lst (rgV 0 many)) nl0 nlt
    have hl3 : upd H1 l (.lst (rgV 0 many)) l = some (.lst (rgV 0 many)) := upd_same
    generalize upd H1 l (.lst (rgV 0 many)) = H3 at E3 hl3
    -- places
    refine ⟨.int size, rfl, size, rfl, by omega, by omega, fun D nD => ?_⟩
    have nDt := E3.2.new nD
    have nD0 : H D = none := E3.free nD
    have nlD : l ≠ D := ne_of_none hl3 nD
    refine lc_range (lo := 0) (n := size.toNat) (fun i H5 => ∃ acc ls, Pops V.int tp H l D (rngI many) i H5 acc ls) ⟨[], rngI many, E3.put nD0 nDt, ?_, upd_same, rfl, by simp, List.Perm.refl _⟩ (fun i H5 hi p => ?_) (fun H5 p => ?_)
    · rw [upd_ne nlD, hl3, rgV_eq]
    · obtain ⟨acc, ls, p⟩ := p
      have ll := p.ll
      have rl := rngI_len many
      refine ⟨rfl, yes_if ?_⟩
      refine ⟨.ref l, rfl, .inl ⟨rfl, _, .inl (.inl p.hL)⟩, .ref tp, rfl, .ref l, rfl, l, _, rfl, .inl (.inl (.inl p.hL)), tp, _, rfl, p.fr.2, by rw [List.length_map]; omega, by rw [List.length_map]; exact log_small (by omega) (by omega), fun H6 d D6 d0 d1 => ?_⟩
      rw [List.length_map] at d1
      obtain ⟨y, y1, y2, y3, acc', y4, y5, acc2, ls2, y6⟩ := pop_step nl0 nlt nD0 nDt nlD (by omega) p D6 d0 d1
      exact ⟨l, ls.map V.int, d, d.toNat, y, rfl, rfl, y2, by omega, by omega, y3, y1, acc', y4, y5, acc2, ls2, y6⟩
    · obtain ⟨acc, ls, ⟨E5, hL, hD, la, ll, pm⟩⟩ := p
      refine ⟨D, acc, rfl, .inl (.inl hD), by omega, fun ps lp perm rising nlp => ?_⟩
      have anod : acc.Nodup := (List.nodup_append.mp (pm.nodup_iff.mpr (rngI_nodup many))).1
      have psn : ps.Nodup := perm.nodup_iff.mpr anod
      have accb : ∀ z ∈ acc, 0 ≤ z ∧ z < many := fun z hz => rngI_mem (pm.mem_iff.mp (List.mem_append_left _ hz))
      have psb : ∀ z ∈ ps, 0 ≤ z ∧ z < many := fun z hz => accb z (perm.mem_iff.mp hz)
      have psl : ps.length = size.toNat := by rw [perm.length_eq, la]
      have prise := rise_of rising psn
      have nlpt := E5.2.new nlp
      have nlp0 : H lp = none := E5.free nlp
      have E6 := E5.put (o := .lst (ps.map V.int)) nlp0 nlpt
      have hp6 : upd H5 lp (.lst (ps.map V.int)) lp = some (.lst (ps.map V.int)) := upd_same
      generalize upd H5 lp (.lst (ps.map V.int)) = H6 at E6 hp6
      clear hL hD la ll pm accb perm nD nDt nD0 nlD hl3
      -- every
      refine ⟨(by show 0 ≤ sizeLine; decide), fun t nt => ⟨(by show 1 ≤ sizeLine; decide), fun l1 nl1 => ?_⟩⟩
      have st := same_upd (o := .tup []) nt
      have sl := same_upd (o := .lst [.ref t]) nl1
      have hn6 : ∀ b, H6 b = none → H b = none := fun b e => E6.free e
      refine ⟨.ref lp, rfl, lp, rfl, ⟨_, .inl (.inl ((st.trans sl) _ _ hp6))⟩, for_list (K := K) (a := lp) (xs := ps.map V.int) (fun i σ H3 => Same H6 H3 ∧ ∃ l0, H6 l0 = none ∧ IsFills H3 l0 (fillL hues.toNat i) ∧ ∃ y8 y9 y10, σ = [some (.ref tp), some (.int many), some (.int hues), some (.int most), some (.int size), some (.ref l), some (.ref lp), some (.ref l0), y8, y9, y10, none, none, none, none]) ⟨st.trans sl, l1, st.free nl1, ⟨[t], upd_same, .cons (sl _ _ upd_same) .nil⟩, none, none, none, rfl⟩ (fun i σ H3 _ p => .inl (.inl (p.1 _ _ hp6))) (fun i x σ H3 hx p => ?_) (fun σ H3 p => ?_)⟩
      · obtain ⟨sm, l0, nl0', ⟨as, hl, pr⟩, y8, y9, y10, rfl⟩ := p
        have hi : i < ps.length := by
          have := (List.getElem?_eq_some_iff.mp hx).1
          rw [List.length_map] at this
          exact this
        have flen := fill_len hues.toNat i
        have p4 : hues.toNat ^ i ≤ 4096 := pow_le_4096 (by omega) (by omega)
        have alen := pairedLen pr
        refine ⟨(by show 0 ≤ sizeLine; decide), fun L nL => ?_⟩
        have nLH : H6 L = none := sm.free nL
        refine ⟨.ref l0, rfl, l0, rfl, ⟨_, .inl (.inl (same_upd nL _ _ hl))⟩, for_list (K := K) (a := l0) (xs := as.map V.ref) (fun i2 σ H5 => Same H3 H5 ∧ IsFills H5 L (((fillL hues.toNat i).take i2).flatMap (longer hues.toNat)) ∧ ∃ y8 y10, σ = [some (.ref tp), some (.int many), some (.int hues), some (.int most), some (.int size), some (.ref l), some (.ref lp), some (.ref l0), y8, some (.ref L), y10, none, none, none, none]) ⟨same_upd nL, ⟨[], upd_same, .nil⟩, _, _, rfl⟩ (fun i2 σ H5 _ pp => .inl (.inl (pp.1 _ _ hl))) (fun i2 x σ H5 hx pp => ?_) (fun σ H5 pp => ?_)⟩
        · obtain ⟨a, ea, rfl⟩ := map_get hx
          obtain ⟨fl, hfl, isr⟩ := pairedGetL pr ea
          obtain ⟨s5, ⟨bs, hL, pb⟩, z2, z4, rfl⟩ := pp
          have blen := pairedLen pb
          refine ⟨.ref L, rfl, .inl ⟨rfl, _, .inl (.inl hL)⟩, .int hues, rfl, hues, rfl, by omega, by omega, fun D nD => lc_range (lo := 0) (n := hues.toNat) (fun j H6 => Same H5 H6 ∧ IsFills H6 D ((longer hues.toNat fl).take j)) ⟨same_upd nD, [], upd_same, .nil⟩ (fun j H6 hj pp => ?_) (fun H6 pp => ?_)⟩
          · obtain ⟨s6, cs, hb, pc⟩ := pp
            have clen := pairedLen pc
            have fin : ∀ (H7 : Hp) (r : Addr), Same H6 H7 → H7 r = some (.tup ((fl ++ [(j : Int)]).map V.int)) → ∃ acc, H7 D = some (.lst acc) ∧ acc.length < sizeLine ∧ (Same H5 (upd H7 D (.lst (acc ++ [.ref r]))) ∧ IsFills (upd H7 D (.lst (acc ++ [.ref r]))) D ((longer hues.toNat fl).take (j + 1))) := fun H7 r s7 hr7 => by
              have hD7 := s7 _ _ hb
              have tu : Tups H7 (upd H7 D (.lst (cs.map V.ref ++ [.ref r]))) := tups_upd fun xs z => by rw [hD7] at z; cases z
              refine ⟨_, hD7, ?_, fun b o e => ?_, cs ++ [r], ?_, ?_⟩
              · rw [List.length_map, clen, List.length_take, longer_len]
                exact small1000 (by omega)
              · rw [upd_ne (ne_of_none e nD)]
                exact s7 _ _ (s6 b o e)
              · rw [upd_same, List.map_append]
                rfl
              · rw [take_snoc (longer_at fl hj)]
                exact pairedSnoc (pairedMap (fun _ _ e => tu _ _ (s7 _ _ e)) pc) (tu _ _ hr7)
            refine ⟨rfl, yes_if ?_⟩
            refine ⟨.ref a, rfl, .int (0 + (j : Int)), rfl, (by show 1 ≤ sizeLine; decide), fun t nt => ?_⟩
            have sT := same_upd (o := .tup [.int (0 + (j : Int))]) nt
            have ha : upd H6 t (.tup [.int (0 + (j : Int))]) a = some (.tup (fl.map V.int)) := sT _ _ (s6 _ _ (s5 _ _ isr))
            have e0 : (0 : Int) + (j : Int) = j := Int.zero_add _
            have flen2 := (fill_good (List.mem_of_getElem? hfl)).1
            refine ⟨a, t, _, _, rfl, rfl, .inl (.inl ha), .inl (.inl upd_same), ?_, fun z => ?_, (fun _ z => nomatch z), fun z _ p np => ?_⟩
            · rw [List.length_map, flen2]
              exact Nat.le_of_lt (small1000 (by show i + 1 ≤ 1000; omega))
            · have z2 : fl = [] := List.map_eq_nil_iff.mp z
              refine fin _ t sT ?_
              rw [upd_same, z2, e0]
              rfl
            · have sp := same_upd (o := .tup (fl.map V.int ++ [.int (0 + (j : Int))])) np
              refine fin _ p (sT.trans sp) ?_
              rw [upd_same, e0, List.map_append]
              rfl
          · obtain ⟨s6, cs, hb, pc⟩ := pp
            rw [List.take_of_length_le (by rw [longer_len]; exact Nat.le_refl _)] at pc
            have hL6 := s6 _ _ hL
            have clen := pairedLen pc
            have tu : Tups H6 (upd H6 L (.lst (bs.map V.ref ++ cs.map V.ref))) := tups_upd fun xs z => by rw [hL6] at z; cases z
            refine ⟨L, D, _, _, rfl, rfl, hL6, hb, ?_, fun b o e => ?_, ⟨bs ++ cs, ?_, ?_⟩, _, _, rfl⟩
            · rw [List.length_map, List.length_map, blen, clen, flat_len, List.length_take, longer_len, flen]
              have : min i2 (hues.toNat ^ i) * hues.toNat ≤ 4096 * 4 := Nat.mul_le_mul (by omega) (by omega)
              exact Nat.le_trans (show _ ≤ 20000 by omega) (by decide)
            · rw [upd_ne (ne_of_none e nL)]
              exact s6 _ _ (s5 b o e)
            · rw [upd_same, List.map_append]
            · rw [take_snoc hfl, List.flatMap_append]
              refine pairedApp (pairedMap (fun _ _ e => tu _ _ (s6 _ _ e)) pb) ?_
              have e : [fl].flatMap (longer hues.toNat) = longer hues.toNat fl := by simp
              rw [e]
              exact pairedMap (fun _ _ e => tu _ _ e) pc
        · obtain ⟨s5, fs5, z2, z4, rfl⟩ := pp
          refine ⟨.ref L, rfl, sm.trans s5, L, nLH, ?_, _, _, _, rfl⟩
          rw [List.length_map, alen, List.take_length] at fs5
          exact fs5
      · obtain ⟨sm, le, nle6, ⟨as, hle, pr⟩, y8, y9, y10, rfl⟩ := p
        rw [List.length_map, psl] at pr
        have E7 := E6.same sm
        have hp7 := sm _ _ hp6
        have nle0 := hn6 _ nle6
        have nlet : le ≠ tp := E6.2.new nle6
        have nlpe : lp ≠ le := ne_of_none hp6 nle6
        obtain ⟨zs0, ez1, ez2, hzs⟩ := pairedZip pr
        have zlen : zs0.length = hues.toNat ^ size.toNat := by
          have := congrArg List.length ez2
          rw [List.length_map, fill_len] at this
          exact this
        have z64 : zs0.length ≤ 64 := by rw [zlen]; exact pow64 (by omega) (by omega)
        have z1p : 1 ≤ zs0.length := by rw [zlen]; exact Nat.pow_pos (by omega)
        have asl : as.length = zs0.length := by rw [← ez1, List.length_map]
        -- count
        refine ⟨.ref le, rfl, le, _, rfl, .inl (.inl (.inl hle)), .ref tp, rfl, .int most, rfl, tp, most, rfl, E7.2, o1, log_small (by omega) (by omega), fun H8 ct D8 c0 c1 => ⟨1, ct, rfl, rfl, _, 1 + ct, rfl, ?_⟩⟩
        rw [List.length_map, asl]
        obtain ⟨v1, v2⟩ : 1 ≤ (if 1 + ct < (zs0.length : Int) then 1 + ct else (zs0.length : Int)) ∧ (if 1 + ct < (zs0.length : Int) then 1 + ct else (zs0.length : Int)) ≤ zs0.length := by split <;> omega
        generalize (if 1 + ct < (zs0.length : Int) then 1 + ct else (zs0.length : Int)) = cnt0 at v1 v2
        have E8 := E7.trans D8
        have hle8 := D8.1 le _ nlet hle
        have hp8 := D8.1 lp _ nlpt hp7
        have tu8 : Tups H3 H8 := D8.tups E7.2
        refine ⟨fun σ Hc => Taped tp H Hc ∧ Hc le = some (.lst (as.map V.ref)) ∧ Hc lp = some (.lst (ps.map V.int)) ∧ Tups H3 Hc ∧ ∃ cnt, 1 ≤ cnt ∧ cnt ≤ (zs0.length : Int) ∧ ∃ y8 y9 y10, σ = [some (.ref tp), some (.int many), some (.int hues), some (.int most), some (.int size), some (.ref l), some (.ref lp), some (.ref le), y8, y9, y10, some (.int cnt), none, none, none], ?_, ?_⟩
        · refine ⟨.ref tp, rfl, tp, 12, rfl, E8.2, by decide, by decide, fun H9 d D9 d0 d1 => ⟨rfl, _, rfl, ite2 (fun _ => ?_) (fun _ => ?_)⟩⟩
          · have E9 := E8.trans D9
            have hle9 := D9.1 le _ nlet hle8
            refine ⟨.ref tp, rfl, .ref le, rfl, le, _, rfl, .inl (.inl (.inl hle9)), tp, _, rfl, E9.2, by rw [List.length_map]; omega, by rw [List.length_map]; exact log_small (by omega) (by omega), fun H10 d2 D10 e0 e1 => ⟨1, d2, rfl, rfl, ?_⟩⟩
            rw [List.length_map] at e1
            exact ⟨E9.trans D10, D10.1 le _ nlet hle9, D10.1 lp _ nlpt (D9.1 lp _ nlpt hp8), tu8.trans ((D9.tups E8.2).trans (D10.tups E9.2)), 1 + d2, by omega, by omega, _, _, _, rfl⟩
          · exact ⟨E8.trans D9, D9.1 le _ nlet hle8, D9.1 lp _ nlpt hp8, tu8.trans (D9.tups E8.2), cnt0, v1, v2, _, _, _, rfl⟩
        · rintro σ Hc ⟨Ec, hlec, hpc, tuc, cnt, n1, n2, w8, w9, w10, rfl⟩
          -- rows
          refine ⟨.int cnt, rfl, cnt, rfl, by omega, by omega, fun D nD => ?_⟩
          have nDt := Ec.2.new nD
          have nD0 : H D = none := Ec.free nD
          have nlD : le ≠ D := ne_of_none hlec nD
          refine lc_range (lo := 0) (n := cnt.toNat) (fun i H5 => (∃ acc ls, Pops (fun z : Addr × List Int => V.ref z.1) tp H le D zs0 i H5 acc ls) ∧ Tups H3 H5 ∧ H5 lp = some (.lst (ps.map V.int))) ⟨⟨[], zs0, Ec.put nD0 nDt, ?_, upd_same, rfl, by simp, List.Perm.refl _⟩, tuc.trans (tups_same (same_upd nD)), same_upd nD _ _ hpc⟩ (fun i H5 hi p => ?_) (fun H5 p => ?_)
          · rw [upd_ne nlD, hlec, ← ez1, List.map_map]
            rfl
          · obtain ⟨⟨acc, ls, p⟩, tu5, hp5⟩ := p
            have ll := p.ll
            refine ⟨rfl, yes_if ?_⟩
            refine ⟨.ref le, rfl, .inl ⟨rfl, _, .inl (.inl p.hL)⟩, .ref tp, rfl, .ref le, rfl, le, _, rfl, .inl (.inl (.inl p.hL)), tp, _, rfl, p.fr.2, by rw [List.length_map]; omega, by rw [List.length_map]; exact log_small (by omega) (by omega), fun H6' d D6 d0 d1 => ?_⟩
            rw [List.length_map] at d1
            obtain ⟨y, y1, y2, y3, acc', y4, y5, acc2, ls2, y6⟩ := pop_step nle0 nlet nD0 nDt nlD (by omega) p D6 d0 d1
            have nlpD : lp ≠ D := ne_of_none hpc nD
            have hD6 := y4
            refine ⟨le, ls.map _, d, d.toNat, y, rfl, rfl, y2, by omega, by omega, y3, y1, acc', y4, y5, ⟨acc2, ls2, y6⟩, ?_, ?_⟩
            · refine tu5.trans ((D6.tups p.fr.2).trans ((tups_upd fun xs z => by rw [y2] at z; cases z).trans (tups_upd fun xs z => by rw [y4] at z; cases z)))
            · rw [upd_ne nlpD, upd_ne nlpe]
              exact D6.1 lp _ nlpt hp5
          · obtain ⟨⟨acc, ls, p⟩, tu5, hp5⟩ := p
            have rowsAt : ∀ z ∈ acc, IsRow H5 z.1 z.2 := fun z hz => tu5 _ _ (hzs z (p.pm.mem_iff.mp (List.mem_append_left _ hz)))
            have accIn : ∀ z ∈ acc, z.2 ∈ fillL hues.toNat size.toNat := fun z hz => by
              rw [← ez2]
              exact List.mem_map.mpr ⟨z, p.pm.mem_iff.mp (List.mem_append_left _ hz), rfl⟩
            have accNd : (acc.map (·.2)).Nodup := by
              have a1 : ((acc ++ ls).map (·.2)).Perm (zs0.map (·.2)) := p.pm.map _
              rw [ez2, List.map_append] at a1
              exact (List.nodup_append.mp (a1.nodup_iff.mpr (fill_nodup _ _))).1
            -- the wish
            refine ⟨.ref lp, rfl, lp, _, rfl, .inl ⟨.inl (.inl hp5), fun t1 nt1 => ?_⟩⟩
            have q1 := same_upd (o := .tup (ps.map V.int)) nt1
            generalize hH6 : upd H5 t1 (.tup (ps.map V.int)) = H7 at q1
            have ht1 : H7 t1 = some (.tup (ps.map V.int)) := by rw [← hH6]; exact upd_same
            have hD7 := q1 _ _ p.hD
            have rows7 : ∀ z ∈ acc, IsRow H7 z.1 z.2 := fun z hz => q1 _ _ (rowsAt z hz)
            have eqr : acc.map (fun z => rowAt H7 z.1) = acc.map (·.2) := List.map_congr_left fun z hz => rowAt_of (rows7 z hz)
            refine ⟨.ref D, rfl, D, acc.map (·.1), rowAt H7, ps.length, hues, rfl, .inl (.inl (by rw [hD7, List.map_map]; rfl)), by omega, fun t ht => ?_, fun ts' so pm pw nso => ?_⟩
            · obtain ⟨z, hz, rfl⟩ := List.mem_map.mp ht
              have fg := fill_good (accIn z hz)
              rw [rowAt_of (rows7 z hz)]
              exact ⟨rows7 z hz, by omega, fun h hh => by have := fg.2 h hh; omega⟩
            have q2 := same_upd (o := .lst (ts'.map V.ref)) nso
            refine ⟨so, _, rfl, .inl ⟨.inl (.inl upd_same), fun t2 nt2 => ?_⟩⟩
            have q3 := q2.trans (same_upd (o := .tup (ts'.map V.ref)) nt2)
            refine ⟨(by show 2 ≤ sizeLine; decide), fun wa nwa => ?_⟩
            have q4 := same_upd (o := .tup [.ref t1, .ref t2]) nwa
            have q5 := q3.trans q4
            have permR : (ts'.map (rowAt H7)).Perm (acc.map (·.2)) := by
              have := pm.map (rowAt H7)
              rw [List.map_map] at this
              rw [← eqr]
              exact this
            have hts : ∀ t ∈ ts', IsRow H7 t (rowAt H7 t) := fun t ht => by
              obtain ⟨z, hz, rfl⟩ := List.mem_map.mp (pm.mem_iff.mp ht)
              rw [rowAt_of (rows7 z hz)]
              exact rows7 z hz
            have la := p.la
            have lr : (ts'.map (rowAt H7)).length = cnt.toNat := by rw [permR.length_eq, List.length_map, la]
            refine q _ wa (ps, ts'.map (rowAt H7)) ((p.fr.same q1).same q5) ⟨t1, t2, ts', upd_same, q5 _ _ ht1, q4 _ _ upd_same, pairedMap (fun _ _ e => q5 _ _ e) (pairedOf hts)⟩ ⟨?_, ?_, psb, ?_, ?_, fun r hr => ?_⟩ ⟨prise, permR.nodup_iff.mpr accNd⟩
            · show 1 ≤ ps.length
              omega
            · show ps.length ≤ 3
              omega
            · show 1 ≤ (ts'.map (rowAt H7)).length
              omega
            · show (ts'.map (rowAt H7)).length ≤ 64
              omega
            · obtain ⟨z, hz, rfl⟩ := List.mem_map.mp (permR.mem_iff.mp hr)
              have fg := fill_good (accIn z hz)
              refine ⟨?_, fun h hh => ?_⟩
              · show z.2.length = ps.length
                omega
              · have := fg.2 h hh
                omega
end
end Rd

set_option Elab.async false
set_option linter.all false
set_option maxRecDepth 100000
set_option maxHeartbeats 4000000
namespace Rd
open PySem PySem.Spec PyProof.Rows L2 Dt
abbrev sSzs : Stmt := topS 38
abbrev nSzs : List Str := ["tape", "small", "some"]
theorem scSzs : FnScope nSzs ["tape", "small"] (defScope sSzs) := ⟨rfl, rfl, rfl, by decide +kernel, rfl, by decide +kernel, by decide +kernel⟩
abbrev sRid : Stmt := topS 39
abbrev nRid : List Str := ["tape", "small", "many", "hues", "wishes", "k"]
theorem scRid : FnScope nRid ["tape", "small"] (defScope sRid) := ⟨rfl, rfl, rfl, by decide +kernel, rfl, by decide +kernel, by decide +kernel⟩
def szOk (p : Int × Int) : Prop := 1 ≤ p.1 ∧ p.1 ≤ 6 ∧ 2 ≤ p.2 ∧ p.2 ≤ 4 ∧ p.2.toNat ^ p.1.toNat ≤ 256
def szA : List (Int × Int) := [(3, 2), (2, 3), (4, 2), (3, 3), (5, 2), (2, 2), (2, 4), (1, 3), (1, 2), (1, 4), (2, 3), (3, 2)]
def szB : List (Int × Int) := [(6, 2), (4, 3), (3, 4), (5, 3), (4, 4), (5, 2), (3, 3), (4, 2), (2, 4), (6, 2), (1, 2), (5, 2)]
theorem szA_ok : ∀ p ∈ szA, szOk p := by unfold szOk szA; decide
theorem szB_ok : ∀ p ∈ szB, szOk p := by unfold szOk szB; decide
def spSzs : Sp := fun vs H Q _ => ∃ (tp : Addr) (sm : Bool), vs = [.ref tp, .bl sm] ∧ Tape H tp ∧ ∀ H' t many hues, Taped tp H H' → H' t = some (.tup [.int many, .int hues]) → szOk (many, hues) → Q (.ref t) H'
def spRid : Sp := fun vs H Q _ => ∃ (tp : Addr) (sm : Bool), vs = [.ref tp, .bl sm] ∧ Tape H tp ∧
  ∀ H' ri many hues wds, Taped tp H H' → IsRid H' ri many hues wds → GoodR many hues wds → (∀ wd ∈ wds, Neat wd) → szOk (many, hues) → Q (.ref ri) H'
def spTab : Sp := fun vs H Q _ => ∃ (tp ri : Addr) (many hues most : Int) (z : V), vs = [.ref tp, .ref ri, .int most] ∧ Tape H tp ∧ H ri = some (.tup [.int many, .int hues, z]) ∧ 1 ≤ many ∧ many ≤ 6 ∧ 2 ≤ hues ∧ hues ≤ 4 ∧ 1 ≤ most ∧ most ≤ 900 ∧
  ∀ H' ta tb, Taped tp H H' → IsTab (Old H) H' ta tb → GoodT many hues tb → (∀ ds ∈ tb, (ds.length : Int) ≤ most) → Q (.ref ta) H'
def spOrd : Sp := fun vs H Q _ => ∃ (tp : Addr) (n : Int), vs = [.ref tp, .int n] ∧ Tape H tp ∧ 0 ≤ n ∧ n ≤ 20 ∧
  ∀ H' oa ord, Taped tp H H' → H' oa = some (.tup (ord.map V.int)) → GoodO n.toNat ord → ord.Perm (rngI n) → Q (.ref oa) H'
structure TxtR (P : Program) (w : World) (K : PySem.W.Frag) (mg : Str → Option Value) (base : Heap) : Prop extends TxtW P w K mg base where
  c__law_wish : Cal P w K mg base 2 "_law_wish" ["tape", "many", "hues", "most"] spWis
  c__law_sizes : Cal P w K mg base 2 "_law_sizes" ["tape", "small"] spSzs
theorem goodO_of {n : Int} {ord : List Int} (h0 : 0 ≤ n) (p : ord.Perm (rngI n)) : GoodO n.toNat ord := by
  refine ⟨fun z hz => ?_, fun k hk => ?_, ?_⟩
  · have := rngI_mem (p.mem_iff.mp hz)
    omega
  · exact p.mem_iff.mpr (rngI_all (by omega))
  · rw [p.length_eq, rngI_len]
    exact Nat.le_refl _
section
variable {P : Program} {w : World} {K : PySem.W.Frag} {mg : Str → Option Value} {base : Heap}
theorem ok_szs {f : Addr} {fd : FuncData} {k : Nat} (F : Fun K "_law_sizes" "_law_sizes" sSzs f fd) (T : TxtW P w K mg base) : FnOk P w K mg base CX0 (k + 2) f fd ["tape", "small"] spSzs := by
  refine F.ok scSzs (fun vs H Q E h => ?_) (fun cdv A outer s H vs Q E hr h => ?_)
  · obtain ⟨tp, sm, rfl, _⟩ := h
    rfl
  · obtain ⟨tp, sm, rfl, hT, q⟩ := h
    refine ⟨_, (pss_cons (ps_set (i := 2) scSzs.nd rfl (Or.inl rfl) (show PE _ _ (tLst (pairsT szA)) from (pe_lst (pa_cons (pe_tup (pa_cons pe_int (pa_cons pe_int pa_nil))) (pa_cons (pe_tup (pa_cons pe_int (pa_cons pe_int pa_nil))) (pa_cons (pe_tup (pa_cons pe_int (pa_cons pe_int pa_nil))) (pa_cons (pe_tup (pa_cons pe_int (pa_cons pe_int pa_nil))) (pa_cons (pe_tup (pa_cons pe_int (pa_cons pe_int pa_nil))) (pa_cons (pe_tup (pa_cons pe_int (pa_cons pe_int pa_nil))) (pa_cons (pe_tup (pa_cons pe_int (pa_cons pe_int pa_nil))) (pa_cons (pe_tup (pa_cons pe_int (pa_cons pe_int pa_nil))) (pa_cons (pe_tup (pa_cons pe_int (pa_cons pe_int pa_nil))) (pa_cons (pe_tup (pa_cons pe_int (pa_cons pe_int pa_nil))) (pa_cons (pe_tup (pa_cons pe_int (pa_cons pe_int pa_nil))) (pa_cons (pe_tup (pa_cons pe_int (pa_cons pe_int pa_nil))) pa_nil)))))))))))))))
  (C8.pss_cut (ps_if (pt_not (pt_val (pv 1)))
  (pss_one (ps_set (i := 2) scSzs.nd rfl (Or.inl rfl) (show PE _ _ (tLst (pairsT szB)) from (pe_lst (pa_cons (pe_tup (pa_cons pe_int (pa_cons pe_int pa_nil))) (pa_cons (pe_tup (pa_cons pe_int (pa_cons pe_int pa_nil))) (pa_cons (pe_tup (pa_cons pe_int (pa_cons pe_int pa_nil))) (pa_cons (pe_tup (pa_cons pe_int (pa_cons pe_int pa_nil))) (pa_cons (pe_tup (pa_cons pe_int (pa_cons pe_int pa_nil))) (pa_cons (pe_tup (pa_cons pe_int (pa_cons pe_int pa_nil))) (pa_cons (pe_tup (pa_cons pe_int (pa_cons pe_int pa_nil))) (pa_cons (pe_tup (pa_cons pe_int (pa_cons pe_int pa_nil))) (pa_cons (pe_tup (pa_cons pe_int (pa_cons pe_int pa_nil))) (pa_cons (pe_tup (pa_cons pe_int (pa_cons pe_int pa_nil))) (pa_cons (pe_tup (pa_cons pe_int (pa_cons pe_int pa_nil))) (pa_cons (pe_tup (pa_cons pe_int (pa_cons pe_int pa_nil))) pa_nil)))))))))))))))) pss_nil)
  (pss_one (ps_ret (pe_ix ix_list (pv 2) (pe_cal T.c__law_digit (hr.mono (by omega)) (by rfl) (pa_cons (pv 0) (pa_cons pe_int pa_nil))) (fun _ _ => rfl)))))), ?_⟩
    refine pairs_set (prs := szA) (by decide) fun l ts H1 s1 nl hl pr => ?_
    refine ⟨fun σ H' => Same H H' ∧ ∃ l ts prs, H l = none ∧ H' l = some (.lst (ts.map V.ref)) ∧ Paired (IsPr H') ts prs ∧ prs.length = 12 ∧ (∀ p ∈ prs, szOk p) ∧ σ = [some (.ref tp), some (.bl sm), some (.ref l)], ?_, ?_⟩
    · refine ⟨.bl sm, rfl, sm, rfl, ite2 (fun e => ?_) (fun e => ?_)⟩
      · refine pairs_asg (prs := szB) (by decide) fun l2 ts2 H2 s2 nl2 hl2 pr2 => ?_
        exact ⟨s1.trans s2, l2, ts2, szB, s1.free nl2, hl2, pr2, rfl, szB_ok, rfl⟩
      · exact ⟨s1, l, ts, szA, nl, hl, pr, rfl, szA_ok, rfl⟩
    · rintro σ H2 ⟨s2, l2, ts2, prs, nl2, hl2, pr2, lp, okp, rfl⟩
      have hT2 := hT.same s2
      have nlt : l2 ≠ tp := hT.new nl2
      refine ⟨.ref l2, rfl, .ref tp, rfl, tp, 12, rfl, hT2, by decide, by decide, fun H3 d D3 d0 d1 => ?_⟩
      have hd : d.toNat < ts2.length := by rw [pairedLen pr2]; omega
      obtain ⟨p, hp, isp⟩ := pairedGetL pr2 (List.getElem?_eq_getElem hd)
      refine ⟨l2, _, d, _, rfl, rfl, .inl (.inl (D3.1 _ _ nlt hl2)), atI_of d0 (List.getElem?_eq_getElem hd), ?_⟩
      exact q H3 _ p.1 p.2 ((Taped.refl hT).same s2 |>.trans D3) (D3.tups hT2 _ _ isp) (okp p (List.mem_of_getElem? hp))
theorem ok_rid {f : Addr} {fd : FuncData} {k : Nat} (F : Fun K "_law_riddle" "_law_riddle" sRid f fd) (T : TxtR P w K mg base) : FnOk P w K mg base CX0 (k + 3) f fd ["tape", "small"] spRid := by
  refine F.ok scRid (fun vs H Q E h => ?_) (fun cdv A outer s H vs Q E hr h => ?_)
  · obtain ⟨tp, sm, rfl, _⟩ := h
    rfl
  · obtain ⟨tp, sm, rfl, hT, q⟩ := h
    refine ⟨_, (pss_cons (ps_asg (pe_cal T.c__law_sizes (hr.mono (by omega)) (by rfl) (pa_cons (pv 0) (pa_cons (pv 1) pa_nil))) (pg_tup rfl (pgs_cons (pg_name (i := 2) scRid.nd rfl (Or.inr rfl)) (pgs_cons (pg_name (i := 3) scRid.nd rfl (Or.inr rfl)) pgs_nil))))
  (pss_cons (ps_setLc (i := 4) (te := tCall spWis [] E0 (tCons (tVar 0) (tCons (tVar 2) (tCons (tVar 3) (tCons (tC (.int 2)) tNil))))) (own := [("k", 5)]) rfl scRid.nd rfl rfl (sw_true rfl rfl rfl (by decide +kernel)) (pi_range1 (by rfl) T.m_range (pa_cons (pe_cal T.c__law_digit (hr.mono (by omega)) (by rfl) (pa_cons (pv 0) (pa_cons pe_int pa_nil))) pa_nil)) (blkOk_by (own := [("k", 5)]) (N := nRid) (sc := defScope sRid) (by decide +kernel))
   (fun _ _ _ _ _ => (pg_name (i := 5) scRid.nd rfl (Or.inl rfl))) (fun _ _ _ _ _ => pts_nil) (fun _ _ _ _ _ => (pe_cal T.c__law_wish (hr.mono (by omega)) (by rfl) (pa_cons (pv 0) (pa_cons (pv 2) (pa_cons (pv 3) (pa_cons pe_int pa_nil)))))))
  (pss_one (ps_ret (pe_tup (pa_cons (pv 2) (pa_cons (pv 3) (pa_cons (pe_callTy call_tuple_of (by rfl) T.m_tuple (by decide +kernel) (pa_cons (pv 4) pa_nil)) pa_nil)))))))), ?_⟩
    refine ⟨.ref tp, rfl, .bl sm, rfl, tp, sm, rfl, hT, fun H1 t many hues D1 ht ok => ?_⟩
    obtain ⟨k1, k6, hh2, hh4, kp⟩ := id ok
    dsimp only at k1 k6 hh2 hh4
    refine ⟨t, _, rfl, .inl (.inl ht), rfl, .int many, [.int hues], rfl, .int hues, [], rfl, rfl, ?_⟩
    refine ⟨.ref tp, rfl, tp, 9, rfl, D1.2, by decide, by decide, fun H2 nn D2 n0 n1 => ⟨nn, rfl, by omega, by omega, fun lw nlw => ?_⟩⟩
    have E2 := D1.trans D2
    have nw := E2.2.new nlw
    have nw0 : H lw = none := E2.free nlw
    refine lc_range (lo := 0) (n := nn.toNat) (fun i H3 => Taped tp H H3 ∧ ∃ (was : List Addr) (wds : List WD), H3 lw = some (.lst (was.map V.ref)) ∧ was.length = i ∧ Paired (IsWish H3) was wds ∧ (∀ wd ∈ wds, Good many hues wd) ∧ ∀ wd ∈ wds, Neat wd) ⟨E2.put nw0 nw, [], [], upd_same, rfl, .nil, (fun _ h => nomatch h), (fun _ h => nomatch h)⟩ (fun i H3 hi p => ?_) (fun H3 p => ?_)
    · obtain ⟨E3, was, wds, hw, lw3, pw, gd, ne⟩ := p
      refine ⟨rfl, yes_if ?_⟩
      refine ⟨.ref tp, rfl, .int many, rfl, .int hues, rfl, tp, many, hues, 2, rfl, E3.2, k1, k6, hh2, hh4, by decide, by decide, fun H4 wa wd D4 isw gw nw2 => ?_⟩
      have hw4 := D4.1 lw _ nw hw
      have tu : Tups H4 (upd H4 lw (.lst (was.map V.ref ++ [.ref wa]))) := tups_upd fun xs z => by rw [hw4] at z; cases z
      refine ⟨_, hw4, ?_, (E3.trans D4).put nw0 nw, was ++ [wa], wds ++ [wd], ?_, ?_, pairedSnoc (pairedMap (fun _ _ e => IsWish.mono ((D4.tups E3.2).trans tu) e) pw) (isw.mono tu), ?_, ?_⟩
      · rw [List.length_map, lw3]
        exact small1000 (by omega)
      · rw [upd_same, List.map_append]
        rfl
      · rw [List.length_append, lw3]
        rfl
      · intro wd' h'
        rcases List.mem_append.mp h' with h' | h'
        · exact gd wd' h'
        · rw [List.mem_singleton.mp h']
          exact gw
      · intro wd' h'
        rcases List.mem_append.mp h' with h' | h'
        · exact ne wd' h'
        · rw [List.mem_singleton.mp h']
          exact nw2
    · obtain ⟨E3, was, wds, hw, lw3, pw, gd, ne⟩ := p
      refine ⟨.int many, rfl, .int hues, rfl, .ref lw, rfl, lw, _, rfl, .inl ⟨.inl (.inl hw), fun wt nwt => ?_⟩⟩
      have st := same_upd (o := .tup (was.map V.ref)) nwt
      refine ⟨(by show 3 ≤ sizeLine; decide), fun ri nri => ?_⟩
      have sr := same_upd (o := .tup [.int many, .int hues, .ref wt]) nri
      refine q _ ri many hues wds ((E3.same st).same sr) ⟨wt, was, upd_same, sr _ _ upd_same, pairedMap (fun _ _ e => IsWish.mono (tups_same (st.trans sr)) e) pw⟩ ⟨k1, k6, hh2, hh4, ?_, gd⟩ ne ok
      rw [← pairedLen pw]
      omega
end
end Rd

set_option Elab.async false
set_option linter.all false
set_option maxRecDepth 100000
set_option maxHeartbeats 4000000
namespace Rd
open PySem PySem.Spec PyProof.Rows L2 Dt
abbrev sHue : Stmt := topS 5
abbrev nHue : List Str := ["filling", "places", "place"]
theorem scHue : FnScope nHue ["filling", "places"] (defScope sHue) := ⟨rfl, rfl, rfl, by decide +kernel, rfl, by decide +kernel, by decide +kernel⟩
abbrev sIsB : Stmt := topS 6
abbrev nIsB : List Str := ["wish", "filling", "places", "rows"]
theorem scIsB : FnScope nIsB ["wish", "filling"] (defScope sIsB) := ⟨rfl, rfl, rfl, by decide +kernel, rfl, by decide +kernel, by decide +kernel⟩
def spHues (Ps : List Addr) : Sp := fun vs H Q _ => ∃ (fa pa : Addr) (fs ps : List Int) (many hues : Int), vs = [.ref fa, .ref pa] ∧ H fa = some (.tup (fs.map V.int)) ∧ H pa = some (.tup (ps.map V.int)) ∧ GoodF many hues fs ∧ (∀ p ∈ ps, 0 ≤ p ∧ p < many) ∧ ps.length ≤ 1000 ∧ Tabs Ps H ∧
  ∀ H' t, FrS Ps H H' → H t = none → H' t = some (.tup ((huesA fs ps).map V.int)) → Q (.ref t) H'
def spIsB (Ps : List Addr) : Sp := fun vs H Q _ => ∃ (wa fa : Addr) (fs : List Int) (wd : WD) (many hues : Int), vs = [.ref wa, .ref fa] ∧ IsWish H wa wd ∧ H fa = some (.tup (fs.map V.int)) ∧ GoodF many hues fs ∧ Good many hues wd ∧ many ≤ 6 ∧ hues ≤ 4 ∧ Tabs Ps H ∧
  ∀ H', FrS Ps H H' → Q (.bl (brk fs wd)) H'
def spSta (Ps : List Addr) : Sp := fun vs H Q _ => ∃ (ta ka : Addr) (tb : List (List Int)) (tk : List Int), vs = [.ref ta, .ref ka] ∧ IsTab (fun _ => False) H ta tb ∧ H ka = some (.lst (tk.map V.int)) ∧ GoodK tb tk ∧ tb.length ≤ 1000 ∧ Tabs Ps H ∧
  ∀ H' t, FrS Ps H H' → H t = none → H' t = some (.tup ((stand tb tk).map V.int)) → Q (.ref t) H'
def vOpt : Option Int → V
  | some k => .int k
  | none => .non
def spFib (Ps : List Addr) : Sp := fun vs H Q _ => ∃ (wt oa fa : Addr) (was : List Addr) (wds : List WD) (ord fs : List Int) (many hues : Int), vs = [.ref wt, .ref oa, .ref fa] ∧ H wt = some (.tup (was.map V.ref)) ∧ Paired (IsWish H) was wds ∧ GoodR many hues wds ∧ H oa = some (.tup (ord.map V.int)) ∧ (∀ z ∈ ord, 0 ≤ z ∧ z < (wds.length : Int)) ∧ H fa = some (.tup (fs.map V.int)) ∧ GoodF many hues fs ∧ Tabs Ps H ∧
  ∀ H', FrS Ps H H' → Q (vOpt (firstB fs wds ord)) H'
def spHnx (Ps : List Addr) : Sp := fun vs H Q _ => ∃ (ta ka pa : Addr) (tb : List (List Int)) (tk ps : List Int), vs = [.ref ta, .ref ka, .ref pa] ∧ IsTab (fun _ => False) H ta tb ∧ H ka = some (.lst (tk.map V.int)) ∧ tk.length = tb.length ∧ H pa = some (.tup (ps.map V.int)) ∧ (∀ p ∈ ps, 0 ≤ p ∧ p < (tb.length : Int)) ∧ Tabs Ps H ∧
  ∀ H', FrS Ps H H' → Q (.bl (canN tb tk ps)) H'
structure TxtN (mg : Str → Option Value) : Prop where
  m_tuple : mg "tuple" = none
  m_zip : mg "zip" = none
  m_all : mg "all" = none
  m_len : mg "len" = none
structure TxtB (P : Program) (w : World) (K : PySem.W.Frag) (mg : Str → Option Value) (base : Heap) (Ps : List Addr) : Prop where
  c_hues_at : Cal P w K mg base 3 "hues_at" ["filling", "places"] (spHues Ps)
structure TxtC (P : Program) (w : World) (K : PySem.W.Frag) (mg : Str → Option Value) (base : Heap) (Ps : List Addr) : Prop extends TxtB P w K mg base Ps where
  c_is_broken : Cal P w K mg base 4 "is_broken" ["wish", "filling"] (spIsB Ps)
theorem atT {tk : List Int} {p : Int} (h0 : 0 ≤ p) (h1 : p < (tk.length : Int)) : tk[p.toNat]? = some (atF tk p) := by
  have h : p.toNat < tk.length := by omega
  rw [atF, getD_get h]
  exact List.getElem?_eq_getElem h
section
variable {P : Program} {w : World} {K : PySem.W.Frag} {mg : Str → Option Value} {base : Heap}
theorem ok_hues {f c Pt : Addr} {Ps : List Addr} {fd : FuncData} {k : Nat} (F : FunC K "hues_at" "hues_at" sHue f fd (.ref c)) (TB : GxR.TabB base mg c Pt) (hP : Pt ∈ Ps) (T : TxtN mg) : FnOk P w K mg base CX0 (k + 3) f fd ["filling", "places"] (spHues Ps) := by
  refine F.ok scHue (fun vs H Q E h => ?_) (fun A outer s H vs Q E hr h => ?_)
  · obtain ⟨fa, pa, fs, ps, many, hues, rfl, _⟩ := h
    rfl
  · obtain ⟨fa, pa, fs, ps, many, hues, rfl, hf, hp, gf, hpl, hl, hT, q⟩ := h
    refine ⟨_, (pss_one (ps_ret (Gx.pe_tupX (own := [("place", 2)]) (te := tOp (rIxT K) (tVar 0) (tVar 2)) hr (by rfl) T.m_tuple rfl scHue.nd TB rfl (blkOk_by (own := [("place", 2)]) (N := nHue) (sc := defScope sHue) (by decide +kernel)) ⟨rfl, by decide +kernel, rfl⟩ (pi_tup (pv 1))
   (fun _ _ _ _ _ _ hA => (pg_name (i := 2) scHue.nd rfl (Or.inl rfl))) (fun _ _ _ _ _ _ hA => pts_nil) (fun _ _ _ _ _ _ hA => (pe_ix ix_tup (pv 0) (pv 2) (fun _ _ => rfl)))))), ?_⟩
    refine ⟨.ref pa, rfl, pa, rfl, ⟨_, .inl (.inl hp)⟩, hT _ hP, fun H2 tb => ?_⟩
    have f2 := FrS.one hT hP tb
    refine Gx.tup_tup (K := K) (a := pa) (xs := ps.map V.int) (by rw [List.length_map]; exact Nat.le_of_lt (small1000 hl)) (fun i ys H3 => FrS Ps H H3 ∧ ys = (huesA fs (ps.take i)).map V.int) ⟨f2, rfl⟩ (fun i ys H3 _ f3 => .inl (.inl (f3.1.tups hT _ _ hp))) (fun i ys H3 f3 => ?_) (fun i x ys H3 hx f3 => ?_) (fun ys H3 f3 => ?_)
    · rw [f3.2, List.length_map, huesA, List.length_map, List.length_take]
      omega
    · obtain ⟨p, ep, rfl⟩ := map_get hx
      obtain ⟨f3, rfl⟩ := f3
      have hpp := hpl p (List.mem_of_getElem? ep)
      refine ⟨rfl, yes_if ?_⟩
      refine ⟨.ref fa, rfl, .int p, rfl, fa, _, p, _, rfl, rfl, .inl (.inl (f3.tups hT _ _ hf)), atI_fs gf hpp.1 hpp.2, f3, ?_⟩
      rw [take_snoc ep]
      simp [huesA]
    · obtain ⟨f3, rfl⟩ := f3
      rw [List.length_map, List.take_length]
      exact fun t nt => q _ t (f3.same (same_upd nt)) (f3.free nt) upd_same
theorem ok_isB {f : Addr} {Ps : List Addr} {fd : FuncData} {k : Nat} (F : Fun K "is_broken" "is_broken" sIsB f fd) (T : TxtB P w K mg base Ps) : FnOk P w K mg base CX0 (k + 4) f fd ["wish", "filling"] (spIsB Ps) := by
  refine F.ok scIsB (fun vs H Q E h => ?_) (fun cdv A outer s H vs Q E hr h => ?_)
  · obtain ⟨wa, fa, fs, wd, many, hues, rfl, _⟩ := h
    rfl
  · obtain ⟨wa, fa, fs, wd, many, hues, rfl, hw, hf, gf, gw, hm, hh, hT, q⟩ := h
    refine ⟨_, (pss_cons (ps_asg (pv 0) (pg_tup rfl (pgs_cons (pg_name (i := 2) scIsB.nd rfl (Or.inl rfl)) (pgs_cons (pg_name (i := 3) scIsB.nd rfl (Or.inl rfl)) pgs_nil))))
  (pss_one (ps_ret (pe_cmpR (Dt.op_inT (units65 hr)) (pe_cal T.c_hues_at (hr.mono (by omega)) (by rfl) (pa_cons (pv 1) (pa_cons (pv 2) pa_nil))) (pv 3) (by rfl))))), ?_⟩
    obtain ⟨pa, ra, rs, h1, h2, h3, h4⟩ := id hw
    refine ⟨.ref wa, rfl, wa, _, rfl, .inl (.inl h1), rfl, .ref pa, [.ref ra], rfl, .ref ra, [], rfl, rfl, ?_⟩
    have g3 := gw.three
    refine ⟨.ref fa, rfl, .ref pa, rfl, fa, pa, fs, wd.1, many, hues, rfl, hf, h2, gf, gw.pl, by omega, hT, fun H' t fr nt ht => ?_⟩
    have tp := fr.tups hT
    refine ⟨.ref ra, rfl, rowD (huesA fs wd.1), wd.2.map rowD, .tup (.inl (.inl ht)) (dpInts _), .tup (.inl (.inl (tp _ _ h3))) (dpRows (pairedMap (fun _ _ e => tp _ _ e) h4)), ?_, ?_, ?_⟩
    · refine (fine_row (fun z hz => ?_) ?_).shaped (by decide)
      · obtain ⟨p, hp, rfl⟩ := List.mem_map.mp hz
        have hpp := gw.pl p hp
        have e := List.mem_of_getElem? (at_some gf hpp.1 hpp.2)
        have := gf.hue _ e
        omega
      · simp [huesA]
        omega
    · refine (Fine.tuple (fineAll_map wd.2 (n := 2) (w := 64) fun r hr => fine_row (fun z hz => ?_) ?_)).shaped (by decide)
      · have := (gw.row r hr).2 z hz
        omega
      · have := (gw.row r hr).1
        omega
    · rw [anyRows]
      exact q H' fr
end
end Rd

set_option Elab.async false
set_option linter.all false
set_option maxRecDepth 100000
set_option maxHeartbeats 4000000
namespace Rd
open PySem PySem.Spec PyProof.Rows L2 Dt
abbrev sAlf : Stmt := topS 8
abbrev nAlf : List Str := ["many", "hues", "begun", "place", "filling", "hue"]
theorem scAlf : FnScope nAlf ["many", "hues"] (defScope sAlf) := ⟨rfl, rfl, rfl, by decide +kernel, rfl, by decide +kernel, by decide +kernel⟩
abbrev sCla : Stmt := topS 10
abbrev nCla : List Str := ["one", "other", "place"]
theorem scCla : FnScope nCla ["one", "other"] (defScope sCla) := ⟨rfl, rfl, rfl, by decide +kernel, rfl, by decide +kernel, by decide +kernel⟩
abbrev sCls : Stmt := topS 11
abbrev nCls : List Str := ["riddle", "wishes", "wish", "number", "other"]
theorem scCls : FnScope nCls ["riddle"] (defScope sCls) := ⟨rfl, rfl, rfl, by decide +kernel, rfl, by decide +kernel, by decide +kernel⟩
def spAlf : Sp := fun vs H Q _ => ∃ (many hues : Int), vs = [.int many, .int hues] ∧ 0 ≤ many ∧ many ≤ 6 ∧ 0 ≤ hues ∧ hues ≤ 4 ∧
  ∀ H' l, Same H H' → H l = none → IsFills H' l (fillL hues.toNat many.toNat) → Q (.ref l) H'
def spCla (Ps : List Addr) : Sp := fun vs H Q _ => ∃ (wa wb : Addr) (a b : WD), vs = [.ref wa, .ref wb] ∧ IsWish H wa a ∧ IsWish H wb b ∧ Tabs Ps H ∧ ∀ H', FrS Ps H H' → Q (.bl (clB a b)) H'
/-- a list of new lists, each by itself -/
def IsLL (H H' : Hp) (l : Addr) (rows : List (List Int)) : Prop := ∃ ls : List Addr, H' l = some (.lst (ls.map V.ref)) ∧ Paired (fun la row => H' la = some (.lst (row.map V.int))) ls rows ∧ ls.Nodup ∧ l ∉ ls ∧ ∀ la ∈ ls, H la = none
def spCls (Ps : List Addr) : Sp := fun vs H Q _ => ∃ (ri : Addr) (wds : List WD) (many hues : Int), vs = [.ref ri] ∧ IsRid H ri many hues wds ∧ GoodR many hues wds ∧ Tabs Ps H ∧
  ∀ H' l, FrS Ps H H' → H l = none → IsLL H H' l (clsAll wds) → Q (.ref l) H'
structure TxtF (mg : Str → Option Value) : Prop where
  m_range : mg "range" = none
structure TxtY (mg : Str → Option Value) : Prop where
  m_any : mg "any" = none
structure TxtCs (P : Program) (w : World) (K : PySem.W.Frag) (mg : Str → Option Value) (base : Heap) (Ps : List Addr) : Prop where
  m_enumerate : mg "enumerate" = none
  c_clash : Cal P w K mg base 1 "clash" ["one", "other"] (spCla Ps)
section
variable {P : Program} {w : World} {K : PySem.W.Frag} {mg : Str → Option Value} {base : Heap}
set_option maxHeartbeats 16000000 in
theorem ok_alf {f : Addr} {fd : FuncData} {k : Nat} (F : Fun K "all_fillings" "all_fillings" sAlf f fd) (T : TxtF mg) : FnOk P w K mg base CX0 (k + 1) f fd ["many", "hues"] spAlf := by
  refine F.ok scAlf (fun vs H Q E h => ?_) (fun cdv A outer s H vs Q E hr h => ?_)
  · obtain ⟨many, hues, rfl, _⟩ := h
    rfl
  · obtain ⟨many, hues, rfl, m0, m6, h0, h4, q⟩ := h
    refine ⟨_, (pss_cons (ps_set (i := 2) scAlf.nd rfl (Or.inl rfl) (pe_lst (pa_cons (pe_tup pa_nil) pa_nil)))
  (pss_cons (ps_for PassesOwn.never rfl (pi_range1 (by rfl) T.m_range (pa_cons (pv 0) pa_nil)) (pg_name (i := 3) scAlf.nd rfl (Or.inl rfl))
  (pss_one (ps_setLc2 (i := 2) (te := tOp (rCatA K) (tVar 4) (tTup (tCons (tVar 5) tNil))) (own := [("filling", 4), ("hue", 5)]) (vs1 := [5]) rfl scAlf.nd rfl rfl (sw_true rfl rfl rfl (by decide +kernel)) (pi_list (pv 2)) (blkOk_by (own := [("filling", 4), ("hue", 5)]) (N := nAlf) (sc := defScope sAlf) (by decide +kernel)) (by decide)
   (fun _ _ _ _ _ => (pg_name (i := 4) scAlf.nd rfl (Or.inl rfl))) (fun _ _ _ _ _ => pts_nil) (fun _ _ _ _ _ => (pi_range1 (by rfl) T.m_range (pa_cons (pv 1) pa_nil))) (fun _ _ _ _ _ => (pg_name (i := 5) scAlf.nd rfl (Or.inl rfl))) (fun _ _ _ _ _ => pts_nil) (fun _ _ _ _ _ => (pe_op op_catA (pv 4) (pe_tup (pa_cons (pv 5) pa_nil)))))))
  (pss_one (ps_ret (pv 2))))), ?_⟩
    refine ⟨(by show 0 ≤ sizeLine; decide), fun t nt => ⟨(by show 1 ≤ sizeLine; decide), fun l nl => ?_⟩⟩
    have st := same_upd (o := .tup []) nt
    have sl := same_upd (o := .lst [.ref t]) nl
    refine ⟨.int many, rfl, many, rfl, by omega, by omega, for_range (lo := 0) (n := many.toNat) (fun i σ H3 => Same H H3 ∧ ∃ l, H l = none ∧ IsFills H3 l (fillL hues.toNat i) ∧ ∃ y3, σ = [some (.int many), some (.int hues), some (.ref l), y3, none, none]) ⟨st.trans sl, l, st.free nl, ⟨[t], upd_same, .cons (sl _ _ upd_same) .nil⟩, none, rfl⟩ (fun i σ H3 hi p => ?_) (fun σ H3 p => ?_)⟩
    · obtain ⟨sm, l, nl, ⟨as, hl, pr⟩, y3, rfl⟩ := p
      have flen := fill_len hues.toNat i
      have p4 : hues.toNat ^ i ≤ 4096 := pow_le_4096 (by omega) (by omega)
      have alen := pairedLen pr
      refine ⟨.ref l, rfl, l, rfl, ⟨_, .inl (.inl hl)⟩, fun D nD => Cp.lc2_list (K := K) (a := l) (xs := as.map V.ref) (fun i2 H5 => Same H3 H5 ∧ IsFills H5 D (((fillL hues.toNat i).take i2).flatMap (longer hues.toNat))) ⟨same_upd nD, [], upd_same, .nil⟩ (fun i2 H5 _ pp => .inl (.inl (pp.1 _ _ hl))) (fun i2 x H5 hx pp => ?_) (fun H5 pp => ?_)⟩
      · rw [List.getElem?_map] at hx
        cases ea : as[i2]? with
        | none => rw [ea] at hx; cases hx
        | some a =>
          rw [ea] at hx
          cases hx
          obtain ⟨fl, hfl, isr⟩ := pairedGetL pr ea
          have hi2 := (List.getElem?_eq_some_iff.mp ea).1
          obtain ⟨s5, fs5⟩ := pp
          refine ⟨rfl, yes_if ?_⟩
          refine ⟨.int hues, rfl, hues, rfl, by omega, by omega, ?_⟩
          dsimp only
          refine Cp.lcin_range (lo := 0) (n := hues.toNat) (fun j H6 => Same H3 H6 ∧ IsFills H6 D (((fillL hues.toNat i).take i2).flatMap (longer hues.toNat) ++ (longer hues.toNat fl).take j)) ⟨s5, by rw [List.take_zero, List.append_nil]; exact fs5⟩ (fun j H6 hj pp => ?_) (fun H6 pp => ?_)
          · obtain ⟨s6, bs, hb, pb⟩ := pp
            have blen := pairedLen pb
            have bound : bs.length ≤ 20000 := by
              rw [blen, List.length_append, flat_len, List.length_take, List.length_take, longer_len, flen]
              have : min i2 (hues.toNat ^ i) * hues.toNat ≤ 4096 * 4 := Nat.mul_le_mul (by omega) (by omega)
              omega
            have fin : ∀ (H7 : Hp) (r : Addr), Same H6 H7 → H7 r = some (.tup ((fl ++ [(j : Int)]).map V.int)) → ∃ acc, H7 D = some (.lst acc) ∧ acc.length < sizeLine ∧ (Same H3 (upd H7 D (.lst (acc ++ [.ref r]))) ∧ IsFills (upd H7 D (.lst (acc ++ [.ref r]))) D (((fillL hues.toNat i).take i2).flatMap (longer hues.toNat) ++ (longer hues.toNat fl).take (j + 1))) := fun H7 r s7 hr7 => by
              have hD7 := s7 _ _ hb
              have tu : Tups H7 (upd H7 D (.lst (bs.map V.ref ++ [.ref r]))) := tups_upd fun xs z => by rw [hD7] at z; cases z
              refine ⟨_, hD7, ?_, fun b o e => ?_, bs ++ [r], ?_, ?_⟩
              · rw [List.length_map]
                exact Nat.lt_of_le_of_lt bound (by decide)
              · rw [upd_ne (ne_of_none e nD)]
                exact s7 _ _ (s6 b o e)
              · rw [upd_same, List.map_append]
                rfl
              · rw [take_snoc (longer_at fl hj), ← List.append_assoc]
                exact pairedSnoc (pairedMap (fun _ _ e => tu _ _ (s7 _ _ e)) pb) (tu _ _ hr7)
            refine ⟨rfl, yes_if ?_⟩
            refine ⟨.ref a, rfl, .int (0 + (j : Int)), rfl, (by show 1 ≤ sizeLine; decide), fun t nt => ?_⟩
            have sT := same_upd (o := .tup [.int (0 + (j : Int))]) nt
            have ha : upd H6 t (.tup [.int (0 + (j : Int))]) a = some (.tup (fl.map V.int)) := sT _ _ (s6 _ _ isr)
            have e0 : (0 : Int) + (j : Int) = j := Int.zero_add _
            have flen2 := (fill_good (List.mem_of_getElem? hfl)).1
            refine ⟨a, t, _, _, rfl, rfl, .inl (.inl ha), .inl (.inl upd_same), ?_, fun z => ?_, (fun _ z => nomatch z), fun z _ p np => ?_⟩
            · rw [List.length_map, flen2]
              exact Nat.le_of_lt (small1000 (by show i + 1 ≤ 1000; omega))
            · have z2 : fl = [] := List.map_eq_nil_iff.mp z
              refine fin _ t sT ?_
              rw [upd_same, z2, e0]
              rfl
            · have sp := same_upd (o := .tup (fl.map V.int ++ [.int (0 + (j : Int))])) np
              refine fin _ p (sT.trans sp) ?_
              rw [upd_same, e0, List.map_append]
              rfl
          · obtain ⟨s6, fs6⟩ := pp
            refine ⟨s6, ?_⟩
            rw [take_snoc hfl, List.flatMap_append]
            have e : (longer hues.toNat fl).take hues.toNat = [fl].flatMap (longer hues.toNat) := by
              rw [List.take_of_length_le (by rw [longer_len]; exact Nat.le_refl _)]
              simp
            rw [← e]
            exact fs6
      · obtain ⟨s5, fs5⟩ := pp
        refine ⟨sm.trans s5, D, sm.free nD, ?_, _, rfl⟩
        rw [List.length_map, alen, List.take_length] at fs5
        exact fs5
    · obtain ⟨sm, l, nl, fs, y3, rfl⟩ := p
      exact ⟨.ref l, rfl, q H3 l sm nl fs⟩
theorem ok_cla {f c Pc : Addr} {Ps : List Addr} {fd : FuncData} {k : Nat} (F : FunC K "clash" "clash" sCla f fd (.ref c)) (TB : GxR.TabB base mg c Pc) (hP : Pc ∈ Ps) (T : TxtY mg) : FnOk P w K mg base CX0 (k + 1) f fd ["one", "other"] (spCla Ps) := by
  refine F.ok scCla (fun vs H Q E h => ?_) (fun A outer s H vs Q E hr h => ?_)
  · obtain ⟨wa, wb, a, b, rfl, _⟩ := h
    rfl
  · obtain ⟨wa, wb, a, b, rfl, ha, hb, hT, q⟩ := h
    refine ⟨_, pss_one (ps_ret (Gv.pe_anyG (x := "place") hr (by rfl) T.m_any TB rfl ⟨rfl, rfl, by decide +kernel, rfl, rfl, fun y hy e => ?_⟩ (pe_ix ix_tup (pv 0) pe_int (fun _ _ => rfl)) (fun _ => rfl))), ?_⟩
    · match y, hy, e with
      | _, .head _, e => exact nomatch e
      | _, .tail _ (.head _), e => exact nomatch e
      | _, .tail _ (.tail _ (.head _)), _ => exact ⟨_, rfl⟩
    obtain ⟨pa, ra, rs, a1, a2, a3, a4⟩ := ha
    obtain ⟨pb, rb, rs2, b1, b2, b3, b4⟩ := hb
    refine ⟨.ref wa, rfl, wa, _, 0, _, rfl, rfl, .inl (.inl a1), rfl, pa, a.1.map V.int, (a.1.map fun p => decide (p ∈ b.1)).map V.bl, rfl, .inr (.inl (.inl a2)), by simp, fun pins => Gv.elt_in0 (j := 1) (ns := b.1) rfl rfl rfl rfl rfl rfl rfl (.inl (.inl b1)) (.inl (.inl b2)) (hT _ hP) hr.units fun i x0 hx => ?_, hT _ hP, _, rfl, fun H2 hb => ?_⟩
    · rw [List.getElem?_map] at hx
      cases e : a.1[i]? with
      | none => rw [e] at hx; cases hx
      | some n =>
        rw [e] at hx
        cases hx
        refine ⟨n, rfl, ?_⟩
        rw [List.getElem?_map, List.getElem?_map, e]
        rfl
    · have fr : FrS Ps H H2 := FrS.one hT hP hb
      have e : (List.map (fun p => decide (p ∈ b.1)) a.1).any id = clB a b := by
        rw [List.any_map]
        rfl
      rw [e]
      exact q H2 fr
theorem ok_cls {f : Addr} {Ps : List Addr} {fd : FuncData} {k : Nat} (F : Fun K "clashing" "clashing" sCls f fd) (T : TxtCs P w K mg base Ps) : FnOk P w K mg base CX0 (k + 2) f fd ["riddle"] (spCls Ps) := by
  refine F.ok scCls (fun vs H Q E h => ?_) (fun cdv A outer s H vs Q E hr h => ?_)
  · obtain ⟨ri, wds, many, hues, rfl, _⟩ := h
    rfl
  · obtain ⟨ri, wds, many, hues, rfl, hrd, gr, hT, q⟩ := h
    refine ⟨_, (pss_cons (ps_set (i := 1) scCls.nd rfl (Or.inr rfl) (pe_ix ix_tup (pv 0) pe_int (fun _ _ => rfl)))
  (pss_one (ps_ret (pe_lc (te := tLc (Et.iEnumT K (tCons (tVar 1) tNil)) (gTup K 2 (gCons (gName 3) (gCons (gName 4) gNil))) (tB (tCall (spCla Ps) [] E0 (tCons (tVar 2) (tCons (tVar 4) tNil)))) (tVar 3) [3, 4]) (own := [("wish", 2)]) rfl scCls.nd  (pi_tup (pv 1)) (blkOk_by (own := [("wish", 2)]) (N := nCls) (sc := defScope sCls) (by decide +kernel))
   (fun _ _ _ _ _ => (pg_name (i := 2) scCls.nd rfl (Or.inr rfl))) (fun _ _ _ _ _ => pts_nil) (fun _ _ _ _ _ => (pe_lc (own := [("number", 3), ("other", 4)]) rfl scCls.nd  (Et.pi_enumT (by rfl) T.m_enumerate (pa_cons (pv 1) pa_nil)) (blkOk_by (own := [("number", 3), ("other", 4)]) (N := nCls) (sc := { kind := .function, names := [(".0", .local), ("wish", .cell), ("enumerate", .globalImplicit), ("wishes", .cell)], isGenerator := false, isCoroutine := false }) (by decide +kernel))
   (fun _ _ _ _ _ => (pg_tup rfl (pgs_cons (pg_name (i := 3) scCls.nd rfl (Or.inl rfl)) (pgs_cons (pg_name (i := 4) scCls.nd rfl (Or.inl rfl)) pgs_nil)))) (fun _ _ _ _ _ => pts_one (pt_val (pe_cal T.c_clash (hr.mono (by omega)) (by rfl) (pa_cons (pv 2) (pa_cons (pv 4) pa_nil))))) (fun _ _ _ _ _ => (pv 3)))))))), ?_⟩
    obtain ⟨wt, was, h1, h2, h3⟩ := id hrd
    have hl : was.length = wds.length := pairedLen h3
    have e8 := gr.eight
    refine ⟨.ref ri, rfl, ri, _, 2, _, rfl, rfl, .inl (.inl h1), rfl, ?_⟩
    refine ⟨.ref wt, rfl, wt, rfl, ⟨_, .inl (.inl h2)⟩, fun D nD => ?_⟩
    refine lc_tup (K := K) (a := wt) (xs := was.map V.ref) (fun i H3 => FrS Ps H H3 ∧ IsLL H H3 D ((wds.take i).map fun wd => clsL wds wd wds.length)) ⟨FrS.of hT (same_upd nD), [], upd_same, .nil, List.nodup_nil, List.not_mem_nil, fun _ z => nomatch z⟩ (fun i H3 _ p => .inl (.inl (p.1.tups hT _ _ h2))) (fun i x H3 hx p => ?_) (fun H3 p => ?_)
    · obtain ⟨fr, ls, hD, pl, nd, nDl, fl⟩ := p
      rw [List.getElem?_map] at hx
      cases ew : was[i]? with
      | none => rw [ew] at hx; cases hx
      | some wa =>
        rw [ew] at hx
        cases hx
        obtain ⟨wd, hwd, isw⟩ := pairedGetL h3 ew
        have hi : i < was.length := (List.getElem?_eq_some_iff.mp ew).1
        refine ⟨rfl, yes_if ?_⟩
        refine ⟨.ref wt, rfl, wt, was.map V.ref, rfl, .inl (.inl (fr.tups hT _ _ h2)), fun D2 nD2 => ?_⟩
        refine Et.lc_enumT (K := K) (a := wt) (xs := was.map V.ref) (fun j H5 => FrS Ps H3 H5 ∧ H5 D2 = some (.lst ((clsL wds wd j).map V.int))) ⟨FrS.of fr.2 (same_upd nD2), upd_same⟩ (fun j H5 _ pp => .inl (.inl ((fr.trans pp.1).tups hT _ _ h2))) (fun j x H5 T2 hx pp nT => ?_) (fun H5 pp => ?_)
        · obtain ⟨fr5, hD5⟩ := pp
          rw [List.getElem?_map] at hx
          cases eb : was[j]? with
          | none => rw [eb] at hx; cases hx
          | some wb =>
            rw [eb] at hx
            cases hx
            obtain ⟨wd2, hwd2, isw2⟩ := pairedGetL h3 eb
            have hj : j < was.length := (List.getElem?_eq_some_iff.mp eb).1
            have sT := same_upd (o := .tup [.int (j : Nat), .ref wb]) nT
            have fr6 := (fr.trans fr5).same sT
            have t6 := fr6.tups hT
            refine ⟨T2, [.int j, .ref wb], rfl, .inl (.inl upd_same), rfl, .int j, [.ref wb], rfl, .ref wb, [], rfl, rfl, rfl, ?_⟩
            refine ⟨.ref wa, rfl, .ref wb, rfl, wa, wb, wd, wd2, rfl, isw.mono t6, isw2.mono t6, fr6.2, fun H7 fr7 => ⟨_, rfl, ?_⟩⟩
            have fr57 := (fr5.same sT).trans fr7
            have hD7 : H7 D2 = some (.lst ((clsL wds wd j).map V.int)) := (fr7.seqs fr6.2).2 _ _ (sT _ _ hD5)
            have ec := clAt_of (a := wd) hwd2
            refine ite2 (fun e => ?_) (fun e => ?_)
            · refine ⟨.int j, rfl, _, hD7, ?_, fr57.put nD2 (fr.2.new nD2), ?_⟩
              · rw [List.length_map]
                have := clsL_len wds wd j
                exact small1000 (by omega)
              · rw [upd_same, clsL_yes (ec.trans e), List.map_append]
                rfl
            · refine ⟨fr57, ?_⟩
              rw [clsL_no (ec.trans (by simpa using e))]
              exact hD7
        · obtain ⟨fr5, hD5⟩ := pp
          rw [List.length_map, hl] at hD5
          have hD5' := (fr5.seqs fr.2).2 _ _ hD
          have nn : H D2 = none := fr.free nD2
          have nDD : D2 ≠ D := fun z => by rw [z, hD] at nD2; cases nD2
          have lsl := pairedLen pl
          have keepL : ∀ la row, H3 la = some (.lst row) → la ≠ D → upd H5 D (.lst (ls.map V.ref ++ [.ref D2])) la = some (.lst row) := fun la row e n => by
            rw [upd_ne n]
            exact (fr5.seqs fr.2).2 _ _ e
          have inl : ∀ {l : List Addr} {m : List (List Int)}, Paired (fun la row => H3 la = some (.lst (row.map V.int))) l m → D ∉ l → Paired (fun la row => upd H5 D (.lst (ls.map V.ref ++ [.ref D2])) la = some (.lst (row.map V.int))) l m := fun {l m} p => by
            induction p with
            | nil => exact fun _ => .nil
            | cons h t ih => exact fun n => .cons (keepL _ _ h (fun z => n (by rw [z]; exact List.mem_cons_self))) (ih fun z => n (List.mem_cons_of_mem _ z))
          have n2 : D2 ∉ ls := fun z => by
            obtain ⟨j, hj⟩ := List.getElem?_of_mem z
            obtain ⟨row, _, e⟩ := pairedGetL pl hj
            rw [nD2] at e
            cases e
          refine ⟨_, hD5', ?_, (fr.trans fr5).put nD (hT.new nD), ls ++ [D2], ?_, ?_, ?_, ?_, ?_⟩
          · rw [List.length_map, lsl, List.length_map, List.length_take]
            exact small1000 (by omega)
          · rw [upd_same, List.map_append]
            rfl
          · rw [take_snoc hwd, List.map_append]
            refine pairedSnoc (inl pl nDl) ?_
            rw [upd_ne nDD]
            exact hD5
          · exact List.nodup_append.mpr ⟨nd, by simp, fun a ha b hb e => n2 (by rw [← List.mem_singleton.mp hb, ← e]; exact ha)⟩
          · exact fun z => (List.mem_append.mp z).elim nDl fun z => nDD (List.mem_singleton.mp z).symm
          · exact fun la z => (List.mem_append.mp z).elim (fl la) fun z => by rw [List.mem_singleton.mp z]; exact nn
    · obtain ⟨fr, ll⟩ := p
      rw [List.length_map, hl, List.take_length] at ll
      exact q H3 D fr nD ll
end
end Rd

set_option Elab.async false
set_option linter.all false
set_option maxRecDepth 100000
set_option maxHeartbeats 4000000
namespace Rd
open PySem PySem.Spec PyProof.Rows L2 Dt
abbrev sBro : Stmt := topS 7
abbrev nBro : List Str := ["riddle", "filling", "number", "wish"]
theorem scBro : FnScope nBro ["riddle", "filling"] (defScope sBro) := ⟨rfl, rfl, rfl, by decide +kernel, rfl, by decide +kernel, by decide +kernel⟩
abbrev sCnt : Stmt := topS 9
abbrev nCnt : List Str := ["riddle", "many", "hues", "wishes", "numbers", "filling"]
theorem scCnt : FnScope nCnt ["riddle"] (defScope sCnt) := ⟨rfl, rfl, rfl, by decide +kernel, rfl, by decide +kernel, by decide +kernel⟩
def spBro (Ps : List Addr) : Sp := fun vs H Q _ => ∃ (ri fa : Addr) (fs : List Int) (wds : List WD) (many hues : Int), vs = [.ref ri, .ref fa] ∧ IsRid H ri many hues wds ∧ H fa = some (.tup (fs.map V.int)) ∧ GoodF many hues fs ∧ GoodR many hues wds ∧ Tabs Ps H ∧
  ∀ H' t, FrS Ps H H' → H t = none → H' t = some (.lst ((broL fs wds wds.length).map V.int)) → Q (.ref t) H'
def spCnt (Ps : List Addr) : Sp := fun vs H Q _ => ∃ (ri : Addr) (wds : List WD) (many hues : Int), vs = [.ref ri] ∧ IsRid H ri many hues wds ∧ GoodR many hues wds ∧ Tabs Ps H ∧
  ∀ H' l, FrS Ps H H' → H l = none → H' l = some (.lst ((cntL wds (fillL hues.toNat many.toNat)).map V.int)) → Q (.ref l) H'
theorem ix_nat {n j : Nat} (hj : j < n) : ixN n (j : Int) = some j := by
  unfold ixN
  rw [if_pos (by omega), if_pos (by omega)]
  simp
def wo (H : Hp) (l : Addr) : Hp := fun b => if b = l then none else H b
theorem wo_of {H : Hp} {l b : Addr} {o : HO} (n : b ≠ l) (e : H b = some o) : wo H l b = some o := by
  unfold wo
  rw [if_neg n]
  exact e
theorem wo_to {H : Hp} {l b : Addr} {o : HO} (e : wo H l b = some o) : H b = some o := by
  unfold wo at e
  by_cases z : b = l
  · rw [if_pos z] at e; cases e
  · rw [if_neg z] at e; exact e
theorem wo_self {H : Hp} {l : Addr} : wo H l l = none := by
  unfold wo
  rw [if_pos rfl]
theorem wo_tups {H : Hp} {l : Addr} {xs : List V} (h : H l = some (.lst xs)) : Tups H (wo H l) := fun b ys e => wo_of (fun z => by rw [z, h] at e; cases e) e
theorem rep_zero (n : Nat) : (List.replicate n [V.int 0]).flatten = (List.replicate n (0 : Int)).map V.int := by
  induction n with
  | zero => rfl
  | succ n ih => rw [List.replicate_succ, List.flatten_cons, ih, List.replicate_succ]; rfl
structure TxtC5 (P : Program) (w : World) (K : PySem.W.Frag) (mg : Str → Option Value) (base : Heap) (Ps : List Addr) : Prop where
  m_len : mg "len" = none
  c_all_fillings : Cal P w K mg base 1 "all_fillings" ["many", "hues"] spAlf
  c_broken : Cal P w K mg base 5 "broken" ["riddle", "filling"] (spBro Ps)
structure TxtB5 (P : Program) (w : World) (K : PySem.W.Frag) (mg : Str → Option Value) (base : Heap) (Ps : List Addr) : Prop where
  m_enumerate : mg "enumerate" = none
  c_is_broken : Cal P w K mg base 4 "is_broken" ["wish", "filling"] (spIsB Ps)
section
variable {P : Program} {w : World} {K : PySem.W.Frag} {mg : Str → Option Value} {base : Heap}
theorem ok_bro {f : Addr} {Ps : List Addr} {fd : FuncData} {k : Nat} (F : Fun K "broken" "broken" sBro f fd) (T0 : TxtB5 P w K mg base Ps) : FnOk P w K mg base CX0 (k + 5) f fd ["riddle", "filling"] (spBro Ps) := by
  refine F.ok scBro (fun vs H Q E h => ?_) (fun cdv A outer s H vs Q E hr h => ?_)
  · obtain ⟨ri, fa, fs, wds, many, hues, rfl, _⟩ := h
    rfl
  · obtain ⟨ri, fa, fs, wds, many, hues, rfl, hrd, hf, gf, gr, hT, q⟩ := h
    refine ⟨_, (pss_one (ps_ret (pe_lc (own := [("number", 2), ("wish", 3)]) (g := gTup K 2 (gCons (gName 2) (gCons (gName 3) gNil))) rfl scBro.nd  (Et.pi_enumT (by rfl) T0.m_enumerate (pa_cons (pe_ix ix_tup (pv 0) pe_int (fun _ _ => rfl)) pa_nil)) (blkOk_by (own := [("number", 2), ("wish", 3)]) (N := nBro) (sc := defScope sBro) (by decide +kernel))
      (fun _ _ _ _ _ => (pg_tup rfl (pgs_cons (pg_name (i := 2) scBro.nd rfl (Or.inl rfl)) (pgs_cons (pg_name (i := 3) scBro.nd rfl (Or.inl rfl)) pgs_nil)))) (fun _ _ _ _ _ => pts_one (pt_val (pe_cal T0.c_is_broken (hr.mono (by omega)) (by rfl) (pa_cons (pv 3) (pa_cons (pv 1) pa_nil))))) (fun _ _ _ _ _ => (pv 2))))), ?_⟩
    obtain ⟨wt, was, h1, h2, h3⟩ := id hrd
    have hl : was.length = wds.length := pairedLen h3
    refine ⟨.ref ri, rfl, ri, _, 2, _, rfl, rfl, .inl (.inl h1), rfl, wt, was.map V.ref, rfl, .inl (.inl h2), fun D nD => ?_⟩
    refine Et.lc_enumT (K := K) (a := wt) (xs := was.map V.ref) (fun i H3 => FrS Ps H H3 ∧ H3 D = some (.lst ((broL fs wds i).map V.int))) ⟨FrS.of hT (same_upd nD), upd_same⟩ (fun i H3 _ p => .inl (.inl (p.1.tups hT _ _ h2))) (fun i x H3 T hx p nT => ?_) (fun H3 p => ?_)
    · obtain ⟨fr, hD⟩ := p
      rw [List.getElem?_map] at hx
      cases ew : was[i]? with
      | none => rw [ew] at hx; cases hx
      | some wa =>
        rw [ew] at hx
        cases hx
        obtain ⟨wd, hwd, isw⟩ := pairedGetL h3 ew
        have gw := gr.each wd (List.mem_of_getElem? hwd)
        have hi : i < was.length := (List.getElem?_eq_some_iff.mp ew).1
        have nDP : D ∉ Ps := hT.new nD
        have sT := same_upd (o := .tup [.int (i : Nat), .ref wa]) nT
        have fr2 : FrS Ps H (upd H3 T (.tup [.int (i : Nat), .ref wa])) := fr.same sT
        refine ⟨T, [.int i, .ref wa], rfl, .inl (.inl upd_same), rfl, .int i, [.ref wa], rfl, .ref wa, [], rfl, rfl, rfl, ?_⟩
        refine ⟨.ref wa, rfl, .ref fa, rfl, wa, fa, fs, wd, many, hues, rfl, isw.mono (fr2.tups hT), fr2.tups hT _ _ hf, gf, gw, gr.m6, gr.h4, fr2.2, fun H4 fr3 => ⟨_, rfl, ?_⟩⟩
        have fr4 := fr2.trans fr3
        have hD4 : H4 D = some (.lst ((broL fs wds i).map V.int)) := fr3.1 D _ nDP (sT _ _ hD)
        have eb := brkAt_of (fs := fs) hwd
        refine ite2 (fun e => ?_) (fun e => ?_)
        · refine ⟨.int i, rfl, _, hD4, ?_, fr4.put nD nDP, ?_⟩
          · rw [List.length_map]
            have := broL_len fs wds i
            have := gr.eight
            exact small1000 (by omega)
          · rw [upd_same, broL_yes (eb.trans e), List.map_append]
            rfl
        · refine ⟨fr4, ?_⟩
          rw [broL_no (eb.trans (by simpa using e))]
          exact hD4
    · obtain ⟨fr, hD⟩ := p
      rw [List.length_map, hl] at hD
      exact q H3 D fr nD hD
theorem ok_cnt {f : Addr} {Ps : List Addr} {fd : FuncData} {k : Nat} (F : Fun K "counts" "counts" sCnt f fd) (T : TxtC5 P w K mg base Ps) : FnOk P w K mg base CX0 (k + 6) f fd ["riddle"] (spCnt Ps) := by
  refine F.ok scCnt (fun vs H Q E h => ?_) (fun cdv A outer s H vs Q E hr h => ?_)
  · obtain ⟨ri, wds, many, hues, rfl, _⟩ := h
    rfl
  · obtain ⟨ri, wds, many, hues, rfl, hrd, gr, hT, q⟩ := h
    have hr1 : Room 1 (A.deeper (envOfC (Str.ofString "counts") (defScope sCnt) s.heap.objs.size f cdv)) := hr.mono (by omega)
    have hr3 : Room 5 (A.deeper (envOfC (Str.ofString "counts") (defScope sCnt) s.heap.objs.size f cdv)) := hr.mono (by omega)
    refine ⟨_, (pss_cons (ps_asg (pv 0) (pg_tup rfl (pgs_cons (pg_name (i := 1) scCnt.nd rfl (Or.inl rfl)) (pgs_cons (pg_name (i := 2) scCnt.nd rfl (Or.inl rfl)) (pgs_cons (pg_name (i := 3) scCnt.nd rfl (Or.inl rfl)) pgs_nil)))))
  (pss_cons (ps_set (i := 4) scCnt.nd rfl (Or.inl rfl) (pe_op op_rep (pe_lst (pa_cons pe_int pa_nil)) (pe_op op_add (pe_callB call_len_seq (by rfl) T.m_len (by decide +kernel) (pa_cons (pv 3) pa_nil)) pe_int)))
  (pss_cons (ps_for PassesOwn.never rfl (pi_list (pe_cal T.c_all_fillings hr1 (by rfl) (pa_cons (pv 1) (pa_cons (pv 2) pa_nil)))) (pg_name (i := 5) scCnt.nd rfl (Or.inl rfl))
  (pss_one (ps_augS (pv 4) (pe_callB call_len_seq (by rfl) T.m_len (by decide +kernel) (pa_cons (pe_cal T.c_broken hr3 (by rfl) (pa_cons (pv 0) (pa_cons (pv 5) pa_nil))) pa_nil)) Cp.pget_list pe_int ip_add set_list)))
  (pss_one (ps_ret (pv 4)))))), ?_⟩
    obtain ⟨wt, was, h1, h2, h3⟩ := id hrd
    have hl : was.length = wds.length := pairedLen h3
    have m1 := gr.m1
    have m6 := gr.m6
    have hh2 := gr.h2
    have hh4 := gr.h4
    have e8 := gr.eight
    refine ⟨.ref ri, rfl, ri, _, rfl, .inl (.inl h1), rfl, .int many, [.int hues, .ref wt], rfl, .int hues, [.ref wt], rfl, .ref wt, [], rfl, rfl, ?_⟩
    refine ⟨(by show 1 ≤ sizeLine; decide), fun l0 nl0 => ?_⟩
    have s0 := same_upd (o := .lst [.int 0]) nl0
    refine ⟨.ref wt, rfl, wt, was.map V.ref, rfl, .inr (.inl (.inl (s0 _ _ h2))), _, _, rfl, rfl, ?_⟩
    have ew : ((was.map V.ref).length : Int) + 1 = ((wds.length + 1 : Nat) : Int) := by rw [List.length_map, hl]; omega
    refine ⟨l0, ((wds.length + 1 : Nat) : Int), _, rfl, congrArg V.int ew, upd_same, by omega, by omega, ?_, fun l nl => ?_⟩
    · rw [Int.toNat_natCast]
      exact Nat.le_of_lt (small1000 (by show 1 * (wds.length + 1) ≤ 1000; omega))
    rw [Int.toNat_natCast, rep_zero]
    have s1 := same_upd (o := .lst ((List.replicate (wds.length + 1) (0 : Int)).map V.int)) nl
    have nl2 : H l = none := s0.free nl
    refine ⟨.int many, rfl, .int hues, rfl, many, hues, rfl, by omega, by omega, by omega, by omega, fun H2 lf s2 nlf fs => ?_⟩
    have s02 := (s0.trans s1).trans s2
    obtain ⟨as, hlf, pa⟩ := fs
    have hal := pairedLen pa
    have nlf0 : H lf = none := (s0.trans s1).free nlf
    have nll : lf ≠ l := fun z => by rw [z, upd_same] at nlf; cases nlf
    refine ⟨lf, rfl, ⟨_, .inl (.inl hlf)⟩, ?_⟩
    have hl2 : H2 l = some (.lst ((cnt0 wds).map V.int)) := s2 _ _ upd_same
    have nlP : l ∉ Ps := hT.new nl2
    have tw : Tabs Ps (wo H2 l) := fun P0 hP => by
      obtain ⟨ps, e, h⟩ := hT P0 hP
      exact ⟨ps, wo_of (fun z => by rw [z, nl2] at e; cases e) (s02 _ _ e), h⟩
    refine for_list (K := K) (a := lf) (xs := as.map V.ref) (fun i σ H3 => FrS Ps (wo H2 l) H3 ∧ H3 l = some (.lst ((cntL wds ((fillL hues.toNat many.toNat).take i)).map V.int)) ∧ ∃ y5, σ = [some (.ref ri), some (.int many), some (.int hues), some (.ref wt), some (.ref l), y5]) ⟨⟨fun b o _ e => wo_to e, ?_⟩, hl2, none, rfl⟩ (fun i σ H3 _ p => .inl (.inl ((p.1.seqs tw).2 _ _ (wo_of nll hlf)))) (fun i x σ H3 hx p => ?_) (fun σ H3 p => ?_)
    · exact hT.same s02
    · obtain ⟨fr, hL, y5, rfl⟩ := p
      rw [List.getElem?_map] at hx
      cases ea : as[i]? with
      | none => rw [ea] at hx; cases hx
      | some a =>
        rw [ea] at hx
        cases hx
        obtain ⟨fl, hfl, isr⟩ := pairedGetL pa ea
        have t3 : Tups H2 H3 := (wo_tups hl2).trans (fr.tups tw)
        have gf := fill_goodF (by omega) (by omega) (List.mem_of_getElem? hfl)
        refine ⟨.ref l, rfl, .ref ri, rfl, .ref a, rfl, ri, a, fl, wds, many, hues, rfl, (hrd.mono (tups_same s02)).mono t3, t3 _ _ isr, gf, gr, fr.2, fun H4 lb fr4 nlb hlb => ?_⟩
        have hL4 := (fr4.seqs fr.2).2 _ _ hL
        generalize hcl : cntL wds ((fillL hues.toNat many.toNat).take i) = cl at hL hL4
        have bl := broL_len fl wds wds.length
        have cl2 : cl.length = wds.length + 1 := by rw [← hcl]; exact cnt_len _ _
        have bk : (broL fl wds wds.length).length < cl.length := by omega
        obtain ⟨c, hc⟩ : ∃ c, cl[(broL fl wds wds.length).length]? = some c := ⟨_, List.getElem?_eq_getElem bk⟩
        refine ⟨lb, _, rfl, .inl (.inl (.inl hlb)), l, _, (broL fl wds wds.length).length, .int c, rfl, by rw [List.length_map], .inl (.inl hL4), by rw [List.getElem?_map, hc]; rfl, c, 1, rfl, rfl, l, _, ((broL fl wds wds.length).length : Int), (broL fl wds wds.length).length, rfl, by rw [List.length_map], hL4, ?_, ?_⟩
        · rw [List.length_map]
          exact ix_nat bk
        · refine ⟨(fr.trans fr4).put wo_self nlP, ?_, _, rfl⟩
          rw [upd_same, take_snoc hfl, cnt_snoc, hcl, bump_eq hc, List.map_set]
    · obtain ⟨fr, hL, y5, rfl⟩ := p
      rw [List.length_map, hal, List.take_length] at hL
      refine ⟨.ref l, rfl, q H3 l ⟨fun b o nb e => fr.1 b o nb (wo_of (ne_of_none e nl2) (s02 _ _ e)), fr.2⟩ nl2 hL⟩
end
end Rd

set_option Elab.async false
set_option linter.all false
set_option maxRecDepth 100000
set_option maxHeartbeats 4000000
namespace Rd
open PySem PySem.Spec PyProof.Rows L2 Dt
abbrev sGcd : Stmt := topS 1
abbrev nGcd : List Str := ["one", "other"]
theorem scGcd : FnScope nGcd ["one", "other"] (defScope sGcd) := ⟨rfl, rfl, rfl, by decide +kernel, rfl, by decide +kernel, by decide +kernel⟩
abbrev sLow : Stmt := topS 2
abbrev nLow : List Str := ["above", "below", "divisor"]
theorem scLow : FnScope nLow ["above", "below"] (defScope sLow) := ⟨rfl, rfl, rfl, by decide +kernel, rfl, by decide +kernel, by decide +kernel⟩
def spGcd : Sp := fun vs H Q _ => ∃ (a b : Int), vs = [.int a, .int b] ∧ 0 ≤ a ∧ 0 ≤ b ∧ ∀ H', Same H H' → Q (.int (gcdI a b)) H'
def spLow : Sp := fun vs H Q _ => ∃ (a b : Int), vs = [.int a, .int b] ∧ 0 ≤ a ∧ 1 ≤ b ∧ b.natAbs.log2 < 9000 ∧ ∀ H' t, Same H H' → H t = none → IsPr H' t (lowI a b) → Q (.ref t) H'
structure TxtLo (P : Program) (w : World) (K : PySem.W.Frag) (mg : Str → Option Value) (base : Heap) : Prop where
  c_common_divisor : Cal P w K mg base 1 "common_divisor" ["one", "other"] spGcd
section
variable {P : Program} {w : World} {K : PySem.W.Frag} {mg : Str → Option Value} {base : Heap}
theorem ok_gcd {f : Addr} {fd : FuncData} {k : Nat} (F : Fun K "common_divisor" "common_divisor" sGcd f fd) : FnOk P w K mg base CX0 (k + 1) f fd ["one", "other"] spGcd := by
  refine F.ok scGcd (fun vs H Q E h => ?_) (fun cdv A outer s H vs Q E hr h => ?_)
  · obtain ⟨a, b, rfl, _⟩ := h
    rfl
  · obtain ⟨a, b, rfl, ha, hb, q⟩ := h
    refine ⟨_, (pss_cons (ps_while PassesOwn.never (pt_cmpR op_ne (pv 1) pe_int (nomark _))
  (pss_one (ps_par (i := 0) (j := 1) rfl scGcd.nd rfl rfl (by decide) rfl rfl (pa_cons (pv 1) (pa_cons (pe_op op_mod (pv 0) (pv 1)) pa_nil)) (by rfl))))
  (pss_one (ps_ret (pv 0)))), ?_⟩
    refine ⟨fun m σ H1 => Same H H1 ∧ ∃ x y : Int, 0 ≤ x ∧ 0 ≤ y ∧ gcdI x y = gcdI a b ∧ m = y.toNat ∧ σ = [some (.int x), some (.int y)], ⟨b.toNat, fun _ _ e => e, a, b, ha, hb, rfl, rfl, rfl⟩, ?_⟩
    rintro m σ H1 ⟨s1, x, y, hx, hy, e, rfl, rfl⟩
    refine ⟨.int y, rfl, rfl, _, rfl, ite2 (fun c => ?_) (fun c => ?_)⟩
    · have hy0 : y ≠ 0 := fun z => by subst z; exact absurd c (by decide)
      have p0 := Int.emod_nonneg x hy0
      have p1 := Int.emod_lt_of_pos x (show 0 < y by omega)
      refine ⟨fun σ' H' => Same H H' ∧ σ' = [some (.int y), some (.int (x % y))], ?_, ?_⟩
      · rintro σ' H' ⟨s', rfl⟩
        exact ⟨(x % y).toNat, by omega, s', y, x % y, hy, p0, (gcdI_step hx (by omega)).trans e, rfl, rfl⟩
      · refine ⟨.int y, rfl, .int x, rfl, .int y, rfl, x, y, rfl, rfl, (by show 0 < y; omega), .int y, .int (x % y), rfl, s1, rfl⟩
    · have hy0 : y = 0 := by
        by_cases z : y = 0
        · exact z
        · exact absurd (show (!decide (V.int y = V.int 0)) = true by simp [z]) c
      subst hy0
      rw [gcdI_zero hx] at e
      refine ⟨.int x, rfl, ?_⟩
      rw [e]
      exact q H1 s1
theorem ok_low {f : Addr} {fd : FuncData} {k : Nat} (F : Fun K "lowest" "lowest" sLow f fd) (T : TxtLo P w K mg base) : FnOk P w K mg base CX0 (k + 2) f fd ["above", "below"] spLow := by
  refine F.ok scLow (fun vs H Q E h => ?_) (fun cdv A outer s H vs Q E hr h => ?_)
  · obtain ⟨a, b, rfl, _⟩ := h
    rfl
  · obtain ⟨a, b, rfl, ha, hb, hl, q⟩ := h
    refine ⟨_, (pss_cons (ps_set (i := 2) scLow.nd rfl (Or.inl rfl) (pe_cal T.c_common_divisor (hr.mono (by omega)) (by rfl) (pa_cons (pv 0) (pa_cons (pv 1) pa_nil))))
  (pss_one (ps_ret (pe_tup (pa_cons (pe_op op_fdivW (pv 0) (pv 2)) (pa_cons (pe_op op_fdivW (pv 1) (pv 2)) pa_nil)))))), ?_⟩
    have g1 := gcdI_pos (a := a) hb
    have g2 := gcdI_le (a := a) hb
    have gl : (gcdI a b).natAbs.log2 < 9000 := by
      have gn : (gcdI a b).natAbs ≤ b.natAbs := by omega
      have z : (gcdI a b).natAbs ≠ 0 := by omega
      have zb : b.natAbs ≠ 0 := by omega
      exact (Nat.log2_lt z).mpr (Nat.lt_of_le_of_lt gn ((Nat.log2_lt zb).mp hl))
    refine ⟨.int a, rfl, .int b, rfl, a, b, rfl, ha, by omega, fun H1 s1 => ?_⟩
    refine ⟨.int a, rfl, .int (gcdI a b), rfl, a, gcdI a b, rfl, rfl, ⟨by omega, gl⟩, .int b, rfl, .int (gcdI a b), rfl, b, gcdI a b, rfl, rfl, ⟨by omega, gl⟩, (by show 2 ≤ sizeLine; decide), fun t nt => ?_⟩
    exact q _ t (s1.trans (same_upd nt)) (s1.free nt) upd_same
end
end Rd

set_option autoImplicit false
set_option Elab.async false
set_option linter.all false
set_option maxRecDepth 100000
set_option maxHeartbeats 4000000
namespace Rd
open PySem PySem.Spec PyProof.Rows L2 Dt
abbrev sDan : Stmt := topS 28
abbrev nDan : List Str := ["filling", "places", "row", "drawn", "place", "hue"]
theorem scDan : FnScope nDan ["filling", "places", "row"] (defScope sDan) := ⟨rfl, rfl, rfl, by decide +kernel, rfl, by decide +kernel, by decide +kernel⟩
abbrev sMen : Stmt := topS 29
abbrev nMen : List Str := ["riddle", "filling", "bad", "places", "row"]
theorem scMen : FnScope nMen ["riddle", "filling"] (defScope sMen) := ⟨rfl, rfl, rfl, by decide +kernel, rfl, by decide +kernel, by decide +kernel⟩
def spDan : Sp := fun vs H Q _ => ∃ (fa pa ra : Addr) (fs ps rs : List Int), vs = [.ref fa, .ref pa, .ref ra] ∧ H fa = some (.tup (fs.map V.int)) ∧ H pa = some (.tup (ps.map V.int)) ∧ H ra = some (.tup (rs.map V.int)) ∧ ps.length = rs.length ∧ (∀ p ∈ ps, 0 ≤ p ∧ p < (fs.length : Int)) ∧ ps.length ≤ 1000 ∧ fs.length ≤ 1000 ∧
  ∀ H' t, Same H H' → H' t = some (.tup ((anewL fs ps rs).map V.int)) → Q (.ref t) H'
def spMen (Ps : List Addr) : Sp := fun vs H Q _ => ∃ (ri fa : Addr) (fs : List Int) (wds : List WD) (many hues : Int), vs = [.ref ri, .ref fa] ∧ IsRid H ri many hues wds ∧ H fa = some (.tup (fs.map V.int)) ∧ fs ∈ fillL hues.toNat many.toNat ∧ WdsOk many hues wds ∧ Tabs Ps H ∧
  ∀ H' l, FrS Ps H H' → H l = none → IsFills H' l (mendsL hues.toNat wds fs) → Q (.ref l) H'
structure TxtDan (mg : Str → Option Value) : Prop where
  m_list : mg "list" = none
  m_tuple : mg "tuple" = none
  m_zip : mg "zip" = none
structure TxtMen (P : Program) (w : World) (K : PySem.W.Frag) (mg : Str → Option Value) (base : Heap) (Ps : List Addr) : Prop where
  m_len : mg "len" = none
  c_all_fillings : Cal P w K mg base 1 "all_fillings" ["many", "hues"] spAlf
  c_broken : Cal P w K mg base 5 "broken" ["riddle", "filling"] (spBro Ps)
  c_drawn_anew : Cal P w K mg base 1 "drawn_anew" ["filling", "places", "row"] spDan
section
variable {P : Program} {w : World} {K : PySem.W.Frag} {mg : Str → Option Value} {base : Heap}
theorem ok_dan {f : Addr} {fd : FuncData} {k : Nat} (F : Fun K "drawn_anew" "drawn_anew" sDan f fd) (T : TxtDan mg) : FnOk P w K mg base CX0 (k + 1) f fd ["filling", "places", "row"] spDan := by
  refine F.ok scDan (fun vs H Q E h => ?_) (fun cdv A outer s H vs Q E hr h => ?_)
  · obtain ⟨fa, pa, ra, fs, ps, rs, rfl, _⟩ := h
    rfl
  · obtain ⟨fa, pa, ra, fs, ps, rs, rfl, hf, hp, hr', pl, pb, p9, f9, q⟩ := h
    refine ⟨_, (pss_cons (ps_set (i := 3) scDan.nd rfl (Or.inl rfl) (pe_callTy call_list_of (by rfl) T.m_list (by decide +kernel) (pa_cons (pv 0) pa_nil)))
  (pss_cons (ps_for PassesOwn.never rfl (RZ.pi_zipA (by rfl) T.m_zip (pa_cons (pv 1) (pa_cons (pv 2) pa_nil))) (pg_tup rfl (pgs_cons (pg_name (i := 4) scDan.nd rfl (Or.inl rfl)) (pgs_cons (pg_name (i := 5) scDan.nd rfl (Or.inl rfl)) pgs_nil)))
  (pss_one (ps_asg (pv 5) (pg_sub (pv 3) (pv 4) set_list))))
  (pss_one (ps_ret (pe_callTy call_tuple_of (by rfl) T.m_tuple (by decide +kernel) (pa_cons (pv 3) pa_nil)))))), ?_⟩
    refine ⟨.ref fa, rfl, fa, _, rfl, .inr (.inl (.inl hf)), fun D nD => ?_⟩
    have s1 := same_upd (o := .lst (fs.map V.int)) nD
    refine ⟨.ref pa, rfl, .ref ra, rfl, pa, ra, _, _, rfl, .inr ⟨.inl (.inl (s1 _ _ hp)), .inl (.inl (s1 _ _ hr')), ?_⟩⟩
    refine RZ.for_zipT (K := K) (by rw [List.length_map, List.length_map, pl]) (fun j σ H3 => Same H H3 ∧ H3 D = some (.lst ((((ps.zip rs).take j).foldl (fun g (x : Int × Int) => g.set x.1.toNat x.2) fs).map V.int)) ∧ ∃ y4 y5, σ = [some (.ref fa), some (.ref pa), some (.ref ra), some (.ref D), y4, y5]) ⟨s1, upd_same, none, none, rfl⟩ (fun j σ H3 p => ⟨.inl (.inl (p.1 _ _ hp)), .inl (.inl (p.1 _ _ hr'))⟩) (fun j xv yv Tt σ H3 hx hy p nT => ?_) (fun σ H3 p => ?_)
    · obtain ⟨s3, hD, y4, y5, rfl⟩ := p
      obtain ⟨pp, ep, rfl⟩ := map_get hx
      obtain ⟨hh, eh, rfl⟩ := map_get hy
      have sT := same_upd (o := .tup [.int pp, .int hh]) nT
      have hD2 := sT _ _ hD
      have ez : (ps.zip rs)[j]? = some (pp, hh) := List.getElem?_zip_eq_some.mpr ⟨ep, eh⟩
      have pb1 := pb pp (List.mem_of_getElem? ep)
      have len : ∀ zs : List (Int × Int), (zs.foldl (fun g (x : Int × Int) => g.set x.1.toNat x.2) fs).length = fs.length := fun zs => by
        have e := anewL_len fs (zs.map (·.1)) (zs.map (·.2))
        unfold anewL at e
        rw [← List.unzip_fst, ← List.unzip_snd, List.zip_unzip] at e
        exact e
      refine ⟨Tt, [.int pp, .int hh], rfl, .inl (.inl upd_same), rfl, .int pp, [.int hh], rfl, .int hh, [], rfl, rfl, ?_⟩
      refine ⟨.int hh, rfl, .ref D, rfl, .int pp, rfl, D, _, _, pp.toNat, rfl, rfl, hD2, ?_, ?_⟩
      · have z := ixN_of (n := ((((ps.zip rs).take j).foldl (fun g (x : Int × Int) => g.set x.1.toNat x.2) fs).map V.int).length) (p := pp) pb1.1 (by rw [List.length_map, len]; exact pb1.2)
        exact z
      · refine ⟨same_put (s3.trans sT) nD, ?_, _, _, rfl⟩
        rw [upd_same, take_snoc ez, List.foldl_append, ← List.map_set]
        rfl
    · obtain ⟨s3, hD, y4, y5, rfl⟩ := p
      rw [List.length_map] at hD
      have e9 : (ps.zip rs).take ps.length = ps.zip rs := List.take_of_length_le (by rw [List.length_zip]; exact Nat.min_le_left _ _)
      rw [e9] at hD
      refine ⟨.ref D, rfl, D, _, rfl, .inl ⟨.inl (.inl hD), fun t nt => ?_⟩⟩
      exact q _ t (s3.trans (same_upd nt)) upd_same
theorem ok_men {f : Addr} {Ps : List Addr} {fd : FuncData} {k : Nat} (F : Fun K "mended" "mended" sMen f fd) (T : TxtMen P w K mg base Ps) : FnOk P w K mg base CX0 (k + 6) f fd ["riddle", "filling"] (spMen Ps) := by
  refine F.ok scMen (fun vs H Q E h => ?_) (fun cdv A outer s H vs Q E hr h => ?_)
  · obtain ⟨ri, fa, fs, wds, many, hues, rfl, _⟩ := h
    rfl
  · obtain ⟨ri, fa, fs, wds, many, hues, rfl, hrd, hf, ff, g, hT, q⟩ := h
    refine ⟨_, (pss_cons (ps_set (i := 2) scMen.nd rfl (Or.inl rfl) (pe_cal T.c_broken (hr.mono (by omega)) (by rfl) (pa_cons (pv 0) (pa_cons (pv 1) pa_nil))))
  (pss_cons (ps_if (pt_not (pt_truth (pv 2) (by intro _; rfl)))
  (pss_one (ps_ret (pe_lst pa_nil))) pss_nil)
  (pss_cons (ps_set (i := 3) scMen.nd rfl (Or.inr rfl) (pe_ix ix_tup (pe_ix ix_tup (pe_ix ix_tup (pv 0) pe_int (fun _ _ => rfl)) (pe_ix ix_list (pv 2) pe_int (fun _ _ => rfl)) (fun _ _ => rfl)) pe_int (fun _ _ => rfl)))
  (pss_one (ps_ret (pe_lc (te := tCall spDan [] E0 (tCons (tVar 1) (tCons (tVar 3) (tCons (tVar 4) tNil)))) (own := [("row", 4)]) rfl scMen.nd  (pi_list (pe_cal T.c_all_fillings (hr.mono (by omega)) (by rfl) (pa_cons (pe_callB call_len_seq (by rfl) T.m_len (by decide +kernel) (pa_cons (pv 3) pa_nil)) (pa_cons (pe_ix ix_tup (pv 0) pe_int (fun _ _ => rfl)) pa_nil)))) (blkOk_by (own := [("row", 4)]) (N := nMen) (sc := defScope sMen) (by decide +kernel))
   (fun _ _ _ _ _ => (pg_name (i := 4) scMen.nd rfl (Or.inl rfl))) (fun _ _ _ _ _ => pts_nil) (fun _ _ _ _ _ => (pe_cal T.c_drawn_anew (hr.mono (by omega)) (by rfl) (pa_cons (pv 1) (pa_cons (pv 3) (pa_cons (pv 4) pa_nil))))))))))), ?_⟩
    have h2 := g.good.h2
    have h4 := g.good.h4
    have m1 := g.good.m1
    have m6 := g.good.m6
    have gF := fill_goodF (many := many) (hues := hues) (by omega) (by omega) ff
    have fl := gF.len
    obtain ⟨wt, was, i1, i2, i3⟩ := id hrd
    refine ⟨.ref ri, rfl, .ref fa, rfl, ri, fa, fs, wds, many, hues, rfl, hrd, hf, gF, g.good, hT, fun H1 b f1 nb hb => ?_⟩
    refine ⟨.ref b, rfl, _, .inl ⟨_, .inl (.inl hb), rfl⟩, ?_⟩
    cases hbr : broL fs wds wds.length with
    | nil =>
      rw [mendsL_nil hbr] at q
      refine iteT ⟨(by show 0 ≤ sizeLine; decide), fun l nl => ?_⟩
      exact q _ l (f1.same (same_upd nl)) (f1.free nl) ⟨[], upd_same, .nil⟩
    | cons k r =>
      rw [hbr] at hb
      refine iteF ?_
      obtain ⟨wd, ew, hw, ep, k0, k1⟩ := plcs_ok g hbr
      rw [mendsL_cons hbr, ep] at q
      have gd := g.good.each wd hw
      have p3 := gd.three
      obtain ⟨wa, ewa, isw⟩ := pairedGet i3 ew
      obtain ⟨pa, rw_, rs, w1, w2, w3, w4⟩ := isw
      have t1 := f1.tups hT
      have ek : ((k.toNat : Nat) : Int) = k := by omega
      refine ⟨.ref ri, rfl, ri, _, 2, .ref wt, rfl, rfl, .inl (.inl (t1 _ _ i1)), rfl, .ref b, rfl, b, _, 0, .int k, rfl, rfl, .inl (.inl hb), atI_nat (j := 0) rfl, wt, _, k, .ref wa, rfl, rfl, .inl (.inl (t1 _ _ i2)), by rw [← ek]; exact atI_nat (map_at ewa), wa, _, 0, .ref pa, rfl, rfl, .inl (.inl (t1 _ _ w1)), rfl, ?_⟩
      refine ⟨.ref pa, rfl, pa, _, rfl, .inr (.inl (.inl (t1 _ _ w2))), .ref ri, rfl, ri, _, 1, .int hues, rfl, rfl, .inl (.inl (t1 _ _ i1)), rfl, _, hues, rfl, by omega, by rw [List.length_map]; omega, by omega, h4, fun H2 lf s2 nlf isf => ?_⟩
      obtain ⟨as, hlf, pas⟩ := isf
      rw [List.length_map] at pas
      have epl : ((wd.1.length : Int)).toNat = wd.1.length := Int.toNat_natCast _
      rw [epl] at pas
      have f2 := f1.same s2
      have t2 := f2.tups hT
      refine ⟨lf, rfl, ⟨_, .inl (.inl hlf)⟩, fun D nD => ?_⟩
      refine lc_list (K := K) (a := lf) (xs := as.map V.ref) (fun i H3 => Same H2 H3 ∧ IsFills H3 D (((fillL hues.toNat wd.1.length).take i).map (anewL fs wd.1))) ⟨same_upd nD, [], upd_same, .nil⟩ (fun i H3 _ p => .inl (.inl (p.1 _ _ hlf))) (fun i x H3 hx p => ?_) (fun H3 p => ?_)
      · obtain ⟨ra, ea, rfl⟩ := map_get hx
        obtain ⟨row, er, hrow⟩ := pairedGetL pas ea
        obtain ⟨s3, bs, hD, pbs⟩ := p
        obtain ⟨rl, rh⟩ := fill_good (List.mem_of_getElem? er)
        have bl := pairedLen pbs
        rw [List.length_map, List.length_take] at bl
        have il := (List.getElem?_eq_some_iff.mp er).1
        rw [fill_len] at il
        have p64 : hues.toNat ^ wd.1.length ≤ 4096 := pow_le_4096 (by omega) (by omega)
        refine ⟨rfl, yes_if ⟨.ref fa, rfl, .ref pa, rfl, .ref ra, rfl, fa, pa, ra, fs, wd.1, row, rfl, s3 _ _ (t2 _ _ hf), s3 _ _ (t2 _ _ w2), s3 _ _ hrow, rl.symm, fun p hp => by rw [fl]; exact gd.pl p hp, by omega, by omega, fun H4 t s4 ht => ?_⟩⟩
        have hD4 := s4 _ _ hD
        refine ⟨_, hD4, ?_, same_put (s3.trans s4) nD, bs ++ [t], ?_, ?_⟩
        · rw [List.length_map, bl]
          exact Nat.lt_of_le_of_lt (show _ ≤ 4096 by omega) (by decide)
        · rw [upd_same, List.map_append]
          rfl
        · have tu : Tups H4 (upd H4 D (.lst (bs.map V.ref ++ [.ref t]))) := tups_upd fun xs z => by rw [hD4] at z; cases z
          rw [take_snoc er, List.map_append]
          exact pairedSnoc (pairedMap (fun _ _ e => tu _ _ (s4 _ _ e)) pbs) (tu _ _ ht)
      · obtain ⟨s3, isf⟩ := p
        have al := pairedLen pas
        rw [List.length_map, al, List.take_length] at isf
        exact q H3 D (f2.same s3) (f1.free (s2.free nD)) isf
end
end Rd

set_option autoImplicit false
set_option Elab.async false
set_option linter.all false
set_option maxRecDepth 100000
set_option maxHeartbeats 4000000
namespace Rd
open PySem PySem.Spec PyProof.Rows L2 Dt
abbrev sWay : Stmt := topS 30
abbrev nWay : List Str := ["riddle", "fillings", "numbers", "number", "filling", "after"]
theorem scWay : FnScope nWay ["riddle"] (defScope sWay) := ⟨rfl, rfl, rfl, by decide +kernel, rfl, by decide +kernel, by decide +kernel⟩
def IsRows (H : Hp) (l : Addr) (rows : List (List Int)) : Prop := ∃ das : List Addr, H l = some (.lst (das.map V.ref)) ∧ Paired (IsInts H) das rows
def ixL (Fs : List (List Int)) (a : List Int) : Int := ((Fs.idxOf a : Nat) : Int)
def waysL (hues n : Nat) (wds : List WD) : List (List Int) := (fillL hues n).map fun f => (mendsL hues wds f).map (ixL (fillL hues n))
def spWay (Ps : List Addr) : Sp := fun vs H Q _ => ∃ (ri : Addr) (wds : List WD) (many hues : Int), vs = [.ref ri] ∧ IsRid H ri many hues wds ∧ WdsOk many hues wds ∧ Tabs Ps H ∧
  ∀ H' l, FrS Ps H H' → H l = none → IsRows H' l (waysL hues.toNat many.toNat wds) → Q (.ref l) H'
def keyF (f : List Int) : List Key := f.map Sum.inl
theorem keyF_kV (f : List Int) : (keyF f).map kV = f.map V.int := by
  unfold keyF
  rw [List.map_map]
  rfl
theorem keyF_inj {f g : List Int} (h : keyF f = keyF g) : f = g := by
  have z : ∀ {a b : List Int}, a.map (Sum.inl : Int → Key) = b.map Sum.inl → a = b := by
    intro a
    induction a with
    | nil => intro b e; cases b with | nil => rfl | cons _ _ => cases e
    | cons x r ih => intro b e; cases b with | nil => cases e | cons y t => rw [List.map_cons, List.map_cons] at e; injection e with e1 e2; injection e1 with e1; rw [e1, ih e2]
  exact z h
theorem ixL_at {Fs : List (List Int)} {a : List Int} (h : a ∈ Fs) : Fs[Fs.idxOf a]? = some a := by
  have l := List.idxOf_lt_length_of_mem h
  rw [List.getElem?_eq_getElem l, List.getElem_idxOf l]
structure TxtWay (P : Program) (w : World) (K : PySem.W.Frag) (mg : Str → Option Value) (base : Heap) (Ps : List Addr) : Prop where
  m_enumerate : mg "enumerate" = none
  c_all_fillings : Cal P w K mg base 1 "all_fillings" ["many", "hues"] spAlf
  c_mended : Cal P w K mg base 6 "mended" ["riddle", "filling"] (spMen Ps)
section
variable {P : Program} {w : World} {K : PySem.W.Frag} {mg : Str → Option Value} {base : Heap}
theorem ok_way {f : Addr} {Ps : List Addr} {fd : FuncData} {k : Nat} (F : Fun K "ways_on" "ways_on" sWay f fd) (T : TxtWay P w K mg base Ps) : FnOk P w K mg base CX0 (k + 7) f fd ["riddle"] (spWay Ps) := by
  refine F.ok scWay (fun vs H Q E h => ?_) (fun cdv A outer s H vs Q E hr h => ?_)
  · obtain ⟨ri, wds, many, hues, rfl, _⟩ := h
    rfl
  · obtain ⟨ri, wds, many, hues, rfl, hrd, g, hT, q⟩ := h
    refine ⟨_, (pss_cons (ps_set (i := 1) scWay.nd rfl (Or.inl rfl) (pe_cal T.c_all_fillings (hr.mono (by omega)) (by rfl) (pa_cons (pe_ix ix_tup (pv 0) pe_int (fun _ _ => rfl)) (pa_cons (pe_ix ix_tup (pv 0) pe_int (fun _ _ => rfl)) pa_nil))))
  (pss_cons (ps_set (i := 2) scWay.nd rfl (Or.inr rfl) (pe_dcT (own := [("number", 3), ("filling", 4)]) (g := gTup K 2 (gCons (gName 3) (gCons (gName 4) gNil))) rfl scWay.nd (pi_enum (by rfl) T.m_enumerate (pa_cons (pv 1) pa_nil)) (blkOk_by (own := [("number", 3), ("filling", 4)]) (N := nWay) (sc := defScope sWay) (by decide +kernel))
   (fun _ _ _ _ _ => (pg_tup rfl (pgs_cons (pg_name (i := 3) scWay.nd rfl (Or.inl rfl)) (pgs_cons (pg_name (i := 4) scWay.nd rfl (Or.inl rfl)) pgs_nil)))) (fun _ _ _ _ _ => pts_nil) (fun _ _ _ _ _ => (pv 4)) (fun _ _ _ _ _ => (pv 3)) (hu_of hr)))
  (pss_one (ps_ret (pe_lc (te := tLc (iList K (tCall (spMen Ps) [] E0 (tCons (tVar 0) (tCons (tVar 4) tNil)))) (gName 5) tYes (tDGet (tVar 2) (tVar 5)) [5]) (own := [("filling", 4)]) rfl scWay.nd  (pi_list (pv 1)) (blkOk_by (own := [("filling", 4)]) (N := nWay) (sc := defScope sWay) (by decide +kernel))
   (fun _ _ _ _ _ => (pg_name (i := 4) scWay.nd rfl (Or.inl rfl))) (fun _ _ _ _ _ => pts_nil) (fun _ _ _ _ _ => (pe_lc (te := tDGet (tVar 2) (tVar 5)) (own := [("after", 5)]) rfl scWay.nd  (pi_list (pe_cal T.c_mended (hr.mono (by omega)) (by rfl) (pa_cons (pv 0) (pa_cons (pv 4) pa_nil)))) (blkOk_by (own := [("after", 5)]) (N := nWay) (sc := { kind := .function, names := [(".0", .local), ("filling", .local), ("mended", .globalImplicit), ("numbers", .cell), ("riddle", .cell)], isGenerator := false, isCoroutine := false }) (by decide +kernel))
   (fun _ _ _ _ _ => (pg_name (i := 5) scWay.nd rfl (Or.inl rfl))) (fun _ _ _ _ _ => pts_nil) (fun _ _ _ _ _ => (pe_dget (hu_of hr) (pv 2) (pv 5) (fun _ _ => rfl)))))))))), ?_⟩
    have h2 := g.good.h2
    have h4 := g.good.h4
    have m1 := g.good.m1
    have m6 := g.good.m6
    obtain ⟨wt, was, i1, i2, i3⟩ := id hrd
    refine ⟨.ref ri, rfl, ri, _, 0, .int many, rfl, rfl, .inl (.inl i1), rfl, .ref ri, rfl, ri, _, 1, .int hues, rfl, rfl, .inl (.inl i1), rfl, many, hues, rfl, by omega, by omega, by omega, h4, fun H1 lf s1 nlf isf => ?_⟩
    obtain ⟨as, hlf, pas⟩ := isf
    have al := pairedLen pas
    have nf := fill_nodup hues.toNat many.toNat
    have flen := fill_len hues.toNat many.toNat
    have p4 : hues.toNat ^ many.toNat ≤ 4096 := pow_le_4096 (by omega) (by omega)
    have mem : ∀ f ∈ fillL hues.toNat many.toNat, ∀ a ∈ mendsL hues.toNat wds f, a ∈ fillL hues.toNat many.toNat := fun f hf a ha => mends_mem g hf ha
    unfold waysL at q
    generalize hFs : fillL hues.toNat many.toNat = Fs at pas al nf flen mem q
    -- numbers
    refine ⟨.ref lf, rfl, lf, _, rfl, .inl (.inl hlf), fun D nD => ?_⟩
    refine dcT_enumL (K := K) (a := lf) (xs := as.map V.ref) (fun i H3 => Same H1 H3 ∧ ∃ kvs, H3 D = some (.dT kvs) ∧ kvs.length ≤ i ∧ ∀ (j : Nat) (a : List Int), Fs[j]? = some a → j < i → valV kvs (keyF a) = some (.int (j : Nat))) ⟨same_upd nD, [], upd_same, Nat.le_refl _, fun _ _ _ z => absurd z (Nat.not_lt_zero _)⟩ (fun i H3 _ p => .inl (.inl (p.1 _ _ hlf))) (fun i x T H3 hx p nT => ?_) (fun H3 p => ?_)
    · obtain ⟨a, ea, rfl⟩ := map_get hx
      obtain ⟨f, ef, hf⟩ := pairedGetL pas ea
      obtain ⟨s3, kvs, hD, kl, kv⟩ := p
      have il := (List.getElem?_eq_some_iff.mp ef).1
      have sT := same_upd (o := .tup [.int (i : Nat), .ref a]) nT
      refine ⟨T, [.int (i : Nat), .ref a], rfl, .inl (.inl upd_same), rfl, .int (i : Nat), [.ref a], rfl, .ref a, [], rfl, rfl, rfl, yes_if ?_⟩
      refine ⟨.ref a, rfl, .int (i : Nat), rfl, kvs, keyF f, a, rfl, by rw [keyF_kV]; exact sT _ _ (s3 _ _ hf), sT _ _ hD, Nat.lt_of_le_of_lt (show _ ≤ 4096 by omega) (by decide), same_put (s3.trans sT) nD, _, upd_same, ?_, fun j b eb jl => ?_⟩
      · have := length_putK kvs (keyF f) (.int (i : Nat))
        omega
      · rw [valV_put]
        by_cases c : j = i
        · subst c
          rw [ef] at eb
          cases eb
          rw [if_pos rfl]
        · rw [if_neg (fun z => ?_)]
          · exact kv j b eb (by omega)
          · have z := keyF_inj z
            subst z
            exact c ((List.getElem?_inj (List.getElem?_eq_some_iff.mp eb).1 nf).mp (eb.trans ef.symm))
    obtain ⟨s3, kvs, hD, _, kv⟩ := p
    rw [List.length_map, al] at kv
    have val : ∀ a ∈ Fs, valV kvs (keyF a) = some (.int (ixL Fs a)) := fun a ha => kv _ a (ixL_at ha) (List.idxOf_lt_length_of_mem ha)
    clear kv
    have f3 : FrS Ps H H3 := FrS.of hT (s1.trans s3)
    have hlf3 := s3 _ _ hlf
    have pas3 : Paired (IsRow H3) as Fs := pairedMap (fun _ _ e => s3 _ _ e) pas
    have hrd3 := hrd.mono (f3.tups hT)
    have n3 : ∀ {b : Addr}, H3 b = none → H b = none := fun {b} n => f3.free n
    have q3 : ∀ H' l, FrS Ps H3 H' → H3 l = none → IsRows H' l (Fs.map fun f => (mendsL hues.toNat wds f).map (ixL Fs)) → Q (.ref l) H' := fun H' l f n r => q H' l (f3.trans f) (n3 n) r
    have hT3 := f3.2
    clear q f3 n3 s3 hlf pas s1 nlf nD hT hrd i1 i2 i3
    -- the rows
    refine ⟨.ref lf, rfl, lf, rfl, ⟨_, .inl (.inl hlf3)⟩, fun DD nDD => ?_⟩
    have nDP : DD ∉ Ps := hT3.new nDD
    refine lc_list (K := K) (a := lf) (xs := as.map V.ref) (fun i H4 => FrS Ps H3 H4 ∧ ∃ das : List Addr, H4 DD = some (.lst (das.map V.ref)) ∧ Paired (IsInts H4) das ((Fs.take i).map fun f => (mendsL hues.toNat wds f).map (ixL Fs)) ∧ DD ∉ das) ⟨FrS.of hT3 (same_upd nDD), [], upd_same, .nil, List.not_mem_nil⟩ (fun i H4 _ p => .inl (.inl (p.1.1 _ _ (hT3.lst hlf3) hlf3))) (fun i x H4 hx p => ?_) (fun H4 p => ?_)
    · obtain ⟨fa, ea, rfl⟩ := map_get hx
      obtain ⟨f, ef, hf⟩ := pairedGetL pas3 ea
      have fm := List.mem_of_getElem? ef
      have il := (List.getElem?_eq_some_iff.mp ef).1
      obtain ⟨f4, das, hDD, pd, nd⟩ := p
      have t4 := f4.tups hT3
      refine ⟨rfl, yes_if ?_⟩
      refine ⟨.ref ri, rfl, .ref fa, rfl, ri, fa, f, wds, many, hues, rfl, hrd3.mono t4, t4 _ _ hf, by rw [hFs]; exact fm, g, f4.2, fun H5 lm f5 nlm ism => ?_⟩
      obtain ⟨ms, hlm, pms⟩ := ism
      have f45 := f4.trans f5
      refine ⟨lm, rfl, ⟨_, .inl (.inl hlm)⟩, fun E nE => ?_⟩
      have hDD5 := f5.1 _ _ nDP hDD
      have neE : E ≠ DD := fun z => by rw [z, hDD5] at nE; cases nE
      have nEP : E ∉ Ps := f5.2.new nE
      have ml := pairedLen pms
      have mlen : (mendsL hues.toNat wds f).length ≤ 4096 := by
        obtain ⟨s, s3, _, e, _⟩ := th_len g (f := f)
        unfold thL at e
        have p64 : hues.toNat ^ s ≤ 4096 := pow_le_4096 (by omega) (by omega)
        split at e
        · rename_i z
          rw [z]; exact Nat.zero_le _
        · omega
      refine lc_list (K := K) (a := lm) (xs := ms.map V.ref) (fun j H6 => Same H5 H6 ∧ H6 E = some (.lst ((((mendsL hues.toNat wds f).take j).map (ixL Fs)).map V.int))) ⟨same_upd nE, upd_same⟩ (fun j H6 _ p => .inl (.inl (p.1 _ _ hlm))) (fun j x H6 hx p => ?_) (fun H6 p => ?_)
      · obtain ⟨ma, ema, rfl⟩ := map_get hx
        obtain ⟨a, eaa, ha⟩ := pairedGetL pms ema
        obtain ⟨s6, hE⟩ := p
        have hD6 := s6 _ _ (f45.1 _ _ (fun z => by
          obtain ⟨ps, e, _⟩ := hT3 D z
          rw [hD] at e
          cases e) hD)
        have jl := (List.getElem?_eq_some_iff.mp eaa).1
        refine ⟨rfl, yes_if ⟨.ref D, rfl, .ref ma, rfl, D, .int (ixL Fs a), rfl, ?_, _, hE, ?_, same_put s6 nE, ?_⟩⟩
        · rw [← val a (mem f fm a (List.mem_of_getElem? eaa))]
          exact DGet.t hD6 (by rw [keyF_kV]; exact s6 _ _ ha)
        · rw [List.length_map, List.length_map, List.length_take]
          exact Nat.lt_of_le_of_lt (show _ ≤ 4096 by omega) (by decide)
        · rw [upd_same, take_snoc eaa, List.map_append, List.map_append]
          rfl
      · obtain ⟨s6, hE⟩ := p
        rw [List.length_map, ml, List.take_length] at hE
        have hDD6 := s6 _ _ hDD5
        have dl := pairedLen pd
        rw [List.length_map, List.length_take] at dl
        refine ⟨_, hDD6, ?_, (f45.same s6).put nDD nDP, das ++ [E], ?_, ?_, fun z => ?_⟩
        · rw [List.length_map, dl]
          exact Nat.lt_of_le_of_lt (show _ ≤ 4096 by omega) (by decide)
        · rw [upd_same, List.map_append]
          rfl
        · rw [take_snoc ef, List.map_append]
          refine pairedSnoc (paired_upd (pairedMap (fun _ _ e => s6 _ _ (f5.1 _ _ (f4.2.lst e) e)) pd) fun d hd z => nd (z ▸ hd)) ?_
          show upd _ DD _ E = _
          rw [upd_ne neE]
          exact hE
        · rcases List.mem_append.mp z with y | y
          · exact nd y
          · exact neE (List.mem_singleton.mp y).symm
    · obtain ⟨f4, das, hDD, pd, _⟩ := p
      rw [List.length_map, al, List.take_length] at pd
      exact q3 H4 DD f4 nDD ⟨das, hDD, pd⟩
end
end Rd

set_option autoImplicit false
set_option Elab.async false
set_option linter.all false
set_option maxRecDepth 100000
set_option maxHeartbeats 4000000
namespace Rd
open PySem PySem.Spec PyProof.Rows L2 Dt
/-! means: what the rows come to -/
theorem anew_at (φ : Int → Int) : ∀ (ps f : List Int), (∀ p ∈ ps, 0 ≤ p ∧ p < (f.length : Int)) → ∀ q : Nat, q < f.length → (anewL f ps (ps.map φ)).getD q 0 = if (q : Int) ∈ ps then φ q else f.getD q 0
  | [], f, _, q, _ => by
    rw [if_neg (by simp)]
    rfl
  | p :: ps, f, h, q, hq => by
    have hp := h p List.mem_cons_self
    have e : anewL f (p :: ps) ((p :: ps).map φ) = anewL (f.set p.toNat (φ p)) ps (ps.map φ) := rfl
    rw [e, anew_at φ ps _ (fun x hx => by rw [List.length_set]; exact h x (List.mem_cons_of_mem _ hx)) q (by rw [List.length_set]; exact hq)]
    by_cases c : (q : Int) ∈ ps
    · rw [if_pos c, if_pos (List.mem_cons_of_mem _ c)]
    · rw [if_neg c]
      by_cases d : (q : Int) = p
      · rw [if_pos (by rw [d]; exact List.mem_cons_self), List.getD_eq_getElem?_getD, List.getElem?_eq_getElem (by rw [List.length_set]; exact hq), List.getElem_set, if_pos (by omega), d]
        rfl
      · rw [if_neg (fun z => by rcases List.mem_cons.mp z with z | z; exact d z; exact c z), List.getD_eq_getElem?_getD, List.getElem?_eq_getElem (by rw [List.length_set]; exact hq), List.getElem_set, if_neg (by omega), List.getD_eq_getElem?_getD, List.getElem?_eq_getElem hq]
def dstF (n : Nat) (f k : List Int) : Nat := (sm n fun p => if f.getD p 0 = k.getD p 0 then 0 else 1).toNat
theorem way_get {hues n : Nat} {wds : List WD} {i : Nat} (h : i < (fillL hues n).length) : (waysL hues n wds).getD i [] = (mendsL hues wds ((fillL hues n)[i])).map (ixL (fillL hues n)) := by
  unfold waysL
  rw [List.getD_eq_getElem?_getD, List.getElem?_map, List.getElem?_eq_getElem h]
  rfl
theorem way_len (hues n : Nat) (wds : List WD) : (waysL hues n wds).length = (fillL hues n).length := by
  unfold waysL
  rw [List.length_map]
theorem way_nil {hues n : Nat} {wds : List WD} {i : Nat} (h : i < (fillL hues n).length) : (waysL hues n wds).getD i [] = [] ↔ mendsL hues wds ((fillL hues n)[i]) = [] := by
  rw [way_get h]
  exact List.map_eq_nil_iff
section
variable {many hues : Int} {wds : List WD}
theorem leads_of (g : WdsOk many hues wds) {kp : List Int} (hk : kp ∈ fillL hues.toNat many.toNat) (k0 : mendsL hues.toNat wds kp = []) : Leads (waysL hues.toNat many.toNat wds) := by
  have h2 := g.good.h2
  have m1 := g.good.m1
  have wl := way_len hues.toNat many.toNat wds
  have ixs : ∀ a ∈ fillL hues.toNat many.toNat, 0 ≤ ixL (fillL hues.toNat many.toNat) a ∧ ixL (fillL hues.toNat many.toNat) a < ((fillL hues.toNat many.toNat).length : Int) := fun a ha => by
    have := List.idxOf_lt_length_of_mem ha
    unfold ixL
    omega
  refine ⟨fun i hi a ha => ?_, fun i => dstF many.toNat ((fillL hues.toNat many.toNat).getD i []) kp, fun i hi hb => ?_⟩
  · rw [wl] at hi
    rw [way_get hi] at ha
    obtain ⟨b, hb, rfl⟩ := List.mem_map.mp ha
    rw [wl]
    exact ixs b (mends_mem g (List.getElem_mem hi) hb)
  · rw [wl] at hi
    rw [Ne, way_nil hi] at hb
    have fm := List.getElem_mem hi
    have fg : (fillL hues.toNat many.toNat).getD i [] = (fillL hues.toNat many.toNat)[i] := by rw [List.getD_eq_getElem?_getD, List.getElem?_eq_getElem hi]; rfl
    rw [way_get hi]
    dsimp only
    rw [fg]
    generalize (fillL hues.toNat many.toNat)[i] = f at hb fm ⊢
    obtain ⟨fl, fh⟩ := fill_good fm
    obtain ⟨kl, kh⟩ := fill_good hk
    cases hbr : broL f wds wds.length with
    | nil => exact absurd (mendsL_nil hbr) hb
    | cons w r =>
      obtain ⟨wd, ew, hw, ep, w0, w1⟩ := plcs_ok g hbr
      have gd := g.good.each wd hw
      have bf : brk f wd = true := by
        have := (broL_iff.mp (show w ∈ broL f wds wds.length by rw [hbr]; exact List.mem_cons_self)).2.2
        rw [brkAt_of ew] at this
        exact this
      have bk : brk kp wd = false := by
        cases c : brk kp wd with
        | false => rfl
        | true =>
          have : w ∈ broL kp wds wds.length := broL_iff.mpr ⟨w0, w1, by rw [brkAt_of ew]; exact c⟩
          cases z : broL kp wds wds.length with
          | nil => rw [z] at this; cases this
          | cons u v =>
            obtain ⟨wd2, _, hw2, ep2, _⟩ := plcs_ok g z
            rw [mendsL_cons z, List.map_eq_nil_iff] at k0
            have e := fill_len hues.toNat (plcs wds u).length
            rw [k0] at e
            have := Nat.pow_pos (n := (plcs wds u).length) (show 0 < hues.toNat by omega)
            simp at e
            omega
      have ne : ∃ p ∈ wd.1, atF f p ≠ atF kp p := Classical.byContradiction fun no => by
        have e : huesA f wd.1 = huesA kp wd.1 := List.map_congr_left fun p hp => Classical.byContradiction fun z => no ⟨p, hp, z⟩
        unfold brk at bf bk
        rw [e, bk] at bf
        cases bf
      have pl : ∀ p ∈ wd.1, 0 ≤ p ∧ p < (f.length : Int) := fun p hp => by have := gd.pl p hp; omega
      have rm : huesA kp wd.1 ∈ fillL hues.toNat wd.1.length := by
        refine fill_allC _ _ (by unfold huesA; rw [List.length_map]) fun h hh => ?_
        obtain ⟨p, hp, rfl⟩ := List.mem_map.mp hh
        have := pl p hp
        refine kh _ ?_
        unfold atF
        rw [List.getD_eq_getElem?_getD, List.getElem?_eq_getElem (by omega)]
        exact List.getElem_mem _
      have bm : anewL f wd.1 (huesA kp wd.1) ∈ mendsL hues.toNat wds f := by
        rw [mendsL_cons hbr, ep]
        exact List.mem_map.mpr ⟨_, rm, rfl⟩
      have bF := mends_mem g fm bm
      refine ⟨_, List.mem_map.mpr ⟨_, bm, rfl⟩, ?_⟩
      have bx := ixL_at bF
      have bl := (List.getElem?_eq_some_iff.mp bx).1
      have en : (ixL (fillL hues.toNat many.toNat) (anewL f wd.1 (huesA kp wd.1))).toNat = (fillL hues.toNat many.toNat).idxOf (anewL f wd.1 (huesA kp wd.1)) := Int.toNat_natCast _
      rw [en]
      right
      rw [List.getD_eq_getElem?_getD, bx]
      show dstF many.toNat (anewL f wd.1 (huesA kp wd.1)) kp < dstF many.toNat f kp
      have at_ : ∀ q : Nat, q < many.toNat → (anewL f wd.1 (huesA kp wd.1)).getD q 0 = if (q : Int) ∈ wd.1 then kp.getD q 0 else f.getD q 0 := fun q hq => by
        have e := anew_at (atF kp) wd.1 f pl q (by omega)
        unfold huesA
        rw [e]
        unfold atF
        rw [Int.toNat_natCast]
      obtain ⟨p, hp, np⟩ := ne
      have pb := pl p hp
      have lt : sm many.toNat (fun q => if (anewL f wd.1 (huesA kp wd.1)).getD q 0 = kp.getD q 0 then (0 : Int) else 1) < sm many.toNat fun q => if f.getD q 0 = kp.getD q 0 then (0 : Int) else 1 := by
        refine sm_lt (fun q hq => ?_) (j := p.toNat) (by omega) ?_
        · rw [at_ q hq]
          by_cases c : (q : Int) ∈ wd.1
          · rw [if_pos c, if_pos rfl]
            split <;> decide
          · rw [if_neg c]
            exact Int.le_refl _
        · rw [at_ p.toNat (by omega), show ((p.toNat : Nat) : Int) = p by omega, if_pos hp, if_pos rfl, if_neg (by unfold atF at np; exact np)]
          decide
      have nn : 0 ≤ sm many.toNat (fun q => if (anewL f wd.1 (huesA kp wd.1)).getD q 0 = kp.getD q 0 then (0 : Int) else 1) := by
        have := sm_le (n := many.toNat) (f := fun _ => 0) (g := fun q => if (anewL f wd.1 (huesA kp wd.1)).getD q 0 = kp.getD q 0 then (0 : Int) else 1) fun q _ => by split <;> decide
        rw [sm_zero] at this
        exact this
      unfold dstF
      omega
end
def meanX (hues n : Nat) (wds : List WD) (f : List Int) : Int := solN (waysL hues n wds) (ixL (fillL hues n) f)
def meanD (hues n : Nat) (wds : List WD) : Int := divN (waysL hues n wds)
def keptB (hues n : Nat) (wds : List WD) : Bool := (fillL hues n).any fun f => decide (mendsL hues wds f = [])
def meanS (hues n : Nat) (wds : List WD) : Int := ((fillL hues n).map (meanX hues n wds)).sum
def meanL (hues n : Nat) (wds : List WD) : Option (Int × Int) := if keptB hues n wds = true then some (lowI (meanS hues n wds) (meanD hues n wds * ((hues ^ n : Nat) : Int))) else none
theorem keptB_iff {hues n : Nat} {wds : List WD} : keptB hues n wds = true ↔ ∃ f ∈ fillL hues n, mendsL hues wds f = [] := by
  unfold keptB
  rw [List.any_eq_true]
  exact exists_congr fun f => and_congr_right fun _ => ⟨of_decide_eq_true, decide_eq_true⟩
section
variable {many hues : Int} {wds : List WD}
theorem kept_leads (g : WdsOk many hues wds) (k : keptB hues.toNat many.toNat wds = true) : Leads (waysL hues.toNat many.toNat wds) := by
  obtain ⟨f, hf, e⟩ := keptB_iff.mp k
  exact leads_of g hf e
theorem meanD_pos (g : WdsOk many hues wds) (k : keptB hues.toNat many.toNat wds = true) : 0 < meanD hues.toNat many.toNat wds := divN_pos (kept_leads g k)
theorem ix_lt {Fs : List (List Int)} {f : List Int} (h : f ∈ Fs) : ∃ i, i < Fs.length ∧ Fs[i]? = some f ∧ ixL Fs f = (i : Int) := ⟨Fs.idxOf f, List.idxOf_lt_length_of_mem h, ixL_at h, rfl⟩
theorem meanX_kept {f : List Int} (hf : f ∈ fillL hues.toNat many.toNat) (e : mendsL hues.toNat wds f = []) : meanX hues.toNat many.toNat wds f = 0 := by
  obtain ⟨i, hi, ei, ex⟩ := ix_lt hf
  unfold meanX
  rw [ex]
  refine solN_kept (.inr ?_)
  rw [Int.toNat_natCast, way_nil hi, (List.getElem?_eq_some_iff.mp ei).2]
  exact e
theorem meanX_row (g : WdsOk many hues wds) (k : keptB hues.toNat many.toNat wds = true) {f : List Int} (hf : f ∈ fillL hues.toNat many.toNat) (ne : mendsL hues.toNat wds f ≠ []) :
    ((mendsL hues.toNat wds f).length : Int) * meanX hues.toNat many.toNat wds f = ((mendsL hues.toNat wds f).length : Int) * meanD hues.toNat many.toNat wds + ((mendsL hues.toNat wds f).map (meanX hues.toNat many.toNat wds)).sum := by
  obtain ⟨i, hi, ei, ex⟩ := ix_lt hf
  have ef := (List.getElem?_eq_some_iff.mp ei).2
  have r := solN_row (kept_leads g k) (i := i) (by rw [way_len]; exact hi) (by rw [Ne, way_nil hi, ef]; exact ne)
  rw [way_get hi, ef, List.length_map, List.map_map] at r
  unfold meanX meanD
  rw [ex]
  exact r
theorem meanX_nonneg (g : WdsOk many hues wds) (k : keptB hues.toNat many.toNat wds = true) (f : List Int) : 0 ≤ meanX hues.toNat many.toNat wds f := solN_nonneg (kept_leads g k) _
/-- the rows have one solution -/
theorem meanX_one (g : WdsOk many hues wds) (k : keptB hues.toNat many.toNat wds = true) {y : List Int → Int} {E : Int} (kept : ∀ f ∈ fillL hues.toNat many.toNat, mendsL hues.toNat wds f = [] → y f = 0)
    (row : ∀ f ∈ fillL hues.toNat many.toNat, mendsL hues.toNat wds f ≠ [] → ((mendsL hues.toNat wds f).length : Int) * y f = ((mendsL hues.toNat wds f).length : Int) * E + ((mendsL hues.toNat wds f).map y).sum) :
    ∀ f ∈ fillL hues.toNat many.toNat, y f * meanD hues.toNat many.toNat wds = meanX hues.toNat many.toNat wds f * E := by
  have wl := way_len hues.toNat many.toNat wds
  have yx : ∀ f ∈ fillL hues.toNat many.toNat, y ((fillL hues.toNat many.toNat).getD (ixL (fillL hues.toNat many.toNat) f).toNat []) = y f := fun f hf => by
    obtain ⟨i, hi, ei, ex⟩ := ix_lt hf
    rw [ex, Int.toNat_natCast, List.getD_eq_getElem?_getD, ei]
    rfl
  have at_ : ∀ i (hi : i < (fillL hues.toNat many.toNat).length), (fillL hues.toNat many.toNat).getD ((i : Int)).toNat [] = (fillL hues.toNat many.toNat)[i] := fun i hi => by
    rw [Int.toNat_natCast, List.getD_eq_getElem?_getD, List.getElem?_eq_getElem hi]
    rfl
  have key := solN_one (kept_leads g k) (y := fun a => y ((fillL hues.toNat many.toNat).getD a.toNat [])) (E := E) (fun i hi e => by
    rw [wl] at hi
    rw [way_nil hi] at e
    rw [at_ i hi]
    exact kept _ (List.getElem_mem hi) e) (fun i hi e => by
    rw [wl] at hi
    rw [Ne, way_nil hi] at e
    have r := row _ (List.getElem_mem hi) e
    rw [way_get hi, List.length_map, List.map_map]
    rw [at_ i hi, r]
    congr 2
    exact List.map_congr_left fun a ha => (yx a (mends_mem g (List.getElem_mem hi) ha)).symm)
  intro f hf
  obtain ⟨i, hi, ei, ex⟩ := ix_lt hf
  have := key i (by rw [wl]; exact hi)
  rw [at_ i hi, (List.getElem?_eq_some_iff.mp ei).2] at this
  unfold meanX meanD
  rw [ex]
  exact this
theorem meanS_sum (hues n : Nat) (wds : List WD) : meanS hues n wds = sm (badN (waysL hues n wds)).length fun l => dT (eqA (waysL hues n wds)) (badN (waysL hues n wds)).length l (badN (waysL hues n wds)).length := by
  rw [← solN_sum, way_len]
  unfold meanS meanX
  congr 1
  refine List.ext_getElem (by simp) fun i h1 h2 => ?_
  rw [List.getElem_map, List.getElem_map, List.getElem_range]
  have hi : i < (fillL hues n).length := by simpa using h1
  obtain ⟨j, hj, ej, ex⟩ := ix_lt (List.getElem_mem hi)
  have : i = j := (List.getElem?_inj hi (fill_nodup hues n)).mp (by rw [ej, List.getElem?_eq_getElem hi])
  rw [ex, this]
theorem meanD_le (g : WdsOk many hues wds) (k : keptB hues.toNat many.toNat wds = true) (c : hues.toNat ^ many.toNat ≤ 32) : meanD hues.toNat many.toNat wds ≤ ((64 ^ 32 : Nat) : Int) := by
  have h2 := g.good.h2
  have h4 := g.good.h4
  have wl := way_len hues.toNat many.toNat wds
  have le := dD_le (kept_leads g k) (B := 64) (fun i hi => by
    rw [wl] at hi
    rw [way_get hi, List.length_map]
    obtain ⟨s, s3, _, e, _⟩ := th_len g (f := (fillL hues.toNat many.toNat)[i])
    unfold thL at e
    have p64 : hues.toNat ^ s ≤ 4 ^ 3 := Nat.le_trans (Nat.pow_le_pow_left (by omega) _) (Nat.pow_le_pow_right (by decide) s3)
    split at e
    · rename_i z
      rw [z]; exact Nat.zero_le _
    · have : (4 : Nat) ^ 3 = 64 := rfl
      omega) _ (Nat.le_refl _)
  have bl := badN_le (waysL hues.toNat many.toNat wds)
  rw [wl, fill_len] at bl
  have p : (64 : Nat) ^ (badN (waysL hues.toNat many.toNat wds)).length ≤ 64 ^ 32 := Nat.pow_le_pow_right (by decide) (by omega)
  have le : meanD hues.toNat many.toNat wds ≤ _ := le
  omega
end
end Rd

set_option autoImplicit false
set_option Elab.async false
set_option linter.all false
set_option maxRecDepth 100000
set_option maxHeartbeats 4000000
namespace Rd
open PySem PySem.Spec PyProof.Rows L2 Dt
abbrev sEqu : Stmt := topS 31
abbrev nEqu : List Str := ["ways", "bad", "rows", "number", "at", "after", "row", "other"]
theorem scEqu : FnScope nEqu ["ways"] (defScope sEqu) := ⟨rfl, rfl, rfl, by decide +kernel, rfl, by decide +kernel, by decide +kernel⟩
abbrev sCro : Stmt := topS 32
abbrev nCro : List Str := ["rows", "at", "last", "told", "number", "row", "one", "other"]
theorem scCro : FnScope nCro ["rows", "at", "last"] (defScope sCro) := ⟨rfl, rfl, rfl, by decide +kernel, rfl, by decide +kernel, by decide +kernel⟩
def spEqu : Sp := fun vs H Q _ => ∃ (la : Addr) (ws : List (List Int)), vs = [.ref la] ∧ IsRows H la ws ∧ ws.length ≤ 100 ∧ (∀ i, (ws.getD i []).length ≤ 64) ∧
  ∀ H' l, Same H H' → H l = none → IsRows H' l (matL (badN ws).length ((badN ws).length + 1) (eqA ws)) → Q (.ref l) H'
def spCro : Sp := fun vs H Q _ => ∃ (lr : Addr) (k n m : Nat) (last : Int) (T : Nat → Nat → Int), vs = [.ref lr, .int (k : Int), .int last] ∧ IsRows H lr (matL n m T) ∧ k < n ∧ k < m ∧ n ≤ 100 ∧ m ≤ 101 ∧ 0 < last ∧ last.natAbs < 2 ^ 400 ∧ (∀ i j, (T i j).natAbs < 2 ^ 400) ∧
  ∀ H' l, Same H H' → H l = none → IsRows H' l (matL n m fun i j => if i = k then T i j else (T k k * T i j - T i k * T k j) / last) → Q (.ref l) H'
structure TxtEqu (mg : Str → Option Value) : Prop where
  m_enumerate : mg "enumerate" = none
  m_len : mg "len" = none
structure TxtCro (mg : Str → Option Value) : Prop where
  m_enumerate : mg "enumerate" = none
  m_zip : mg "zip" = none
section
variable {P : Program} {w : World} {K : PySem.W.Frag} {mg : Str → Option Value} {base : Heap}
theorem ok_equ {f : Addr} {fd : FuncData} {k : Nat} (F : Fun K "equations" "equations" sEqu f fd) (T : TxtEqu mg) : FnOk P w K mg base CX0 (k + 1) f fd ["ways"] spEqu := by
  refine F.ok scEqu (fun vs H Q E h => ?_) (fun cdv A outer s H vs Q E hr h => ?_)
  · obtain ⟨la, ws, rfl, _⟩ := h
    rfl
  · obtain ⟨la, ws, rfl, hw, wl, rl, q⟩ := h
    refine ⟨_, (pss_cons (ps_setLc (i := 1) (g := gTup K 2 (gCons (gName 4) (gCons (gName 5) gNil))) (tt := fun σ H Q => tVar 5 σ H fun x H' => ∃ k, TruV K x H' k ∧ Q k H') (te := tVar 4) (own := [("at", 4), ("after", 5)]) rfl scEqu.nd rfl rfl (sw_true rfl rfl rfl (by decide +kernel)) (pi_enum (by rfl) T.m_enumerate (pa_cons (pv 0) pa_nil)) (blkOk_by (own := [("at", 4), ("after", 5)]) (N := nEqu) (sc := defScope sEqu) (by decide +kernel))
   (fun _ _ _ _ _ => (pg_tup rfl (pgs_cons (pg_name (i := 4) scEqu.nd rfl (Or.inl rfl)) (pgs_cons (pg_name (i := 5) scEqu.nd rfl (Or.inl rfl)) pgs_nil)))) (fun _ _ _ _ _ => pts_one (pt_truth (pv 5) (by intro _; rfl))) (fun _ _ _ _ _ => (pv 4)))
  (pss_cons (ps_set (i := 2) scEqu.nd rfl (Or.inl rfl) (pe_lst pa_nil))
  (pss_cons (ps_for PassesOwn.never rfl (pi_enum (by rfl) T.m_enumerate (pa_cons (pv 1) pa_nil)) (pg_tup rfl (pgs_cons (pg_name (i := 3) scEqu.nd rfl (Or.inl rfl)) (pgs_cons (pg_name (i := 4) scEqu.nd rfl (Or.inl rfl)) pgs_nil)))
  (pss_cons (ps_set (i := 5) scEqu.nd rfl (Or.inr rfl) (pe_ix ix_list (pv 0) (pv 4) (fun _ _ => rfl)))
  (pss_cons (ps_set (i := 6) scEqu.nd rfl (Or.inl rfl) (pe_op op_cat (pe_lc (te := tUn (rU fun i => .int (-i)) (tBM K "list" (rCntI K) (tVar 5) (tCons (tVar 7) tNil))) (own := [("other", 7)]) rfl scEqu.nd  (pi_list (pv 1)) (blkOk_by (own := [("other", 7)]) (N := nEqu) (sc := defScope sEqu) (by decide +kernel))
   (fun _ _ _ _ _ => (pg_name (i := 7) scEqu.nd rfl (Or.inl rfl))) (fun _ _ _ _ _ => pts_nil) (fun _ _ _ _ _ => (pe_un un_neg (pe_bm PySem.F.plainAttrs_list PySem.F.slot_list_count PySem.F.type_list_count mt_lcount (pv 5) (pa_cons (pv 7) pa_nil))))) (pe_lst (pa_cons (pe_callB call_len_seq (by rfl) T.m_len (by decide +kernel) (pa_cons (pv 5) pa_nil)) pa_nil))))
  (pss_cons (ps_augS (pv 6) (pv 3) Cp.pget_list (pe_callB call_len_seq (by rfl) T.m_len (by decide +kernel) (pa_cons (pv 5) pa_nil)) ip_add set_list)
  (pss_one (ps_expr (pe_bm PySem.F.plainAttrs_list PySem.F.slot_list_append PySem.F.type_list_append mt_append (pv 2) (pa_cons (pv 6) pa_nil))))))))
  (pss_one (ps_ret (pv 2)))))), ?_⟩
    obtain ⟨das, hla, pd⟩ := hw
    have dl := pairedLen pd
    have wsAt : ∀ {i : Nat} {r : List Int}, ws[i]? = some r → ws.getD i [] = r := fun {i r} e => by rw [List.getD_eq_getElem?_getD, e]; rfl
    refine ⟨.ref la, rfl, la, _, rfl, .inl (.inl hla), fun B nB => ?_⟩
    refine lc_enumL (K := K) (tt := fun σ H Q => tVar 5 σ H fun x H' => ∃ k, TruV K x H' k ∧ Q k H') (a := la) (xs := das.map V.ref) (fun i H3 => Same H H3 ∧ H3 B = some (.lst ((((List.range i).filter fun i => decide (ws.getD i [] ≠ [])).map fun i : Nat => (i : Int)).map V.int))) ⟨same_upd nB, upd_same⟩ (fun i H3 _ p => .inl (.inl (p.1 _ _ hla))) (fun i x H3 T hx p nT => ?_) (fun H3 p => ?_)
    · obtain ⟨d, ed, rfl⟩ := map_get hx
      obtain ⟨row, erow, hd⟩ := pairedGetL pd ed
      obtain ⟨s3, hB⟩ := p
      have sT := same_upd (o := .tup [.int (i : Nat), .ref d]) nT
      have il := (List.getElem?_eq_some_iff.mp erow).1
      refine ⟨T, [.int (i : Nat), .ref d], rfl, .inl (.inl upd_same), rfl, .int (i : Nat), [.ref d], rfl, .ref d, [], rfl, rfl, rfl, ?_⟩
      refine ⟨.ref d, rfl, _, .inl ⟨_, .inl (.inl (sT _ _ (s3 _ _ hd))), rfl⟩, ?_⟩
      have es : (List.range (i + 1)).filter (fun i => decide (ws.getD i [] ≠ [])) = (List.range i).filter (fun i => decide (ws.getD i [] ≠ [])) ++ [i].filter (fun i => decide (ws.getD i [] ≠ [])) := by rw [List.range_succ, List.filter_append]
      have fl := List.length_filter_le (fun i => decide (ws.getD i [] ≠ [])) (List.range i)
      rw [List.length_range] at fl
      by_cases c : row = []
      · subst c
        have e0 : ¬ ws.getD i [] ≠ [] := fun z => z (wsAt erow)
        rw [List.filter_cons, decide_eq_false e0] at es
        refine iteF ⟨s3.trans sT, ?_⟩
        rw [es]
        show _ = some (HO.lst (((_ ++ []).map _).map _))
        rw [List.append_nil]
        exact sT _ _ hB
      · have e0 : ws.getD i [] ≠ [] := by rw [wsAt erow]; exact c
        rw [List.filter_cons, decide_eq_true e0] at es
        have ne : (!(row.map V.int).isEmpty) = true := by
          cases row with
          | nil => exact absurd rfl c
          | cons _ _ => rfl
        rw [ne]
        refine iteT ⟨.int (i : Nat), rfl, _, sT _ _ hB, ?_, same_put (s3.trans sT) nB, ?_⟩
        · rw [List.length_map, List.length_map]
          exact small1000 (by omega)
        · rw [upd_same, es, List.map_append, List.map_append]
          rfl
    obtain ⟨s3, hB⟩ := p
    rw [List.length_map, dl] at hB
    have hB : H3 B = some (.lst (((badN ws).map fun i : Nat => (i : Int)).map V.int)) := hB
    have bl := badN_le ws
    refine ⟨(by show 0 ≤ sizeLine; decide), fun R nR => ?_⟩
    have nB0 : ∀ {b : Addr}, H3 b = none → H b = none := fun {b} n => s3.free n
    have s4 := s3.trans (same_upd (o := .lst []) nR)
    have hB4 := (same_upd (o := .lst []) nR) _ _ hB
    have hR4 : upd H3 R (.lst []) R = some (.lst []) := upd_same
    generalize upd H3 R (.lst []) = H4 at s4 hB4 hR4
    have nBR : B ≠ R := fun z => by rw [z] at hB; rw [hB] at nR; cases nR
    refine ⟨.ref B, rfl, B, _, rfl, .inl (.inl hB4), ?_⟩
    refine for_enumL (K := K) (a := B) (xs := ((badN ws).map fun i : Nat => (i : Int)).map V.int) (fun i σ H5 => Same H H5 ∧ H5 B = some (.lst (((badN ws).map fun i : Nat => (i : Int)).map V.int)) ∧ (∃ rs : List Addr, H5 R = some (.lst (rs.map V.ref)) ∧ Paired (IsInts H5) rs ((List.range i).map fun j => (List.range ((badN ws).length + 1)).map (eqA ws j)) ∧ R ∉ rs) ∧ ∃ y3 y4 y5 y6, σ = [some (.ref la), some (.ref B), some (.ref R), y3, y4, y5, y6, none]) ⟨s4, hB4, ⟨[], hR4, .nil, List.not_mem_nil⟩, none, none, none, none, rfl⟩ (fun i σ H5 _ p => .inl (.inl p.2.1)) (fun i x σ H5 T hx p nT => ?_) (fun σ H5 p => ?_)
    · obtain ⟨bi, eb0, rfl⟩ := map_get hx
      obtain ⟨b, eb, rfl⟩ : ∃ b : Nat, (badN ws)[i]? = some b ∧ bi = (b : Int) := by
        rw [List.getElem?_map] at eb0
        obtain ⟨b, eb, e2⟩ := Option.map_eq_some_iff.mp eb0
        exact ⟨b, eb, e2.symm⟩
      obtain ⟨s5, hB5, ⟨rs, hR5, pr, nr⟩, y3, y4, y5, y6, rfl⟩ := p
      have il := (List.getElem?_eq_some_iff.mp eb).1
      have bD : (badN ws).getD i 0 = b := by rw [List.getD_eq_getElem?_getD, eb]; rfl
      have bw := (badN_at il).1
      rw [bD] at bw
      have erow : ws[b]? = some (ws.getD b []) := by rw [List.getD_eq_getElem?_getD, List.getElem?_eq_getElem bw]; rfl
      obtain ⟨d, ed, hd⟩ := pairedGet pd erow
      have rlen := rl b
      have er := eq_row (row := ws.getD b []) il (by rw [bD])
      rw [bD] at er
      generalize ws.getD b [] = row at hd rlen er
      have sT := same_upd (o := .tup [.int (i : Nat), .int (b : Nat)]) nT
      have s6 := s5.trans sT
      have hB6 := sT _ _ hB5
      have hR6 := sT _ _ hR5
      have pr6 := pairedMap (fun _ _ e => sT _ _ e) pr
      refine ⟨T, [.int (i : Nat), .int (b : Nat)], rfl, .inl (.inl upd_same), rfl, .int (i : Nat), [.int (b : Nat)], rfl, .int (b : Nat), [], rfl, rfl, ?_⟩
      generalize upd H5 T (.tup [.int (i : Nat), .int (b : Nat)]) = H6 at s6 hB6 hR6 pr6
      clear sT hB5 hR5 pr s5 nT H5
      have hd6 := s6 _ _ hd
      refine ⟨.ref la, rfl, .int (b : Nat), rfl, la, _, _, .ref d, rfl, rfl, .inl (.inl (s6 _ _ hla)), atI_nat (map_at ed), ?_⟩
      refine ⟨.ref B, rfl, B, rfl, ⟨_, .inl (.inl hB6)⟩, fun D nD => ?_⟩
      have nD0 := s6.free nD
      refine lc_list (K := K) (a := B) (xs := ((badN ws).map fun i : Nat => (i : Int)).map V.int) (fun j H7 => Same H6 H7 ∧ H7 D = some (.lst (((((badN ws).take j).map fun o : Nat => -((row.count (o : Int) : Nat) : Int))).map V.int))) ⟨same_upd nD, upd_same⟩ (fun j H7 _ p => .inl (.inl (p.1 _ _ hB6))) (fun j x H7 hx p => ?_) (fun H7 p => ?_)
      · obtain ⟨oi, eo0, rfl⟩ := map_get hx
        obtain ⟨o, eo, rfl⟩ : ∃ o : Nat, (badN ws)[j]? = some o ∧ oi = (o : Int) := by
          rw [List.getElem?_map] at eo0
          obtain ⟨o, eo, e2⟩ := Option.map_eq_some_iff.mp eo0
          exact ⟨o, eo, e2.symm⟩
        obtain ⟨s7, hD⟩ := p
        have jl := (List.getElem?_eq_some_iff.mp eo).1
        refine ⟨rfl, yes_if ⟨.ref d, rfl, .inl ⟨rfl, _, .inl (.inl (s7 _ _ hd6))⟩, .int (o : Nat), rfl, d, row, (o : Nat), rfl, rfl, .inl (.inl (s7 _ _ hd6)), _, rfl, _, hD, ?_, same_put s7 nD, ?_⟩⟩
        · rw [List.length_map, List.length_map, List.length_take]
          exact small1000 (by omega)
        · rw [upd_same, take_snoc eo, List.map_append, List.map_append]
          rfl
      obtain ⟨s7, hD⟩ := p
      rw [List.length_map, List.length_map, List.take_length] at hD
      have hd7 := s7 _ _ hd6
      refine ⟨.ref d, rfl, d, _, rfl, .inl (.inl (.inl hd7)), ?_⟩
      rw [List.length_map]
      refine ⟨(by show 1 ≤ sizeLine; decide), fun p1 np1 => ?_⟩
      have s8 := s7.trans (same_upd (o := .lst [.int (row.length : Nat)]) np1)
      refine ⟨D, p1, _, _, rfl, rfl, (same_upd np1) _ _ hD, upd_same, ?_, fun p2 np2 => ?_⟩
      · rw [List.length_map, List.length_map, List.length_singleton]
        exact Nat.le_of_lt (small1000 (by omega))
      have s9 := s8.trans (same_upd (o := .lst (((((badN ws).map fun o : Nat => -((row.count (o : Int) : Nat) : Int))).map V.int) ++ [.int (row.length : Nat)])) np2)
      have np26 := s8.free np2
      have h2 : upd (upd H7 p1 (.lst [.int (row.length : Nat)])) p2 (.lst (((((badN ws).map fun o : Nat => -((row.count (o : Int) : Nat) : Int))).map V.int) ++ [.int (row.length : Nat)])) p2 = some (.lst ((((badN ws).map fun o : Nat => -((row.count (o : Int) : Nat) : Int)) ++ [(row.length : Int)]).map V.int)) := by
        rw [upd_same, List.map_append]
        rfl
      generalize upd (upd H7 p1 (.lst [.int (row.length : Nat)])) p2 (.lst (((((badN ws).map fun o : Nat => -((row.count (o : Int) : Nat) : Int))).map V.int) ++ [.int (row.length : Nat)])) = H9 at s9 h2
      clear s8 np1 np2 s7 hD hd7 H7
      have g1 : ((((badN ws).map fun o : Nat => -((row.count (o : Int) : Nat) : Int)) ++ [(row.length : Int)]).map V.int)[i]? = some (.int (-((row.count (b : Int) : Nat) : Int))) := by
        rw [List.getElem?_map, List.getElem?_append_left (by rw [List.length_map]; exact il), List.getElem?_map, eb]
        rfl
      refine ⟨.ref p2, rfl, .int (i : Nat), rfl, p2, _, i, .int (-((row.count (b : Int) : Nat) : Int)), rfl, rfl, .inl (.inl h2), g1, .ref d, rfl, d, _, rfl, .inl (.inl (.inl (s9 _ _ hd6))), ?_⟩
      rw [List.length_map]
      refine ⟨_, _, rfl, rfl, p2, _, (i : Nat), i, rfl, rfl, h2, ?_, ?_⟩
      · rw [List.length_map, List.length_append, List.length_map]
        exact ix_nat (by omega)
      rw [← List.map_set, er]
      have nR0 := s3.free nR
      have hR9 := s9 _ _ hR6
      have np2R : p2 ≠ R := fun z => by rw [z, hR6] at np26; cases np26
      have np2B : p2 ≠ B := fun z => by rw [z, hB6] at np26; cases np26
      have k10 : ∀ b o, b ≠ p2 → H9 b = some o → upd H9 p2 (.lst (((List.range ((badN ws).length + 1)).map (eqA ws i)).map V.int)) b = some o := fun b o n e => by rw [upd_ne n]; exact e
      have hp10 : upd H9 p2 (.lst (((List.range ((badN ws).length + 1)).map (eqA ws i)).map V.int)) p2 = some (.lst (((List.range ((badN ws).length + 1)).map (eqA ws i)).map V.int)) := upd_same
      have s10 : Same H (upd H9 p2 (.lst (((List.range ((badN ws).length + 1)).map (eqA ws i)).map V.int))) := fun b o e => k10 b o (fun z => by rw [z] at e; rw [s6 _ _ e] at np26; cases np26) (s9 _ _ (s6 _ _ e))
      have pr10 := pairedMap (G := IsInts (upd H9 p2 (.lst (((List.range ((badN ws).length + 1)).map (eqA ws i)).map V.int)))) (fun a _ e => k10 _ _ (fun z => by rw [z] at e; have e : H6 p2 = some _ := e; rw [np26] at e; cases e) (s9 _ _ e)) pr6
      have hR10 := k10 _ _ (Ne.symm np2R) hR9
      have hB10 := k10 _ _ (Ne.symm np2B) (s9 _ _ hB6)
      generalize upd H9 p2 (.lst (((List.range ((badN ws).length + 1)).map (eqA ws i)).map V.int)) = H10 at hp10 s10 pr10 hR10 hB10
      have rsl := pairedLen pr6
      rw [List.length_map, List.length_range] at rsl
      refine ⟨.ref R, rfl, .inl ⟨rfl, _, .inl (.inl hR10)⟩, .ref p2, rfl, R, _, _, rfl, rfl, hR10, ?_, same_put s10 nR0, ?_, ⟨rs ++ [p2], ?_, ?_, fun z => ?_⟩, _, _, _, _, rfl⟩
      · rw [List.length_map, rsl]
        exact small1000 (by omega)
      · rw [upd_ne nBR]
        exact hB10
      · rw [upd_same, List.map_append]
        rfl
      · rw [show List.range (i + 1) = List.range i ++ [i] from List.range_succ, List.map_append]
        refine pairedSnoc (paired_upd pr10 fun a ha z => nr (z ▸ ha)) ?_
        show upd H10 R _ p2 = _
        rw [upd_ne np2R]
        exact hp10
      · rcases List.mem_append.mp z with y | y
        · exact nr y
        · exact np2R (List.mem_singleton.mp y).symm
    · obtain ⟨s5, _, ⟨rs, hR, pr, _⟩, y3, y4, y5, y6, rfl⟩ := p
      rw [List.length_map, List.length_map] at pr
      exact ⟨.ref R, rfl, q H5 R s5 (s3.free nR) ⟨rs, hR, pr⟩⟩
theorem ok_cro {f : Addr} {fd : FuncData} {k : Nat} (F : Fun K "crossed_out" "crossed_out" sCro f fd) (T : TxtCro mg) : FnOk P w K mg base CX0 (k + 1) f fd ["rows", "at", "last"] spCro := by
  refine F.ok scCro (fun vs H Q E h => ?_) (fun cdv A outer s H vs Q E hr h => ?_)
  · obtain ⟨lr, k, n, m, last, T', rfl, _⟩ := h
    rfl
  · obtain ⟨lr, k, n, m, last, T', rfl, hw, kn, km, n100, m101, l0, l1, tl, q⟩ := h
    refine ⟨_, (pss_cons (ps_set (i := 3) scCro.nd rfl (Or.inl rfl) (pe_lst pa_nil))
  (pss_cons (ps_for PassesOwn.never rfl (pi_enum (by rfl) T.m_enumerate (pa_cons (pv 0) pa_nil)) (pg_tup rfl (pgs_cons (pg_name (i := 4) scCro.nd rfl (Or.inl rfl)) (pgs_cons (pg_name (i := 5) scCro.nd rfl (Or.inr rfl)) pgs_nil)))
  (pss_one (ps_if (pt_cmpR op_eq (pv 4) (pv 1) (nomark _))
  (pss_one (ps_expr (pe_bm PySem.F.plainAttrs_list PySem.F.slot_list_append PySem.F.type_list_append mt_append (pv 3) (pa_cons (pv 5) pa_nil)))) (pss_one (ps_expr (pe_bm PySem.F.plainAttrs_list PySem.F.slot_list_append PySem.F.type_list_append mt_append (pv 3) (pa_cons (pe_lc (g := gTup K 2 (gCons (gName 6) (gCons (gName 7) gNil))) (te := tOp (rI CDivW fun i j => .int (i / j)) (tOp (rI0 fun i j => .int (i - j)) (tOp (rI CMulW fun i j => .int (i * j)) (tOp (rIxL K) (tOp (rIxL K) (tVar 0) (tVar 1)) (tVar 1)) (tVar 6)) (tOp (rI CMulW fun i j => .int (i * j)) (tOp (rIxL K) (tVar 5) (tVar 1)) (tVar 7))) (tVar 2)) (own := [("one", 6), ("other", 7)]) rfl scCro.nd  (RZ.pi_zipA (by rfl) T.m_zip (pa_cons (pv 5) (pa_cons (pe_ix ix_list (pv 0) (pv 1) (fun _ _ => rfl)) pa_nil))) (blkOk_by (own := [("one", 6), ("other", 7)]) (N := nCro) (sc := defScope sCro) (by decide +kernel))
   (fun _ _ _ _ _ => (pg_tup rfl (pgs_cons (pg_name (i := 6) scCro.nd rfl (Or.inl rfl)) (pgs_cons (pg_name (i := 7) scCro.nd rfl (Or.inl rfl)) pgs_nil)))) (fun _ _ _ _ _ => pts_nil) (fun _ _ _ _ _ => (pe_op op_fdivW (pe_op op_sub (pe_op op_mulW (pe_ix ix_list (pe_ix ix_list (pv 0) (pv 1) (fun _ _ => rfl)) (pv 1) (fun _ _ => rfl)) (pv 6)) (pe_op op_mulW (pe_ix ix_list (pv 5) (pv 1) (fun _ _ => rfl)) (pv 7))) (pv 2)))) pa_nil)))))))
  (pss_one (ps_ret (pv 3))))), ?_⟩
    obtain ⟨das, hlr, pd⟩ := hw
    have dl := pairedLen pd
    rw [mat_len] at dl
    refine ⟨(by show 0 ≤ sizeLine; decide), fun D nD => ?_⟩
    have s1 := same_upd (o := .lst []) nD
    have hD1 : upd H D (.lst []) D = some (.lst []) := upd_same
    generalize upd H D (.lst []) = H1 at s1 hD1
    refine ⟨.ref lr, rfl, lr, _, rfl, .inl (.inl (s1 _ _ hlr)), ?_⟩
    refine for_enumL (K := K) (a := lr) (xs := das.map V.ref) (fun i σ H3 => Same H H3 ∧ (∃ ts : List Addr, H3 D = some (.lst (ts.map V.ref)) ∧ Paired (IsInts H3) ts ((List.range i).map fun i => (List.range m).map fun j => if i = k then T' i j else (T' k k * T' i j - T' i k * T' k j) / last) ∧ D ∉ ts) ∧ ∃ y4 y5, σ = [some (.ref lr), some (.int (k : Int)), some (.int last), some (.ref D), y4, y5, none, none]) ⟨s1, ⟨[], hD1, .nil, List.not_mem_nil⟩, none, none, rfl⟩ (fun i σ H3 _ p => .inl (.inl (p.1 _ _ hlr))) (fun i x σ H3 T hx pp nT => ?_) (fun σ H3 p => ?_)
    · obtain ⟨d, ed, rfl⟩ := map_get hx
      obtain ⟨row, erow, hd⟩ := pairedGetL pd ed
      have il : i < n := by rw [← dl]; exact (List.getElem?_eq_some_iff.mp ed).1
      rw [mat_get il] at erow
      have erow := Option.some.inj erow
      subst erow
      obtain ⟨s3, ⟨ts, hD3, pt, nd⟩, y4, y5, rfl⟩ := pp
      have sT := same_upd (o := .tup [.int (i : Nat), .ref d]) nT
      have s4 := s3.trans sT
      have hD4 := sT _ _ hD3
      have pt4 := pairedMap (fun _ _ e => sT _ _ e) pt
      refine ⟨T, [.int (i : Nat), .ref d], rfl, .inl (.inl upd_same), rfl, .int (i : Nat), [.ref d], rfl, .ref d, [], rfl, rfl, ?_⟩
      generalize upd H3 T (.tup [.int (i : Nat), .ref d]) = H4 at s4 hD4 pt4
      clear sT hD3 pt s3 nT H3
      have tl4 := pairedLen pt4
      rw [List.length_map, List.length_range] at tl4
      have rr : (List.range (i + 1)).map (fun i => (List.range m).map fun j => if i = k then T' i j else (T' k k * T' i j - T' i k * T' k j) / last) = (List.range i).map (fun i => (List.range m).map fun j => if i = k then T' i j else (T' k k * T' i j - T' i k * T' k j) / last) ++ [(List.range m).map fun j => if i = k then T' i j else (T' k k * T' i j - T' i k * T' k j) / last] := by rw [show List.range (i + 1) = List.range i ++ [i] from List.range_succ, List.map_append]; rfl
      refine ⟨.int (i : Nat), rfl, .int (k : Int), rfl, rfl, _, rfl, ?_⟩
      by_cases c : i = k
      · subst c
        rw [decide_eq_true rfl]
        refine iteT ⟨.ref D, rfl, .inl ⟨rfl, _, .inl (.inl hD4)⟩, .ref d, rfl, D, _, _, rfl, rfl, hD4, ?_, same_put s4 nD, ⟨ts ++ [d], ?_, ?_, fun z => ?_⟩, _, _, rfl⟩
        · rw [List.length_map, tl4]
          exact small1000 (by omega)
        · rw [upd_same, List.map_append]
          rfl
        · rw [rr]
          have ndD : d ≠ D := fun z => by rw [z] at hd; have hd : H D = some _ := hd; rw [nD] at hd; cases hd
          refine pairedSnoc (paired_upd pt4 fun a ha z => nd (z ▸ ha)) ?_
          show upd H4 D _ d = _
          rw [upd_ne ndD, s4 _ _ hd]
          congr 3
          exact List.map_congr_left fun j _ => (if_pos rfl).symm
        · rcases List.mem_append.mp z with y | y
          · exact nd y
          · have z : D = d := List.mem_singleton.mp y
            rw [← z] at hd
            have hd : H D = some _ := hd
            rw [nD] at hd
            cases hd
      · rw [decide_eq_false (fun z => c (by have := V.int.inj z; omega))]
        have gk : das[k]? ≠ none := fun z => by
          have := List.getElem?_eq_none_iff.mp z
          omega
        obtain ⟨dk, edk⟩ := Option.ne_none_iff_exists'.mp gk
        obtain ⟨rowk, erk, hdk⟩ := pairedGetL pd edk
        rw [mat_get kn] at erk
        have erk := Option.some.inj erk
        subst erk
        refine iteF ⟨.ref D, rfl, .inl ⟨rfl, _, .inl (.inl hD4)⟩, .ref d, rfl, .ref lr, rfl, .int (k : Int), rfl, lr, _, _, .ref dk, rfl, rfl, .inl (.inl (s4 _ _ hlr)), atI_nat (map_at edk), d, dk, _, _, rfl, .inl ⟨.inl (.inl (s4 _ _ hd)), .inl (.inl (s4 _ _ hdk)), fun L nL => ?_⟩⟩
        have lm : ∀ φ : Nat → Int, (((List.range m).map φ).map V.int).length = m := fun φ => by rw [List.length_map, List.length_map, List.length_range]
        refine lc_zipL (K := K) (by rw [lm, lm]) (fun j H5 => Same H4 H5 ∧ H5 L = some (.lst (((List.range j).map fun j => (T' k k * T' i j - T' i k * T' k j) / last).map V.int))) ⟨same_upd nL, upd_same⟩ (fun j H5 p => ⟨.inl (.inl (p.1 _ _ (s4 _ _ hd))), .inl (.inl (p.1 _ _ (s4 _ _ hdk)))⟩) (fun j xv yv Tt H5 hx hy p nT => ?_) (fun H5 p => ?_)
        · have jm : j < m := by
            have := (List.getElem?_eq_some_iff.mp hx).1
            rw [lm] at this
            exact this
          have gx : ∀ {φ : Nat → Int} {q : Nat}, q < m → (((List.range m).map φ).map V.int)[q]? = some (.int (φ q)) := fun {φ q} hq => by
            rw [List.getElem?_map, List.getElem?_map, List.getElem?_range hq]
            rfl
          rw [gx jm] at hx hy
          cases hx
          cases hy
          obtain ⟨s5, hL⟩ := p
          have sT := same_upd (o := .tup [.int (T' i j), .int (T' k j)]) nT
          have s6 := s4.trans (s5.trans sT)
          have small : ∀ a b, (T' a b).natAbs.log2 < 400 := fun a b => by
            by_cases z : (T' a b).natAbs = 0
            · rw [z]; decide
            · exact (Nat.log2_lt z).mpr (tl a b)
          have mulW : ∀ a b c d, CMulW (T' a b) (T' c d) := fun a b c d => by
            have := small a b
            have := small c d
            show _ + _ < 1000000
            omega
          have l9 : last.natAbs.log2 < 9000 := by
            have z : last.natAbs ≠ 0 := by omega
            have := (Nat.log2_lt z).mpr l1
            omega
          refine ⟨Tt, [.int (T' i j), .int (T' k j)], rfl, .inl (.inl upd_same), rfl, .int (T' i j), [.int (T' k j)], rfl, .int (T' k j), [], rfl, rfl, rfl, yes_if ?_⟩
          refine ⟨.ref lr, rfl, .int (k : Int), rfl, lr, _, _, .ref dk, rfl, rfl, .inl (.inl (s6 _ _ hlr)), atI_nat (map_at edk), .int (k : Int), rfl, dk, _, _, .int (T' k k), rfl, rfl, .inl (.inl (s6 _ _ hdk)), atI_nat (gx km), .int (T' i j), rfl, _, _, rfl, rfl, mulW _ _ _ _, .ref d, rfl, .int (k : Int), rfl, d, _, _, .int (T' i k), rfl, rfl, .inl (.inl (s6 _ _ hd)), atI_nat (gx km), .int (T' k j), rfl, _, _, rfl, rfl, mulW _ _ _ _, _, _, rfl, rfl, .int last, rfl, _, _, rfl, rfl, ⟨l0, l9⟩, _, sT _ _ hL, ?_, same_put (s5.trans sT) nL, ?_⟩
          · rw [List.length_map, List.length_map, List.length_range]
            exact small1000 (by omega)
          · rw [upd_same, show List.range (j + 1) = List.range j ++ [j] from List.range_succ, List.map_append, List.map_append]
            rfl
        · obtain ⟨s5, hL⟩ := p
          rw [lm] at hL
          have nL0 := s4.free nL
          have nDL : L ≠ D := fun z => by rw [z, hD4] at nL; cases nL
          have s6 := s4.trans s5
          refine ⟨D, _, _, rfl, rfl, s5 _ _ hD4, ?_, same_put s6 nD, ⟨ts ++ [L], ?_, ?_, fun z => ?_⟩, _, _, rfl⟩
          · rw [List.length_map, tl4]
            exact small1000 (by omega)
          · rw [upd_same, List.map_append]
            rfl
          · rw [rr]
            refine pairedSnoc (paired_upd (pairedMap (fun _ _ e => s5 _ _ e) pt4) fun a ha z => nd (z ▸ ha)) ?_
            show upd H5 D _ L = _
            rw [upd_ne nDL, hL]
            congr 3
            exact List.map_congr_left fun j _ => (if_neg c).symm
          · rcases List.mem_append.mp z with y | y
            · exact nd y
            · exact nDL (List.mem_singleton.mp y).symm
    · obtain ⟨s3, ⟨ts, hD, pt, _⟩, y4, y5, rfl⟩ := p
      rw [List.length_map, dl] at pt
      exact ⟨.ref D, rfl, q H3 D s3 nD ⟨ts, hD, pt⟩⟩
end
end Rd

set_option autoImplicit false
set_option Elab.async false
set_option linter.all false
set_option maxRecDepth 100000
set_option maxHeartbeats 4000000
namespace Rd
open PySem PySem.Spec PyProof.Rows L2 Dt
abbrev sFnu : Stmt := topS 4
abbrev nFnu : List Str := ["many", "hues", "number", "place"]
theorem scFnu : FnScope nFnu ["many", "hues"] (defScope sFnu) := ⟨rfl, rfl, rfl, by decide +kernel, rfl, by decide +kernel, by decide +kernel⟩
abbrev sMean : Stmt := topS 33
abbrev nMean : List Str := ["riddle", "number", "ways", "rows", "last", "at", "row"]
theorem scMean : FnScope nMean ["riddle"] (defScope sMean) := ⟨rfl, rfl, rfl, by decide +kernel, rfl, by decide +kernel, by decide +kernel⟩
def spFnuM : Sp := fun vs H Q _ => ∃ (many hues : Int), vs = [.int many, .int hues] ∧ 0 ≤ many ∧ many ≤ 6 ∧ 0 ≤ hues ∧ hues ≤ 4 ∧ Q (.int (hues ^ many.toNat)) H
def spMea (Ps : List Addr) (D : Addr) : Sp := fun vs H Q E => ∃ (ri : Addr) (wds : List WD) (many hues : Int), vs = [.ref ri] ∧ IsRid H ri many hues wds ∧ WdsOk many hues wds ∧ Tabs Ps H ∧
  (32 < hues.toNat ^ many.toNat → E (.ref D) none H) ∧
  (hues.toNat ^ many.toNat ≤ 32 → meanL hues.toNat many.toNat wds = none → ∀ H', FrS Ps H H' → Q .non H') ∧
  (hues.toNat ^ many.toNat ≤ 32 → ∀ ab, meanL hues.toNat many.toNat wds = some ab → ∀ H' t, FrS Ps H H' → H t = none → IsPr H' t ab → Q (.ref t) H')
structure TxtFnM (mg : Str → Option Value) : Prop where
  m_range : mg "range" = none
structure TxtMea (P : Program) (w : World) (K : PySem.W.Frag) (mg : Str → Option Value) (base : Heap) (Ps : List Addr) (D : Addr) : Prop extends Cls1 K D where
  m_len : mg "len" = none
  m_range : mg "range" = none
  m_sum : mg "sum" = none
  g_MOST_FILLINGS_OF_A_MEAN : ∃ u, mg "MOST_FILLINGS_OF_A_MEAN" = some u ∧ RelV (.int 32) u
  g_TooMany : mg "TooMany" = some (.ref D)
  c_fillings_number : Cal P w K mg base 1 "fillings_number" ["many", "hues"] spFnuM
  c_ways_on : Cal P w K mg base 7 "ways_on" ["riddle"] (spWay Ps)
  c_equations : Cal P w K mg base 1 "equations" ["ways"] spEqu
  c_crossed_out : Cal P w K mg base 1 "crossed_out" ["rows", "at", "last"] spCro
  c_lowest : Cal P w K mg base 2 "lowest" ["above", "below"] spLow
theorem pow_bdM {h : Int} (h0 : 0 ≤ h) (h4 : h ≤ 4) {i : Nat} (hi : i ≤ 6) : 0 ≤ h ^ i ∧ h ^ i ≤ 4096 := by
  obtain ⟨n, rfl⟩ : ∃ n : Nat, h = (n : Int) := ⟨h.toNat, by omega⟩
  rw [← Int.natCast_pow]
  have p := Nat.pow_le_pow_left (show n ≤ 4 by omega) i
  have q := Nat.pow_le_pow_right (show 0 < 4 by decide) hi
  have : (4 : Nat) ^ 6 = 4096 := rfl
  omega
theorem sum_nonnegM : ∀ {l : List Int}, (∀ x ∈ l, 0 ≤ x) → 0 ≤ l.sum
  | [], _ => Int.le_refl 0
  | x :: r, h => by
    have a := h x List.mem_cons_self
    have b := sum_nonnegM (l := r) fun y hy => h y (List.mem_cons_of_mem _ hy)
    rw [List.sum_cons]
    omega
theorem way_le64 {many hues : Int} {wds : List WD} (g : WdsOk many hues wds) (i : Nat) : ((waysL hues.toNat many.toNat wds).getD i []).length ≤ 64 := by
  have h4 := g.good.h4
  have h2 := g.good.h2
  by_cases hi : i < (fillL hues.toNat many.toNat).length
  · rw [way_get hi, List.length_map]
    obtain ⟨s, s3, _, e, _⟩ := th_len g (f := (fillL hues.toNat many.toNat)[i])
    unfold thL at e
    have p64 : hues.toNat ^ s ≤ 4 ^ 3 := Nat.le_trans (Nat.pow_le_pow_left (by omega) _) (Nat.pow_le_pow_right (by decide) s3)
    split at e
    · rename_i z
      rw [z]; exact Nat.zero_le _
    · have : (4 : Nat) ^ 3 = 64 := rfl
      omega
  · rw [List.getD_eq_getElem?_getD, List.getElem?_eq_none_iff.mpr (by rw [way_len]; omega)]
    exact Nat.zero_le _
theorem way_any {hues n : Nat} {wds : List WD} : ((waysL hues n wds).any fun l => decide (l = [])) = keptB hues n wds := by
  unfold waysL keptB
  rw [List.any_map]
  congr 1
  funext f
  show decide ((mendsL hues wds f).map _ = []) = _
  exact decide_eq_decide.mpr List.map_eq_nil_iff
theorem atI_lastM {xs : List V} {v : V} (h : xs[xs.length - 1]? = some v) : atI xs (-1) = some v := by
  have l := (List.getElem?_eq_some_iff.mp h).1
  have ne : xs ≠ [] := fun z => by rw [z] at l; exact absurd l (Nat.not_lt_zero _)
  have e := List.dropLast_concat_getLast ne
  have e2 : xs.getLast ne = v := by
    have := List.getLast?_eq_getElem? (l := xs)
    rw [h, List.getLast?_eq_some_getLast ne] at this
    exact Option.some.inj this
  rw [e2] at e
  rw [← e]
  exact L2.atI_last _ _
section
variable {P : Program} {w : World} {K : PySem.W.Frag} {mg : Str → Option Value} {base : Heap}
theorem ok_fnuM {f : Addr} {fd : FuncData} {k : Nat} (F : Fun K "fillings_number" "fillings_number" sFnu f fd) (T : TxtFnM mg) : FnOk P w K mg base CX0 (k + 1) f fd ["many", "hues"] spFnuM := by
  refine F.ok scFnu (fun vs H Q E h => ?_) (fun cdv A outer s H vs Q E hr h => ?_)
  · obtain ⟨many, hues, rfl, _⟩ := h
    rfl
  · obtain ⟨m, n, rfl, m0, m6, h0, h4, q⟩ := h
    refine ⟨_, (pss_cons (ps_set (i := 2) scFnu.nd rfl (Or.inl rfl) pe_int)
  (pss_cons (ps_for PassesOwn.never rfl (pi_range1 (by rfl) T.m_range (pa_cons (pv 0) pa_nil)) (pg_name (i := 3) scFnu.nd rfl (Or.inl rfl))
  (pss_one (ps_aug (i := 2) scFnu.nd rfl (Or.inl rfl) (pv 1) ip_mul)))
  (pss_one (ps_ret (pv 2))))), ?_⟩
    refine ⟨.int m, rfl, m, rfl, by omega, by omega, for_range (lo := 0) (n := m.toNat) (fun i σ H3 => H3 = H ∧ ∃ y3, σ = [some (.int m), some (.int n), some (.int (n ^ i)), y3]) ⟨rfl, none, by rw [Int.pow_zero]; rfl⟩ (fun i σ H3 hi p => ?_) (fun σ H3 p => ?_)⟩
    · obtain ⟨rfl, y3, rfl⟩ := p
      have b := pow_bdM h0 h4 (i := i) (by omega)
      exact ⟨_, rfl, _, rfl, n ^ i, n, rfl, rfl, .inl ⟨by omega, by omega⟩, rfl, _, by rw [Int.pow_succ]; rfl⟩
    · obtain ⟨rfl, y3, rfl⟩ := p
      exact ⟨_, rfl, q⟩
set_option maxHeartbeats 16000000 in
theorem ok_mea {f c Pt D : Addr} {Ps : List Addr} {fd : FuncData} {k : Nat} (F : FunC K "mean" "mean" sMean f fd (.ref c)) (TB : GxR.TabB base mg c Pt) (hP : Pt ∈ Ps) (T : TxtMea P w K mg base Ps D) : FnOk P w K mg base (L2.CX P w) (k + 8) f fd ["riddle"] (spMea Ps D) := by
  refine F.okX scMean (fun vs H Q E h => ?_) (fun A outer s H vs Q E hr h => ?_)
  · obtain ⟨ri, wds, many, hues, rfl, _⟩ := h
    rfl
  · obtain ⟨ri, wds, many, hues, rfl, hrd, g, hT, qe, qn, qs⟩ := h
    refine ⟨_, (pss_cons (ps_set (i := 1) scMean.nd rfl (Or.inl rfl) (pe_cal T.c_fillings_number (hr.mono (by omega)) (by rfl) (pa_cons (pe_ix ix_tup (pv 0) pe_int (fun _ _ => rfl)) (pa_cons (pe_ix ix_tup (pv 0) pe_int (fun _ _ => rfl)) pa_nil))))
  (pss_cons (ps_if (pt_cmpR op_gt (pv 1) (C8.pe_gc (by rfl) T.g_MOST_FILLINGS_OF_A_MEAN) (nomark _))
  (pss_one (ps_raise rfl (takes_of rfl rfl rfl rfl) (pmk_own PySem.F.excBase_ValueError T.x T.g_TooMany T.k (raises_own T.b T.t) (by rfl)))) pss_nil)
  (pss_cons (ps_set (i := 2) scMean.nd rfl (Or.inl rfl) (pe_cal T.c_ways_on (hr.mono (by omega)) (by rfl) (pa_cons (pv 0) pa_nil)))
  (pss_cons (ps_if (pt_cmpR (op_notInL (units65 hr)) (pe_lst pa_nil) (pv 2) (by rfl))
  (pss_one (ps_ret pe_non)) pss_nil)
  (pss_cons (ps_set (i := 3) scMean.nd rfl (Or.inl rfl) (pe_cal T.c_equations (hr.mono (by omega)) (by rfl) (pa_cons (pv 2) pa_nil)))
  (pss_cons (ps_set (i := 4) scMean.nd rfl (Or.inl rfl) pe_int)
  (pss_cons (ps_for (passes_of rfl) rfl (pi_range1 (by rfl) T.m_range (pa_cons (pe_callB call_len_seq (by rfl) T.m_len (by decide +kernel) (pa_cons (pv 3) pa_nil)) pa_nil)) (pg_name (i := 5) scMean.nd rfl (Or.inl rfl))
  (pss_cons (ps_set (i := 3) scMean.nd rfl (Or.inl rfl) (pe_cal T.c_crossed_out (hr.mono (by omega)) (by rfl) (pa_cons (pv 3) (pa_cons (pv 5) (pa_cons (pv 4) pa_nil)))))
  (pss_one (ps_set (i := 4) scMean.nd rfl (Or.inl rfl) (pe_ix ix_list (pe_ix ix_list (pv 3) (pv 5) (fun _ _ => rfl)) (pv 5) (fun _ _ => rfl))))))
  (pss_one (ps_ret (pe_cal T.c_lowest (hr.mono (by omega)) (by rfl) (pa_cons (Gx.pe_sumX (own := [("row", 6)]) (te := tOp (rIxL K) (tVar 6) (tUn (rU fun i => .int (-i)) (tC (.int 1)))) hr (by rfl) T.m_sum rfl scMean.nd TB rfl (blkOk_by (own := [("row", 6)]) (N := nMean) (sc := defScope sMean) (by decide +kernel)) ⟨rfl, by decide +kernel, rfl⟩ (pi_list (pv 3))
   (fun _ _ _ _ _ _ hA => (pg_name (i := 6) scMean.nd rfl (Or.inl rfl))) (fun _ _ _ _ _ _ hA => pts_nil) (fun _ _ _ _ _ _ hA => (pe_ix ix_list (pv 6) (pe_un un_neg pe_int) (fun _ _ => rfl)))) (pa_cons (pe_op op_mul (pv 4) (pv 1)) pa_nil)))))))))))), ?_⟩
    have h2 := g.good.h2
    have h4 := g.good.h4
    have m1 := g.good.m1
    have m6 := g.good.m6
    obtain ⟨wt, was, i1, i2, i3⟩ := id hrd
    have en : hues ^ many.toNat = ((hues.toNat ^ many.toNat : Nat) : Int) := by
      rw [Int.natCast_pow]
      congr 1
      omega
    refine ⟨.ref ri, rfl, ri, _, 0, .int many, rfl, rfl, .inl (.inl i1), rfl, .ref ri, rfl, ri, _, 1, .int hues, rfl, rfl, .inl (.inl i1), rfl, many, hues, rfl, by omega, by omega, by omega, h4, ?_⟩
    rw [en]
    refine ⟨.int _, rfl, _, 32, rfl, rfl, _, rfl, ?_⟩
    by_cases c : 32 < hues.toNat ^ many.toNat
    · rw [decide_eq_true (by omega : (32 : Int) < ((hues.toNat ^ many.toNat : Nat) : Int))]
      exact iteT (qe c)
    rw [decide_eq_false (by omega : ¬ (32 : Int) < ((hues.toNat ^ many.toNat : Nat) : Int))]
    have c : hues.toNat ^ many.toNat ≤ 32 := by omega
    have qn := qn c
    have qs := qs c
    refine iteF ⟨.ref ri, rfl, ri, wds, many, hues, rfl, hrd, g, hT, fun H1 la f1 nla rws => ?_⟩
    obtain ⟨das, hla, pd⟩ := id rws
    have wl := way_len hues.toNat many.toNat wds
    rw [fill_len] at wl
    refine ⟨(by show 0 ≤ sizeLine; decide), fun e0 ne0 => ?_⟩
    have s0 := same_upd (o := .lst []) ne0
    have he0 : upd H1 e0 (.lst []) e0 = some (.lst []) := upd_same
    generalize upd H1 e0 (.lst []) = H2 at s0 he0
    refine ⟨.ref la, rfl, .list [], _, .lst (.inl (.inl he0)) .nil, .lst (.inl (.inl (s0 _ _ hla))) (dpTabs (pairedMap (fun _ _ e => s0 _ _ e) pd)), (by rfl), shaped_listsI _, _, rfl, ?_⟩
    rw [any_nil, way_any]
    have f2 := f1.same s0
    cases kb : keptB hues.toNat many.toNat wds with
    | false =>
      refine iteT ?_
      exact qn (if_neg (by rw [kb]; exact Bool.false_ne_true)) H2 f2
    | true =>
    refine iteF ?_
    have L := kept_leads g kb
    have M := L.mpp
    have qs := qs _ (if_pos kb)
    rw [meanS_sum] at qs
    have le := meanD_le g kb c
    have r64 := way_le64 g
    have tl : ∀ k, k ≤ (badN (waysL hues.toNat many.toNat wds)).length → ∀ i j, (dT (eqA (waysL hues.toNat many.toNat wds)) k i j).natAbs < 2 ^ 400 := fun k hk i j => dT_log r64 (by rw [wl]; exact c) hk i j
    have dl : ∀ k, k ≤ (badN (waysL hues.toNat many.toNat wds)).length → (dD (eqA (waysL hues.toNat many.toNat wds)) k).natAbs < 2 ^ 400 := fun k hk => by
      have z := dD_le L (B := 64) (fun i _ => r64 i) k hk
      have p := M.pos k hk
      have b := badN_le (waysL hues.toNat many.toNat wds)
      have q : (64 : Nat) ^ k ≤ 64 ^ 32 := Nat.pow_le_pow_right (by decide) (by omega)
      have q2 : (64 : Nat) ^ 32 < 2 ^ 400 := by decide
      omega
    have S0 := meanX_nonneg g kb
    have snn : 0 ≤ sm (badN (waysL hues.toNat many.toNat wds)).length fun l => dT (eqA (waysL hues.toNat many.toNat wds)) (badN (waysL hues.toNat many.toNat wds)).length l (badN (waysL hues.toNat many.toNat wds)).length := by
      rw [← meanS_sum]
      exact sum_nonnegM fun x hx => by
        obtain ⟨f, _, rfl⟩ := List.mem_map.mp hx
        exact S0 f
    have n32 := badN_le (waysL hues.toNat many.toNat wds)
    have dpos := meanD_pos g kb
    unfold meanD divN at qs le dpos
    refine ⟨.ref la, rfl, la, waysL hues.toNat many.toNat wds, rfl, ⟨das, s0 _ _ hla, pairedMap (fun _ _ e => s0 _ _ e) pd⟩, by omega, r64, fun H3 lr s3 nlr rw3 => ?_⟩
    generalize waysL hues.toNat many.toNat wds = ws at *
    generalize (badN ws).length = n at *
    have f3 := f2.same s3
    obtain ⟨rs, hlr, pr⟩ := id rw3
    have rl := pairedLen pr
    rw [mat_len] at rl
    refine ⟨.ref lr, rfl, lr, _, rfl, .inl (.inl (.inl hlr)), ?_⟩
    rw [List.length_map, rl]
    refine ⟨_, rfl, by omega, by omega, for_range (lo := 0) (n := n) (fun i σ H4 => Same H3 H4 ∧ ∃ l, IsRows H4 l (matL n (n + 1) (dT (eqA ws) i)) ∧ ∃ y5, σ = [some (.ref ri), some (.int ((hues.toNat ^ many.toNat : Nat) : Int)), some (.ref la), some (.ref l), some (.int (dD (eqA ws) i)), y5, none]) ⟨Same.refl _, lr, ?_, none, rfl⟩ (fun i σ H4 hi p => ?_) (fun σ H4 p => ?_)⟩
    · have e : matL n (n + 1) (dT (eqA ws) 0) = matL n (n + 1) (eqA ws) := by
        unfold matL
        exact List.map_congr_left fun i _ => List.map_congr_left fun j _ => dT_zero i j
      rw [e]
      exact rw3
    · obtain ⟨s4, l, rw4, y5, rfl⟩ := p
      have ez : (0 : Int) + (i : Int) = (i : Int) := Int.zero_add _
      have pi := M.pos i (by omega)
      refine ⟨.ref l, rfl, .int _, rfl, .int _, rfl, l, i, n, n + 1, dD (eqA ws) i, dT (eqA ws) i, (by rw [ez]; rfl), rw4, hi, by omega, by omega, by omega, pi, dl i (by omega), tl i (by omega), fun H5 l5 s5 nl5 rw5 => ?_⟩
      have em : matL n (n + 1) (fun i' j => if i' = i then dT (eqA ws) i i' j else (dT (eqA ws) i i i * dT (eqA ws) i i' j - dT (eqA ws) i i' i * dT (eqA ws) i i j) / dD (eqA ws) i) = matL n (n + 1) (dT (eqA ws) (i + 1)) := by
        unfold matL
        refine List.map_congr_left fun i' _ => List.map_congr_left fun j _ => ?_
        dsimp only
        by_cases z : i' = i
        · rw [if_pos z, z, M.row hi]
        · rw [if_neg z, M.fdiv hi z]
      rw [em] at rw5
      obtain ⟨ds, hl5, p5⟩ := id rw5
      obtain ⟨d, ed, hd⟩ := pairedGet p5 (mat_get hi)
      have gv : (((List.range (n + 1)).map (dT (eqA ws) (i + 1) i)).map V.int)[i]? = some (.int (dD (eqA ws) (i + 1))) := by
        rw [List.getElem?_map, List.getElem?_map, List.getElem?_range (by omega : i < n + 1)]
        show some (V.int (dT (eqA ws) (i + 1) i i)) = _
        rw [M.row hi, dT_pivot]
      refine ⟨.ref l5, rfl, .int _, rfl, l5, _, _, .ref d, rfl, rfl, .inl (.inl hl5), (by rw [ez]; exact atI_nat (map_at ed)), .int _, rfl, d, _, _, .int (dD (eqA ws) (i + 1)), rfl, rfl, .inl (.inl hd), (by rw [ez]; exact atI_nat gv), s4.trans s5, l5, rw5, _, rfl⟩
    · obtain ⟨s4, l, rw4, y5, rfl⟩ := p
      obtain ⟨ds, hl4, p4⟩ := id rw4
      have f4 := f3.same s4
      have tabsE := f4.2
      refine ⟨.ref l, rfl, l, rfl, ⟨_, .inl (.inl hl4)⟩, tabsE _ hP, fun H5 tb5 => ?_⟩
      have f45 := FrS.one tabsE hP tb5
      have hl5 := f45.1 _ _ (tabsE.lst hl4) hl4
      have p5 : Paired (IsInts H5) ds (matL n (n + 1) (dT (eqA ws) n)) := pairedMap (fun _ _ e => f45.1 _ _ (tabsE.lst e) e) p4
      have dsl := pairedLen p5
      rw [mat_len] at dsl
      have f5 := f4.trans f45
      refine Gx.sum_listL (K := K) (a := l) (xs := ds.map V.ref) (fun j z H6 => Same H5 H6 ∧ z = sm j fun l => dT (eqA ws) n l n) ⟨Same.refl _, rfl⟩ (fun j z H6 _ p => .inl (.inl (p.1 _ _ hl5))) (fun j x z H6 hx p => ?_) (fun z H6 p => ?_)
      · obtain ⟨d, ed, rfl⟩ := map_get hx
        obtain ⟨row, er, hd⟩ := pairedGetL p5 ed
        have jn : j < n := by rw [← dsl]; exact (List.getElem?_eq_some_iff.mp ed).1
        rw [mat_get jn] at er
        have er := Option.some.inj er
        subst er
        obtain ⟨s6, ez⟩ := p
        have gv : (((List.range (n + 1)).map (dT (eqA ws) n j)).map V.int)[(((List.range (n + 1)).map (dT (eqA ws) n j)).map V.int).length - 1]? = some (.int (dT (eqA ws) n j n)) := by
          rw [List.length_map, List.length_map, List.length_range, List.getElem?_map, List.getElem?_map, List.getElem?_range (by omega)]
          rfl
        refine ⟨rfl, yes_if ⟨.ref d, rfl, 1, rfl, d, _, _, .int (dT (eqA ws) n j n), rfl, rfl, .inl (.inl (s6 _ _ hd)), atI_lastM gv, _, rfl, s6, ?_⟩⟩
        rw [ez, sm_succ]
      · obtain ⟨s6, ez⟩ := p
        rw [List.length_map, dsl] at ez
        subst ez
        have f6 := f5.same s6
        have p2 : (1 : Int) ≤ dD (eqA ws) n * ((hues.toNat ^ many.toNat : Nat) : Int) := by
          have := Nat.pow_pos (n := many.toNat) (show 0 < hues.toNat by omega)
          exact Int.mul_pos dpos (by omega)
        refine ⟨_, rfl, _, rfl, _, _, rfl, rfl, .inr ⟨by omega, by omega⟩, _, _, rfl, snn, p2, ?_, fun H7 t s7 nt ht => qs H7 t (f6.same s7) (f6.free nt) ht⟩
        have nz : (dD (eqA ws) n * ((hues.toNat ^ many.toNat : Nat) : Int)).natAbs ≠ 0 := by omega
        have up : (dD (eqA ws) n * ((hues.toNat ^ many.toNat : Nat) : Int)).natAbs < 2 ^ 200 := by
          rw [Int.natAbs_mul, Int.natAbs_natCast]
          have := Nat.mul_le_mul (show (dD (eqA ws) n).natAbs ≤ 64 ^ 32 by omega) c
          exact Nat.lt_of_le_of_lt this (by decide)
        have := (Nat.log2_lt nz).mpr up
        omega
end
end Rd

set_option Elab.async false
set_option linter.all false
set_option maxRecDepth 100000
set_option maxHeartbeats 4000000
namespace Rd
open PySem PySem.Spec PyProof.Rows L2 Dt
abbrev spFnu : Sp := spFnuM
abbrev sShr : Stmt := topS 14
abbrev nShr : List Str := ["wish", "hues", "places", "rows"]
theorem scShr : FnScope nShr ["wish", "hues"] (defScope sShr) := ⟨rfl, rfl, rfl, by decide +kernel, rfl, by decide +kernel, by decide +kernel⟩
abbrev sRoo : Stmt := topS 15
abbrev nRoo : List Str := ["weights", "number", "clashes", "above", "below", "other"]
theorem scRoo : FnScope nRoo ["weights", "number", "clashes"] (defScope sRoo) := ⟨rfl, rfl, rfl, by decide +kernel, rfl, by decide +kernel, by decide +kernel⟩
abbrev sAtm : Stmt := topS 16
abbrev nAtm : List Str := ["one", "other"]
theorem scAtm : FnScope nAtm ["one", "other"] (defScope sAtm) := ⟨rfl, rfl, rfl, by decide +kernel, rfl, by decide +kernel, by decide +kernel⟩
abbrev sSho : Stmt := topS 17
abbrev nSho : List Str := ["riddle", "weights", "many", "hues", "wishes", "number", "clashes"]
theorem scSho : FnScope nSho ["riddle", "weights"] (defScope sSho) := ⟨rfl, rfl, rfl, by decide +kernel, rfl, by decide +kernel, by decide +kernel⟩
def spShr : Sp := fun vs H Q _ => ∃ (wa : Addr) (wd : WD) (many hues : Int), vs = [.ref wa, .int hues] ∧ IsWish H wa wd ∧ Good many hues wd ∧ 2 ≤ hues ∧ hues ≤ 4 ∧ ∀ H' t, Same H H' → H t = none → IsPr H' t (lowI (wd.2.length : Nat) (everyI wd hues)) → Q (.ref t) H'
def spRoo : Sp := fun vs H Q _ => ∃ (wl cl : Addr) (i : Nat) (ws : List Fc) (l : List Int), vs = [.ref wl, .int (i : Nat), .ref cl] ∧ IsFrs H wl ws ∧ GoodW 20000 ws ∧ i < ws.length ∧ H cl = some (.lst (l.map V.int)) ∧ l.length ≤ 8 ∧ (∀ z ∈ l, 0 ≤ z ∧ z.toNat < ws.length) ∧
  ∀ H' t, Same H H' → H t = none → IsPr H' t (lowI (roomF ws i l).1 (roomF ws i l).2) → Q (.ref t) H'
def spAtm : Sp := fun vs H Q _ => ∃ (ta tb : Addr) (x y : Fc), vs = [.ref ta, .ref tb] ∧ IsPr H ta x ∧ IsPr H tb y ∧ 0 ≤ x.1 ∧ x.1 < 2 ^ 60 ∧ 0 ≤ x.2 ∧ x.2 < 2 ^ 60 ∧ Q (.bl (decide (x.1 * y.2 ≤ y.1 * x.2))) H
def spSho (Ps : List Addr) : Sp := fun vs H Q _ => ∃ (ri wl : Addr) (wds : List WD) (many hues : Int) (ws : List Fc), vs = [.ref ri, .ref wl] ∧ IsRid H ri many hues wds ∧ GoodR many hues wds ∧ IsFrs H wl ws ∧ GoodW 20000 ws ∧ ws.length = wds.length ∧ Tabs Ps H ∧
  ∀ H', FrS Ps H H' → Q (.bl (shownB wds hues ws)) H'
structure TxtSh (P : Program) (w : World) (K : PySem.W.Frag) (mg : Str → Option Value) (base : Heap) : Prop where
  m_len : mg "len" = none
  c_lowest : Cal P w K mg base 2 "lowest" ["above", "below"] spLow
  c_fillings_number : Cal P w K mg base 1 "fillings_number" ["many", "hues"] spFnu
structure TxtRo (P : Program) (w : World) (K : PySem.W.Frag) (mg : Str → Option Value) (base : Heap) : Prop where
  c_lowest : Cal P w K mg base 2 "lowest" ["above", "below"] spLow
structure TxtSo (P : Program) (w : World) (K : PySem.W.Frag) (mg : Str → Option Value) (base : Heap) (Ps : List Addr) : Prop where
  m_all : mg "all" = none
  m_enumerate : mg "enumerate" = none
  c_clashing : Cal P w K mg base 2 "clashing" ["riddle"] (spCls Ps)
  c_share : Cal P w K mg base 3 "share" ["wish", "hues"] spShr
  c_room : Cal P w K mg base 3 "room" ["weights", "number", "clashes"] spRoo
  c_is_at_most : Cal P w K mg base 1 "is_at_most" ["one", "other"] spAtm
section
variable {P : Program} {w : World} {K : PySem.W.Frag} {mg : Str → Option Value} {base : Heap}
theorem ok_shr {f : Addr} {fd : FuncData} {k : Nat} (F : Fun K "share" "share" sShr f fd) (T : TxtSh P w K mg base) : FnOk P w K mg base CX0 (k + 3) f fd ["wish", "hues"] spShr := by
  refine F.ok scShr (fun vs H Q E h => ?_) (fun cdv A outer s H vs Q E hr h => ?_)
  · obtain ⟨wa, wd, many, hues, rfl, _⟩ := h
    rfl
  · obtain ⟨wa, wd, many, hues, rfl, hw, gw, h2, h4, q⟩ := h
    refine ⟨_, (pss_cons (ps_asg (pv 0) (pg_tup rfl (pgs_cons (pg_name (i := 2) scShr.nd rfl (Or.inl rfl)) (pgs_cons (pg_name (i := 3) scShr.nd rfl (Or.inl rfl)) pgs_nil))))
  (pss_one (ps_ret (pe_cal T.c_lowest (hr.mono (by omega)) (by rfl) (pa_cons (pe_callB call_len_seq (by rfl) T.m_len (by decide +kernel) (pa_cons (pv 3) pa_nil)) (pa_cons (pe_cal T.c_fillings_number (hr.mono (by omega)) (by rfl) (pa_cons (pe_callB call_len_seq (by rfl) T.m_len (by decide +kernel) (pa_cons (pv 2) pa_nil)) (pa_cons (pv 1) pa_nil))) pa_nil)))))), ?_⟩
    obtain ⟨pa, ra, rs, w1, w2, w3, w4⟩ := id hw
    have g3 := gw.three
    have e1 := every_pos (wd := wd) h2
    have e2 := every_le (wd := wd) h2 h4 g3
    refine ⟨.ref wa, rfl, wa, _, rfl, .inl (.inl w1), rfl, .ref pa, [.ref ra], rfl, .ref ra, [], rfl, rfl, ?_⟩
    refine ⟨.ref ra, rfl, ra, _, rfl, .inr (.inl (.inl w3)), .ref pa, rfl, pa, _, rfl, .inr (.inl (.inl w2)), .int hues, rfl, _, hues, rfl, by omega, by rw [List.length_map]; omega, by omega, h4, ?_⟩
    rw [List.length_map, List.length_map, Int.toNat_natCast, pairedLen w4]
    have e1 : 1 ≤ hues ^ wd.1.length := e1
    have e2 : hues ^ wd.1.length ≤ 64 := e2
    exact ⟨_, _, rfl, by omega, e1, log_small (by omega) (by omega), q⟩
theorem ok_roo {f : Addr} {fd : FuncData} {k : Nat} (F : Fun K "room" "room" sRoo f fd) (T : TxtRo P w K mg base) : FnOk P w K mg base CX0 (k + 3) f fd ["weights", "number", "clashes"] spRoo := by
  refine F.ok scRoo (fun vs H Q E h => ?_) (fun cdv A outer s H vs Q E hr h => ?_)
  · obtain ⟨wl, cl, i, ws, l, rfl, _⟩ := h
    rfl
  · obtain ⟨wl, cl, i, ws, l, rfl, hw, gw, hi, hc, l8, lz, q⟩ := h
    refine ⟨_, (pss_cons (ps_asg (pe_ix ix_list (pv 0) (pv 1) (fun _ _ => rfl)) (pg_tup rfl (pgs_cons (pg_name (i := 3) scRoo.nd rfl (Or.inl rfl)) (pgs_cons (pg_name (i := 4) scRoo.nd rfl (Or.inl rfl)) pgs_nil))))
  (pss_cons (ps_for PassesOwn.never rfl (pi_list (pv 2)) (pg_name (i := 5) scRoo.nd rfl (Or.inl rfl))
  (pss_one (ps_if (pt_cmpR op_ne (pv 5) (pv 1) (nomark _))
  (pss_cons (ps_aug (i := 3) scRoo.nd rfl (Or.inl rfl) (pe_op op_sub (pe_ix ix_tup (pe_ix ix_list (pv 0) (pv 5) (fun _ _ => rfl)) pe_int (fun _ _ => rfl)) (pe_ix ix_tup (pe_ix ix_list (pv 0) (pv 5) (fun _ _ => rfl)) pe_int (fun _ _ => rfl))) ip_mul)
  (pss_one (ps_aug (i := 4) scRoo.nd rfl (Or.inl rfl) (pe_ix ix_tup (pe_ix ix_list (pv 0) (pv 5) (fun _ _ => rfl)) pe_int (fun _ _ => rfl)) ip_mul))) pss_nil)))
  (pss_one (ps_ret (pe_cal T.c_lowest (hr.mono (by omega)) (by rfl) (pa_cons (pv 3) (pa_cons (pv 4) pa_nil))))))), ?_⟩
    obtain ⟨ts, h1, h2⟩ := id hw
    have tl := pairedLen h2
    have at_ : ∀ j : Nat, j < ws.length → ∃ t, ts[j]? = some t ∧ IsPr H t (wAt ws j) := fun j hj => by
      have hj2 : j < ts.length := by omega
      obtain ⟨x, hx, is⟩ := pairedGetL h2 (List.getElem?_eq_getElem hj2)
      have := Option.some.inj (hx.symm.trans (wAt_get hj))
      subst this
      exact ⟨_, List.getElem?_eq_getElem hj2, is⟩
    obtain ⟨ti, eti, isi⟩ := at_ i hi
    refine ⟨.ref wl, rfl, .int i, rfl, wl, _, _, _, rfl, rfl, .inl (.inl h1), atI_nat (map_at eti), ti, _, rfl, .inl (.inl isi), rfl, .int (wAt ws i).1, [.int (wAt ws i).2], rfl, .int (wAt ws i).2, [], rfl, rfl, ?_⟩
    refine ⟨.ref cl, rfl, cl, rfl, ⟨_, .inl (.inl hc)⟩, ?_⟩
    refine for_list (K := K) (a := cl) (xs := l.map V.int) (fun j σ H3 => H3 = H ∧ ∃ y5, σ = [some (.ref wl), some (.int i), some (.ref cl), some (.int (roomF ws i (l.take j)).1), some (.int (roomF ws i (l.take j)).2), y5]) ⟨rfl, none, rfl⟩ (fun j σ H3 _ p => by obtain ⟨rfl, _⟩ := p; exact .inl (.inl hc)) (fun j x σ H3 hx p => ?_) (fun σ H3 p => ?_)
    · obtain ⟨z, ez, rfl⟩ := map_get hx
      obtain ⟨rfl, y5, rfl⟩ := p
      have hz := lz z (List.mem_of_getElem? ez)
      obtain ⟨tz, etz, isz⟩ := at_ z.toNat hz.2
      have wz := wAt_ok gw hz.2
      have sn := room_snoc ws i (l.take j) z
      rw [← take_snoc ez] at sn
      refine ⟨.int z, rfl, .int i, rfl, rfl, _, rfl, ite2 (fun e => ?_) (fun e => ?_)⟩
      · have ne : ¬ z = (i : Int) := fun c => by subst c; exact absurd e (by simp)
        rw [stepW, if_neg ne] at sn
        refine ⟨_, rfl, .ref wl, rfl, .int z, rfl, wl, _, _, _, rfl, rfl, .inl (.inl h1), atI_of hz.1 etz, tz, _, 1, _, rfl, rfl, .inl (.inl isz), atI_nat (j := 1) rfl, .ref wl, rfl, .int z, rfl, wl, _, _, _, rfl, rfl, .inl (.inl h1), atI_of hz.1 etz, tz, _, 0, _, rfl, rfl, .inl (.inl isz), atI_nat (j := 0) rfl, _, _, rfl, rfl, _, _, rfl, rfl, .inr ⟨by omega, by omega⟩, ?_⟩
        refine ⟨_, rfl, .ref wl, rfl, .int z, rfl, wl, _, _, _, rfl, rfl, .inl (.inl h1), atI_of hz.1 etz, tz, _, 1, _, rfl, rfl, .inl (.inl isz), atI_nat (j := 1) rfl, _, _, rfl, rfl, .inr ⟨by omega, by omega⟩, rfl, some (.int z), ?_⟩
        rw [sn]
        rfl
      · have eq : z = (i : Int) := by
          by_cases c : z = (i : Int)
          · exact c
          · exact absurd (show (!decide (V.int z = V.int i)) = true by simp [c]) e
        rw [stepW, if_pos eq] at sn
        refine ⟨rfl, some (.int z), ?_⟩
        rw [sn]
        rfl
    · obtain ⟨rfl, y5, rfl⟩ := p
      rw [List.length_map, List.take_length]
      obtain ⟨r1, r2, r3⟩ := room_log gw hi l8 lz
      exact ⟨_, rfl, _, rfl, _, _, rfl, by omega, r2, r3, q⟩
theorem ok_atm {f : Addr} {fd : FuncData} {k : Nat} (F : Fun K "is_at_most" "is_at_most" sAtm f fd) : FnOk P w K mg base CX0 (k + 1) f fd ["one", "other"] spAtm := by
  refine F.ok scAtm (fun vs H Q E h => ?_) (fun cdv A outer s H vs Q E hr h => ?_)
  · obtain ⟨ta, tb, x, y, rfl, _⟩ := h
    rfl
  · obtain ⟨ta, tb, x, y, rfl, ha, hb, x1, x2, x3, x4, q⟩ := h
    refine ⟨_, (pss_one (ps_ret (pe_cmpR op_le (pe_op op_mul (pe_ix ix_tup (pv 0) pe_int (fun _ _ => rfl)) (pe_ix ix_tup (pv 1) pe_int (fun _ _ => rfl))) (pe_op op_mul (pe_ix ix_tup (pv 1) pe_int (fun _ _ => rfl)) (pe_ix ix_tup (pv 0) pe_int (fun _ _ => rfl))) (nomark _)))), ?_⟩
    exact ⟨.ref ta, rfl, ta, _, 0, _, rfl, rfl, .inl (.inl ha), atI_nat (j := 0) rfl, .ref tb, rfl, tb, _, 1, _, rfl, rfl, .inl (.inl hb), atI_nat (j := 1) rfl, _, _, rfl, rfl, .inl ⟨by omega, by omega⟩,
      .ref tb, rfl, tb, _, 0, _, rfl, rfl, .inl (.inl hb), atI_nat (j := 0) rfl, .ref ta, rfl, ta, _, 1, _, rfl, rfl, .inl (.inl ha), atI_nat (j := 1) rfl, _, _, rfl, rfl, .inr ⟨by omega, by omega⟩, _, _, rfl, rfl, q⟩
theorem ok_sho {f c Pt : Addr} {Ps : List Addr} {fd : FuncData} {k : Nat} (F : FunC K "shows_soon" "shows_soon" sSho f fd (.ref c)) (TB : GxR.TabB base mg c Pt) (hP : Pt ∈ Ps) (T : TxtSo P w K mg base Ps) : FnOk P w K mg base CX0 (k + 6) f fd ["riddle", "weights"] (spSho Ps) := by
  refine F.ok scSho (fun vs H Q E h => ?_) (fun A outer s H vs Q E hr h => ?_)
  · obtain ⟨ri, wl, wds, many, hues, ws, rfl, _⟩ := h
    rfl
  · obtain ⟨ri, wl, wds, many, hues, ws, rfl, hrd, gr, hw, gw, el, hT, q⟩ := h
    refine ⟨_, (pss_cons (ps_asg (pv 0) (pg_tup rfl (pgs_cons (pg_name (i := 2) scSho.nd rfl (Or.inl rfl)) (pgs_cons (pg_name (i := 3) scSho.nd rfl (Or.inr rfl)) (pgs_cons (pg_name (i := 4) scSho.nd rfl (Or.inr rfl)) pgs_nil)))))
  (pss_one (ps_ret (Gx.pe_allX (own := [("number", 5), ("clashes", 6)]) (g := gTup K 2 (gCons (gName 5) (gCons (gName 6) gNil))) (te := tCall spAtm [] E0 (tCons (tCall spShr [] E0 (tCons (tOp (rIxT K) (tVar 4) (tVar 5)) (tCons (tVar 3) tNil))) (tCons (tCall spRoo [] E0 (tCons (tVar 1) (tCons (tVar 5) (tCons (tVar 6) tNil)))) tNil))) hr (by rfl) T.m_all rfl scSho.nd TB rfl (blkOk_by (own := [("number", 5), ("clashes", 6)]) (N := nSho) (sc := defScope sSho) (by decide +kernel)) ⟨rfl, by decide +kernel, rfl⟩ (pi_enum (by rfl) T.m_enumerate (pa_cons (pe_cal T.c_clashing (hr.mono (by omega)) (by rfl) (pa_cons (pv 0) pa_nil)) pa_nil))
   (fun _ _ _ _ _ _ hA => (pg_tup rfl (pgs_cons (pg_name (i := 5) scSho.nd rfl (Or.inl rfl)) (pgs_cons (pg_name (i := 6) scSho.nd rfl (Or.inl rfl)) pgs_nil)))) (fun _ _ _ _ _ _ hA => pts_nil) (fun _ _ _ _ _ _ hA => (pe_cal T.c_is_at_most (hA.mono (by omega)) (by rfl) (pa_cons (pe_cal T.c_share (hA.mono (by omega)) (by rfl) (pa_cons (pe_ix ix_tup (pv 4) (pv 5) (fun _ _ => rfl)) (pa_cons (pv 3) pa_nil))) (pa_cons (pe_cal T.c_room (hA.mono (by omega)) (by rfl) (pa_cons (pv 1) (pa_cons (pv 5) (pa_cons (pv 6) pa_nil)))) pa_nil)))))))), ?_⟩
    obtain ⟨wt, was, h1, h2, h3⟩ := id hrd
    have hl : was.length = wds.length := pairedLen h3
    have e8 := gr.eight
    have hh2 := gr.h2
    have hh4 := gr.h4
    refine ⟨.ref ri, rfl, ri, _, rfl, .inl (.inl h1), rfl, .int many, [.int hues, .ref wt], rfl, .int hues, [.ref wt], rfl, .ref wt, [], rfl, rfl, ?_⟩
    refine ⟨.ref ri, rfl, ri, wds, many, hues, rfl, hrd, gr, hT, fun H3 lc f3 nlc ll => ?_⟩
    obtain ⟨ls, hlc, pl, _, _, _⟩ := ll
    have lsl := pairedLen pl
    have cl : (clsAll wds).length = wds.length := by unfold clsAll; rw [List.length_map]
    refine ⟨lc, _, rfl, .inl (.inl hlc), f3.2 _ hP, fun H4 tb => ?_⟩
    have f4 := f3.trans (FrS.one f3.2 hP tb)
    have f34 := FrS.one f3.2 hP tb
    refine Gx.all_enumL (K := K) (a := lc) (xs := ls.map V.ref) (fun i H5 => FrS Ps H3 H5 ∧ ∀ j, j < i → okW wds hues ws j = true) ⟨f34, fun j z => absurd z (Nat.not_lt_zero _)⟩ (fun i H5 _ p => .inl (.inl ((p.1.seqs f3.2).2 _ _ hlc))) (fun i x H5 T5 hx p nT => ?_) (fun H5 p => ?_)
    · obtain ⟨la, ela, rfl⟩ := map_get hx
      obtain ⟨row, hrow, hla⟩ := pairedGetL pl ela
      obtain ⟨f5, no⟩ := p
      obtain ⟨wd, hwd, rfl⟩ : ∃ wd, wds[i]? = some wd ∧ row = clsL wds wd wds.length := by
        unfold clsAll at hrow
        rw [List.getElem?_map] at hrow
        cases e : wds[i]? with
        | none => rw [e] at hrow; cases hrow
        | some wd => rw [e] at hrow; cases hrow; exact ⟨wd, rfl, rfl⟩
      have hi : i < wds.length := (List.getElem?_eq_some_iff.mp hwd).1
      have hiw : i < was.length := by omega
      obtain ⟨wi, hwi, iswi⟩ := pairedGetL h3 (List.getElem?_eq_getElem hiw)
      have ewi : wi = wd := Option.some.inj (hwi.symm.trans hwd)
      subst ewi
      have gwi := gr.each _ (List.mem_of_getElem? hwd)
      have g3 := gwi.three
      have g64 := gwi.few
      have e1 := every_pos (wd := wi) hh2
      have e2 := every_le (wd := wi) hh2 hh4 g3
      have sT := same_upd (o := .tup [.int (i : Nat), .ref la]) nT
      have f6 := f5.same sT
      have f06 := f3.trans f6
      have t06 := f06.tups hT
      refine ⟨T5, [.int i, .ref la], rfl, .inl (.inl upd_same), rfl, .int i, [.ref la], rfl, .ref la, [], rfl, rfl, rfl, yes_if ?_⟩
      generalize upd H5 T5 (.tup [.int (i : Nat), .ref la]) = H6 at sT f6 f06 t06
      refine ⟨.ref wt, rfl, .int i, rfl, wt, _, _, _, rfl, rfl, .inl (.inl (t06 _ _ h2)), atI_nat (map_at (List.getElem?_eq_getElem hiw)), .int hues, rfl, _, wi, many, hues, rfl, iswi.mono t06, gwi, hh2, hh4, fun H7 t7 s7 nt7 p7 => ?_⟩
      have f07 := f06.same s7
      have lz : ∀ z ∈ clsL wds wi wds.length, 0 ≤ z ∧ z.toNat < ws.length := fun z hz => by have := clsL_mem hz; omega
      have l8 : (clsL wds wi wds.length).length ≤ 8 := Nat.le_trans (clsL_len _ _ _) e8
      refine ⟨.ref wl, rfl, .int i, rfl, .ref la, rfl, wl, la, i, ws, _, rfl, hw.seqs (f07.seqs hT), gw, by omega, ((f6.same s7).seqs f3.2).2 _ _ hla, l8, lz, fun H8 t8 s8 nt8 p8 => ?_⟩
      obtain ⟨r1, r2, r3⟩ := room_log gw (show i < ws.length by omega) l8 lz
      obtain ⟨o1, o2, o3, o4⟩ := low_ok (a := (wi.2.length : Nat)) (b := everyI wi hues) (by omega) e1
      refine ⟨t7, t8, _, _, rfl, s8 _ _ p7, p8, o1, by omega, by omega, by omega, _, rfl, ?_⟩
      have eq : decide ((lowI (wi.2.length : Nat) (everyI wi hues)).1 * (lowI (roomF ws i (clsL wds wi wds.length)).1 (roomF ws i (clsL wds wi wds.length)).2).2 ≤ (lowI (roomF ws i (clsL wds wi wds.length)).1 (roomF ws i (clsL wds wi wds.length)).2).1 * (lowI (wi.2.length : Nat) (everyI wi hues)).2) = okW wds hues ws i := by
        rw [okW_of hwd]
        exact decide_eq_decide.mpr (low_le (by omega) e1 (by omega) r2)
      rw [eq]
      have f8 := (f6.same s7).same s8
      cases c : okW wds hues ws i with
      | true =>
        rw [if_pos rfl]
        refine ⟨f8, fun j hj => ?_⟩
        by_cases z : j = i
        · rw [z]; exact c
        · exact no j (by omega)
      | false =>
        rw [if_neg (by decide)]
        have := q H8 (f3.trans f8)
        rw [shown_no hi c] at this
        exact this
    · obtain ⟨f5, no⟩ := p
      rw [List.length_map, lsl, cl] at no
      have := q H5 (f3.trans f5)
      rw [shown_yes no] at this
      exact this
end
end Rd

set_option Elab.async false
set_option linter.all false
set_option maxRecDepth 100000
set_option maxHeartbeats 4000000
namespace Rd
open PySem PySem.Spec PyProof.Rows L2 Dt
abbrev sLwl : Stmt := topS 40
abbrev nLwl : List Str := ["top", "below", "one", "other"]
theorem scLwl : FnScope nLwl ["top", "below"] (defScope sLwl) := ⟨rfl, rfl, rfl, by decide +kernel, rfl, by decide +kernel, by decide +kernel⟩
abbrev sLsh : Stmt := topS 41
abbrev nLsh : List Str := ["riddle", "number", "places", "rows", "every", "place"]
theorem scLsh : FnScope nLsh ["riddle", "number"] (defScope sLsh) := ⟨rfl, rfl, rfl, by decide +kernel, rfl, by decide +kernel, by decide +kernel⟩
abbrev sLca : Stmt := topS 42
abbrev nLca : List Str := ["riddle", "one", "other", "place"]
theorem scLca : FnScope nLca ["riddle", "one", "other"] (defScope sLca) := ⟨rfl, rfl, rfl, by decide +kernel, rfl, by decide +kernel, by decide +kernel⟩
abbrev sLsw : Stmt := topS 43
abbrev nLsw : List Str := ["riddle", "weights", "number", "top", "below", "other", "rows", "every"]
theorem scLsw : FnScope nLsw ["riddle", "weights"] (defScope sLsw) := ⟨rfl, rfl, rfl, by decide +kernel, rfl, by decide +kernel, by decide +kernel⟩
def spLsh : Sp := fun vs H Q _ => ∃ (ri : Addr) (i : Nat) (wds : List WD) (wd : WD) (many hues : Int), vs = [.ref ri, .int (i : Nat)] ∧ IsRid H ri many hues wds ∧ wds[i]? = some wd ∧ Good many hues wd ∧ 2 ≤ hues ∧ hues ≤ 4 ∧
  ∀ H' t, Same H H' → H t = none → IsPr H' t ((wd.2.length : Nat), everyI wd hues) → Q (.ref t) H'
def spLca : Sp := fun vs H Q _ => ∃ (ri : Addr) (i j : Nat) (wds : List WD) (a b : WD) (many hues : Int), vs = [.ref ri, .int (i : Nat), .int (j : Nat)] ∧ IsRid H ri many hues wds ∧ wds[i]? = some a ∧ wds[j]? = some b ∧ GoodR many hues wds ∧
  ∀ H', Same H H' → Q (.bl (clB a b)) H'
def spLsw : Sp := fun vs H Q _ => ∃ (ri wl : Addr) (wds : List WD) (many hues : Int) (ws : List Fc), vs = [.ref ri, .ref wl] ∧ IsRid H ri many hues wds ∧ GoodR many hues wds ∧ IsFrs H wl ws ∧ GoodW 20000 ws ∧ ws.length = wds.length ∧
  ∀ H', Same H H' → Q (.bl (shownB wds hues ws)) H'
structure TxtLl (mg : Str → Option Value) : Prop where
  m_abs : mg "abs" = none
structure TxtLs (mg : Str → Option Value) : Prop where
  m_len : mg "len" = none
structure TxtLw (P : Program) (w : World) (K : PySem.W.Frag) (mg : Str → Option Value) (base : Heap) : Prop where
  m_range : mg "range" = none
  m_len : mg "len" = none
  c__law_clash : Cal P w K mg base 1 "_law_clash" ["riddle", "one", "other"] spLca
  c__law_share : Cal P w K mg base 1 "_law_share" ["riddle", "number"] spLsh
theorem filter_snoc {α : Type} {l : List α} {i : Nat} {x : α} (p : α → Bool) (h : l[i]? = some x) : (l.take (i + 1)).filter p = (l.take i).filter p ++ (if p x = true then [x] else []) := by
  rw [take_snoc h, List.filter_append]
  congr 1
  cases c : p x with
  | true => rw [List.filter_cons_of_pos c, if_pos rfl]; rfl
  | false => rw [List.filter_cons_of_neg (by rw [c]; decide), if_neg (by decide)]; rfl
section
variable {P : Program} {w : World} {K : PySem.W.Frag} {mg : Str → Option Value} {base : Heap}
theorem ok_lwl {f : Addr} {fd : FuncData} {k : Nat} (F : Fun K "_law_lowest" "_law_lowest" sLwl f fd) (T : TxtLl mg) : FnOk P w K mg base CX0 (k + 1) f fd ["top", "below"] spLow := by
  refine F.ok scLwl (fun vs H Q E h => ?_) (fun cdv A outer s H vs Q E hr h => ?_)
  · obtain ⟨a, b, rfl, _⟩ := h
    rfl
  · obtain ⟨a, b, rfl, ha, hb, hl, q⟩ := h
    refine ⟨_, (pss_cons (ps_par (i := 2) (j := 3) rfl scLwl.nd rfl rfl (by decide) rfl rfl (pa_cons (pe_callB call_abs (by rfl) T.m_abs (by decide +kernel) (pa_cons (pv 0) pa_nil)) (pa_cons (pv 1) pa_nil)) (by rfl))
  (pss_cons (ps_while PassesOwn.never (pt_cmpR op_gt (pv 3) pe_int (nomark _))
  (pss_one (ps_par (i := 2) (j := 3) rfl scLwl.nd rfl rfl (by decide) rfl rfl (pa_cons (pv 3) (pa_cons (pe_op op_mod (pv 2) (pv 3)) pa_nil)) (by rfl))))
  (pss_one (ps_ret (pe_tup (pa_cons (pe_op op_fdivW (pv 0) (pv 2)) (pa_cons (pe_op op_fdivW (pv 1) (pv 2)) pa_nil))))))), ?_⟩
    have g1 := gcdI_pos (a := a) hb
    have g2 := gcdI_le (a := a) hb
    have gl : (gcdI a b).natAbs.log2 < 9000 := by
      have gn : (gcdI a b).natAbs ≤ b.natAbs := by omega
      have z : (gcdI a b).natAbs ≠ 0 := by omega
      have zb : b.natAbs ≠ 0 := by omega
      exact (Nat.log2_lt z).mpr (Nat.lt_of_le_of_lt gn ((Nat.log2_lt zb).mp hl))
    have ea : (if a < 0 then -a else a) = a := if_neg (by omega)
    refine ⟨.int a, rfl, a, rfl, .int b, rfl, _, _, rfl, ?_⟩
    rw [ea]
    refine ⟨fun m σ H1 => Same H H1 ∧ ∃ x y : Int, 0 ≤ x ∧ 0 ≤ y ∧ gcdI x y = gcdI a b ∧ m = y.toNat ∧ σ = [some (.int a), some (.int b), some (.int x), some (.int y)], ⟨b.toNat, fun _ _ e => e, a, b, ha, by omega, rfl, rfl, rfl⟩, ?_⟩
    rintro m σ H1 ⟨s1, x, y, hx, hy, e, rfl, rfl⟩
    refine ⟨.int y, rfl, _, _, rfl, rfl, _, rfl, ite2 (fun c => ?_) (fun c => ?_)⟩
    · have hy0 : 0 < y := of_decide_eq_true c
      have p0 := Int.emod_nonneg x (show y ≠ 0 by omega)
      have p1 := Int.emod_lt_of_pos x hy0
      refine ⟨fun σ' H' => Same H H' ∧ σ' = [some (.int a), some (.int b), some (.int y), some (.int (x % y))], ?_, ?_⟩
      · rintro σ' H' ⟨s', rfl⟩
        exact ⟨(x % y).toNat, by omega, s', y, x % y, hy, p0, (gcdI_step hx hy0).trans e, rfl, rfl⟩
      · exact ⟨.int y, rfl, .int x, rfl, .int y, rfl, x, y, rfl, rfl, hy0, .int y, .int (x % y), rfl, s1, rfl⟩
    · have hy0 : y = 0 := by
        by_cases z : 0 < y
        · exact absurd (decide_eq_true z) c
        · omega
      subst hy0
      rw [gcdI_zero hx] at e
      subst e
      refine ⟨.int a, rfl, .int (gcdI a b), rfl, a, gcdI a b, rfl, rfl, ⟨by omega, gl⟩, .int b, rfl, .int (gcdI a b), rfl, b, gcdI a b, rfl, rfl, ⟨by omega, gl⟩, (by show 2 ≤ sizeLine; decide), fun t nt => ?_⟩
      exact q _ t (s1.trans (same_upd nt)) (s1.free nt) upd_same
theorem ok_lsh {f : Addr} {fd : FuncData} {k : Nat} (F : Fun K "_law_share" "_law_share" sLsh f fd) (T : TxtLs mg) : FnOk P w K mg base CX0 (k + 1) f fd ["riddle", "number"] spLsh := by
  refine F.ok scLsh (fun vs H Q E h => ?_) (fun cdv A outer s H vs Q E hr h => ?_)
  · obtain ⟨ri, i, wds, wd, many, hues, rfl, _⟩ := h
    rfl
  · obtain ⟨ri, i, wds, wd, many, hues, rfl, hrd, hwd, gw, h2, h4, q⟩ := h
    refine ⟨_, (pss_cons (ps_asg (pe_ix ix_tup (pe_ix ix_tup (pv 0) pe_int (fun _ _ => rfl)) (pv 1) (fun _ _ => rfl)) (pg_tup rfl (pgs_cons (pg_name (i := 2) scLsh.nd rfl (Or.inl rfl)) (pgs_cons (pg_name (i := 3) scLsh.nd rfl (Or.inl rfl)) pgs_nil))))
  (pss_cons (ps_set (i := 4) scLsh.nd rfl (Or.inl rfl) pe_int)
  (pss_cons (ps_for PassesOwn.never rfl (pi_tup (pv 2)) (pg_name (i := 5) scLsh.nd rfl (Or.inl rfl))
  (pss_one (ps_set (i := 4) scLsh.nd rfl (Or.inl rfl) (pe_op op_mul (pv 4) (pe_ix ix_tup (pv 0) pe_int (fun _ _ => rfl))))))
  (pss_one (ps_ret (pe_tup (pa_cons (pe_callB call_len_seq (by rfl) T.m_len (by decide +kernel) (pa_cons (pv 3) pa_nil)) (pa_cons (pv 4) pa_nil)))))))), ?_⟩
    obtain ⟨wt, was, r1, r2, r3⟩ := id hrd
    have hl : was.length = wds.length := pairedLen r3
    have hi : i < was.length := by have := (List.getElem?_eq_some_iff.mp hwd).1; omega
    obtain ⟨wi, hwi, isw⟩ := pairedGetL r3 (List.getElem?_eq_getElem hi)
    have ewi : wi = wd := Option.some.inj (hwi.symm.trans hwd)
    subst ewi
    obtain ⟨pa, ra, rs, w1, w2, w3, w4⟩ := id isw
    have g3 := gw.three
    refine ⟨.ref ri, rfl, ri, _, 2, _, rfl, rfl, .inl (.inl r1), atI_nat (j := 2) rfl, .int i, rfl, wt, _, _, _, rfl, rfl, .inl (.inl r2), atI_nat (map_at (List.getElem?_eq_getElem hi)), _, _, rfl, .inl (.inl w1), rfl, .ref pa, [.ref ra], rfl, .ref ra, [], rfl, rfl, ?_⟩
    refine ⟨.ref pa, rfl, pa, rfl, ⟨_, .inl (.inl w2)⟩, ?_⟩
    refine for_tup (K := K) (a := pa) (xs := wi.1.map V.int) (fun j σ H3 => H3 = H ∧ ∃ y5, σ = [some (.ref ri), some (.int i), some (.ref pa), some (.ref ra), some (.int (hues ^ j)), y5]) ⟨rfl, none, by rw [Int.pow_zero]; rfl⟩ (fun j σ H3 _ p => by obtain ⟨rfl, _⟩ := p; exact .inl (.inl w2)) (fun j x σ H3 hx p => ?_) (fun σ H3 p => ?_)
    · obtain ⟨rfl, y5, rfl⟩ := p
      have hj : j < wi.1.length := by
        have := (List.getElem?_eq_some_iff.mp hx).1
        rw [List.length_map] at this
        exact this
      have b := pow_bd (show 0 ≤ hues by omega) h4 (i := j) (by omega)
      exact ⟨_, rfl, .ref ri, rfl, ri, _, 1, _, rfl, rfl, .inl (.inl r1), atI_nat (j := 1) rfl, hues ^ j, hues, rfl, rfl, .inl ⟨by omega, by omega⟩, rfl, some x, by rw [Int.pow_succ]; rfl⟩
    · obtain ⟨rfl, y5, rfl⟩ := p
      rw [List.length_map]
      refine ⟨.ref ra, rfl, ra, _, rfl, .inr (.inl (.inl w3)), _, rfl, (by show 2 ≤ sizeLine; decide), fun t nt => ?_⟩
      rw [List.length_map, pairedLen w4]
      exact q _ t (same_upd nt) nt upd_same
theorem ok_lca {f : Addr} {fd : FuncData} {k : Nat} (F : Fun K "_law_clash" "_law_clash" sLca f fd) : FnOk P w K mg base CX0 (k + 1) f fd ["riddle", "one", "other"] spLca := by
  refine F.ok scLca (fun vs H Q E h => ?_) (fun cdv A outer s H vs Q E hr h => ?_)
  · obtain ⟨ri, i, j, wds, a, b, many, hues, rfl, _⟩ := h
    rfl
  · obtain ⟨ri, i, j, wds, a, b, many, hues, rfl, hrd, ha, hb, gr, q⟩ := h
    refine ⟨_, (pss_one (ps_ret (pe_cmpR (op_neD hr.units) (pe_lc (tt := tTest (tOp (rInT K) (tVar 3) (tOp (rIxT K) (tOp (rIxT K) (tOp (rIxT K) (tVar 0) (tC (.int 2))) (tVar 2)) (tC (.int 0))))) (own := [("place", 3)]) rfl scLca.nd  (pi_tup (pe_ix ix_tup (pe_ix ix_tup (pe_ix ix_tup (pv 0) pe_int (fun _ _ => rfl)) (pv 1) (fun _ _ => rfl)) pe_int (fun _ _ => rfl))) (blkOk_by (own := [("place", 3)]) (N := nLca) (sc := defScope sLca) (by decide +kernel))
   (fun _ _ _ _ _ => (pg_name (i := 3) scLca.nd rfl (Or.inl rfl))) (fun _ _ _ _ _ => pts_one (pt_cmpR (Dt.op_inT (units65 hr)) (pv 3) (pe_ix ix_tup (pe_ix ix_tup (pe_ix ix_tup (pv 0) pe_int (fun _ _ => rfl)) (pv 2) (fun _ _ => rfl)) pe_int (fun _ _ => rfl)) (by rfl))) (fun _ _ _ _ _ => (pv 3))) (pe_lst pa_nil) (nomark _)))), ?_⟩
    obtain ⟨wt, was, r1, r2, r3⟩ := id hrd
    have hl : was.length = wds.length := pairedLen r3
    have m6 := gr.m6
    have hi : i < was.length := by have := (List.getElem?_eq_some_iff.mp ha).1; omega
    have hj : j < was.length := by have := (List.getElem?_eq_some_iff.mp hb).1; omega
    obtain ⟨wi, hwi, isa⟩ := pairedGetL r3 (List.getElem?_eq_getElem hi)
    obtain ⟨wj, hwj, isb⟩ := pairedGetL r3 (List.getElem?_eq_getElem hj)
    have ewi : wi = a := Option.some.inj (hwi.symm.trans ha)
    have ewj : wj = b := Option.some.inj (hwj.symm.trans hb)
    subst ewi ewj
    have ga := gr.each _ (List.mem_of_getElem? ha)
    have gb := gr.each _ (List.mem_of_getElem? hb)
    obtain ⟨pa, ra, rs, a1, a2, a3, a4⟩ := id isa
    obtain ⟨pb, rb, ss, b1, b2, b3, b4⟩ := id isb
    have a5 := ga.three
    have fineR : Fine (rowD wj.1) 2 64 := fine_row (fun z hz => by have := gb.pl z hz; omega) (by have := gb.three; omega)
    refine ⟨.ref ri, rfl, ri, _, 2, _, rfl, rfl, .inl (.inl r1), atI_nat (j := 2) rfl, .int i, rfl, wt, _, _, _, rfl, rfl, .inl (.inl r2), atI_nat (map_at (List.getElem?_eq_getElem hi)), _, _, 0, _, rfl, rfl, .inl (.inl a1), atI_nat (j := 0) rfl, pa, rfl, ⟨_, .inl (.inl a2)⟩, fun D nD => ?_⟩
    refine lc_tup (K := K) (a := pa) (xs := wi.1.map V.int) (fun m H3 => Same H H3 ∧ H3 D = some (.lst (((wi.1.take m).filter fun p => decide (p ∈ wj.1)).map V.int))) ⟨same_upd nD, upd_same⟩ (fun m H3 _ p => .inl (.inl (p.1 _ _ a2))) (fun m x H3 hx p => ?_) (fun H3 p => ?_)
    · obtain ⟨z, ez, rfl⟩ := map_get hx
      obtain ⟨s3, hD⟩ := p
      have hz := ga.pl z (List.mem_of_getElem? ez)
      refine ⟨rfl, .int z, rfl, .ref ri, rfl, ri, _, 2, _, rfl, rfl, .inl (.inl (s3 _ _ r1)), atI_nat (j := 2) rfl, .int j, rfl, wt, _, _, _, rfl, rfl, .inl (.inl (s3 _ _ r2)), atI_nat (map_at (List.getElem?_eq_getElem hj)), _, _, 0, _, rfl, rfl, .inl (.inl (s3 _ _ b1)), atI_nat (j := 0) rfl, .int z, wj.1.map PyData.int, .int z, .tup (.inl (.inl (s3 _ _ b2))) (dpInts _), (fine_int hz.1 (by omega)).shaped (by decide), fineR.shaped (by decide), _, rfl, ?_⟩
      rw [Gv.any_ints]
      have sn := filter_snoc (fun p => decide (p ∈ wj.1)) ez
      refine ite2 (fun e => ?_) (fun e => ?_)
      · refine ⟨.int z, rfl, _, hD, ?_, same_put s3 nD, ?_⟩
        · rw [List.length_map]
          have := List.length_filter_le (fun p => decide (p ∈ wj.1)) (wi.1.take m)
          rw [List.length_take] at this
          exact small1000 (by omega)
        · rw [upd_same, sn, if_pos e, List.map_append]
          rfl
      · refine ⟨s3, ?_⟩
        rw [sn, if_neg e, List.append_nil]
        exact hD
    · obtain ⟨s3, hD⟩ := p
      rw [List.length_map, List.take_length] at hD
      refine ⟨(by show 0 ≤ sizeLine; decide), fun l4 nl4 => ?_⟩
      have s4 := same_upd (o := .lst []) nl4
      have fineL : ∀ l : List Int, (∀ p ∈ l, p ∈ wi.1) → Fine (.list (l.map .int)) 2 (l.length * 15) := fun l h1 => fine_ints fun z hz => by have := ga.pl z (h1 z hz); omega
      have f1 := fineL (wi.1.filter fun p => decide (p ∈ wj.1)) fun p hp => (List.mem_filter.mp hp).1
      have f2 := fineL [] fun p hp => nomatch hp
      have fl := List.length_filter_le (fun p => decide (p ∈ wj.1)) wi.1
      refine ⟨_, _, .lst (.inl (.inl (s4 _ _ hD))) (dpInts _), .lst (.inl (.inl upd_same)) .nil, f1.shaped (by omega), f2.shaped (by decide), ?_⟩
      rw [eqv_ints_nil]
      have e : (!decide ((wi.1.filter fun p => decide (p ∈ wj.1)) = [])) = clB wi wj := by
        rw [Bool.eq_iff_iff]
        unfold clB
        rw [List.any_eq_true]
        simp [List.filter_eq_nil_iff]
      rw [e]
      exact q _ (s3.trans s4)
end
end Rd

set_option Elab.async false
set_option linter.all false
set_option maxRecDepth 100000
set_option maxHeartbeats 4000000
namespace Rd
open PySem PySem.Spec PyProof.Rows L2 Dt
abbrev sSpa : Stmt := topS 44
abbrev nSpa : List Str := ["tape", "many", "hues", "wishes", "k", "wish", "turn"]
theorem scSpa : FnScope nSpa ["tape"] (defScope sSpa) := ⟨rfl, rfl, rfl, by decide +kernel, rfl, by decide +kernel, by decide +kernel⟩
abbrev sLwe : Stmt := topS 45
abbrev nLwe : List Str := ["tape", "riddle", "found", "number", "rows", "every", "below", "some", "one"]
theorem scLwe : FnScope nLwe ["tape", "riddle"] (defScope sLwe) := ⟨rfl, rfl, rfl, by decide +kernel, rfl, by decide +kernel, by decide +kernel⟩
def szC : List (Int × Int) := [(6, 2), (5, 2), (4, 3), (3, 3), (5, 3), (3, 4), (4, 2), (3, 2)]
theorem szC_ok : ∀ p ∈ szC, szOk p := by unfold szOk szC; decide
def spSpa : Sp := fun vs H Q _ => ∃ (tp : Addr), vs = [.ref tp] ∧ Tape H tp ∧
  ∀ H' ri many hues wds, Taped tp H H' → IsRid H' ri many hues wds → GoodR many hues wds → (∀ wd ∈ wds, Neat wd) → szOk (many, hues) → Q (.ref ri) H'
def spLwe : Sp := fun vs H Q _ => ∃ (tp ri : Addr) (wds : List WD) (many hues : Int), vs = [.ref tp, .ref ri] ∧ Tape H tp ∧ IsRid H ri many hues wds ∧ GoodR many hues wds ∧
  ∀ H' l ws, Taped tp H H' → H l = none → IsFrs H' l ws → GoodW 150 ws → ws.length = wds.length → Q (.ref l) H'
structure TxtSp (P : Program) (w : World) (K : PySem.W.Frag) (mg : Str → Option Value) (base : Heap) : Prop where
  m_range : mg "range" = none
  m_len : mg "len" = none
  m_tuple : mg "tuple" = none
  c__law_digit : Cal P w K mg base 1 "_law_digit" ["tape", "many"] spDig
  c__law_wish : Cal P w K mg base 2 "_law_wish" ["tape", "many", "hues", "most"] spWis
structure TxtWe (P : Program) (w : World) (K : PySem.W.Frag) (mg : Str → Option Value) (base : Heap) : Prop where
  m_range : mg "range" = none
  m_len : mg "len" = none
  c__law_digit : Cal P w K mg base 1 "_law_digit" ["tape", "many"] spDig
  c__law_lowest : Cal P w K mg base 1 "_law_lowest" ["top", "below"] spLow
  c__law_share : Cal P w K mg base 1 "_law_share" ["riddle", "number"] spLsh
theorem pairs_ixs {K : PySem.W.Frag} {prs : List (Int × Int)} {tb : TE} {g : TG} {u : TS} {D : Ends} {σ : L2.St} {H : Hp} (hl : prs.length ≤ 1000) (h : ∀ l ts H', Same H H' → H l = none → H' l = some (.lst (ts.map V.ref)) → Paired (IsPr H') ts prs → tb σ H' fun y H2 => rIxL K (.ref l) y H2 fun v H3 => g v σ H3 fun σ2 H4 => u D σ2 H4) : tSeq (tAsg (tOp (rIxL K) (tLst (pairsT prs)) tb) g) u D σ H := pairs_list (σ := σ) (H := H) (Q := fun x H1 => tb σ H1 fun y H2 => rIxL K x y H2 fun v H3 => g v σ H3 fun σ2 H4 => u D σ2 H4) hl h
section
variable {P : Program} {w : World} {K : PySem.W.Frag} {mg : Str → Option Value} {base : Heap}
theorem ok_lsw {f : Addr} {fd : FuncData} {k : Nat} (F : Fun K "_law_shown" "_law_shown" sLsw f fd) (T : TxtLw P w K mg base) : FnOk P w K mg base CX0 (k + 2) f fd ["riddle", "weights"] spLsw := by
  refine F.ok scLsw (fun vs H Q E h => ?_) (fun cdv A outer s H vs Q E hr h => ?_)
  · obtain ⟨ri, wl, wds, many, hues, ws, rfl, _⟩ := h
    rfl
  · obtain ⟨ri, wl, wds, many, hues, ws, rfl, hrd, gr, hw, gw, el, q⟩ := h
    refine ⟨_, (pss_cons (ps_for PassesOwn.never rfl (pi_range1 (by rfl) T.m_range (pa_cons (pe_callB call_len_seq (by rfl) T.m_len (by decide +kernel) (pa_cons (pe_ix ix_tup (pv 0) pe_int (fun _ _ => rfl)) pa_nil)) pa_nil)) (pg_name (i := 2) scLsw.nd rfl (Or.inl rfl))
  (pss_cons (ps_asg (pe_ix ix_list (pv 1) (pv 2) (fun _ _ => rfl)) (pg_tup rfl (pgs_cons (pg_name (i := 3) scLsw.nd rfl (Or.inl rfl)) (pgs_cons (pg_name (i := 4) scLsw.nd rfl (Or.inl rfl)) pgs_nil))))
  (pss_cons (ps_for PassesOwn.never rfl (pi_range1 (by rfl) T.m_range (pa_cons (pe_callB call_len_seq (by rfl) T.m_len (by decide +kernel) (pa_cons (pe_ix ix_tup (pv 0) pe_int (fun _ _ => rfl)) pa_nil)) pa_nil)) (pg_name (i := 5) scLsw.nd rfl (Or.inl rfl))
  (pss_one (ps_if (PW.pt (pw_and (pt_cmpR op_ne (pv 5) (pv 2) (nomark _)) (pw_and1 (pt_val (pe_cal T.c__law_clash (hr.mono (by omega)) (by rfl) (pa_cons (pv 0) (pa_cons (pv 2) (pa_cons (pv 5) pa_nil))))))))
  (pss_cons (ps_set (i := 3) scLsw.nd rfl (Or.inl rfl) (pe_op op_mul (pv 3) (pe_op op_sub (pe_ix ix_tup (pe_ix ix_list (pv 1) (pv 5) (fun _ _ => rfl)) pe_int (fun _ _ => rfl)) (pe_ix ix_tup (pe_ix ix_list (pv 1) (pv 5) (fun _ _ => rfl)) pe_int (fun _ _ => rfl)))))
  (pss_one (ps_set (i := 4) scLsw.nd rfl (Or.inl rfl) (pe_op op_mul (pv 4) (pe_ix ix_tup (pe_ix ix_list (pv 1) (pv 5) (fun _ _ => rfl)) pe_int (fun _ _ => rfl)))))) pss_nil)))
  (pss_cons (ps_asg (pe_cal T.c__law_share (hr.mono (by omega)) (by rfl) (pa_cons (pv 0) (pa_cons (pv 2) pa_nil))) (pg_tup rfl (pgs_cons (pg_name (i := 6) scLsw.nd rfl (Or.inl rfl)) (pgs_cons (pg_name (i := 7) scLsw.nd rfl (Or.inl rfl)) pgs_nil))))
  (pss_one (ps_if (pt_cmpR op_gt (pe_op op_mul (pv 6) (pv 4)) (pe_op op_mul (pv 3) (pv 7)) (nomark _))
  (pss_one (ps_ret pe_bl)) pss_nil))))))
  (pss_one (ps_ret pe_bl))), ?_⟩
    obtain ⟨wt, was, r1, r2, r3⟩ := id hrd
    have hl : was.length = wds.length := pairedLen r3
    have e8 := gr.eight
    have hh2 := gr.h2
    have hh4 := gr.h4
    obtain ⟨ts, h1, h2⟩ := id hw
    have tl := pairedLen h2
    have at_ : ∀ j : Nat, j < ws.length → ∃ t, ts[j]? = some t ∧ IsPr H t (wAt ws j) := fun j hj => by
      have hj2 : j < ts.length := by omega
      obtain ⟨x, hx, is⟩ := pairedGetL h2 (List.getElem?_eq_getElem hj2)
      have := Option.some.inj (hx.symm.trans (wAt_get hj))
      subst this
      exact ⟨_, List.getElem?_eq_getElem hj2, is⟩
    refine ⟨.ref ri, rfl, ri, _, 2, _, rfl, rfl, .inl (.inl r1), atI_nat (j := 2) rfl, wt, _, rfl, .inr (.inl (.inl r2)), _, rfl, by omega, by rw [List.length_map]; omega, ?_⟩
    refine for_range (lo := 0) (n := (was.map V.ref).length) (fun i σ H3 => Same H H3 ∧ (∀ j, j < i → okW wds hues ws j = true) ∧ ∃ y2 y3 y4 y5 y6 y7, σ = [some (.ref ri), some (.ref wl), y2, y3, y4, y5, y6, y7]) ⟨fun _ _ e => e, fun j z => absurd z (Nat.not_lt_zero _), none, none, none, none, none, none, rfl⟩ (fun i σ H3 hi p => ?_) (fun σ H3 p => ?_)
    · obtain ⟨s3, no, y2, y3, y4, y5, y6, y7, rfl⟩ := p
      rw [List.length_map] at hi
      have e0 : (0 : Int) + (i : Int) = i := Int.zero_add _
      rw [e0]
      have hiw : i < ws.length := by omega
      obtain ⟨ti, eti, isi⟩ := at_ i hiw
      obtain ⟨wd, hwd⟩ : ∃ wd, wds[i]? = some wd := ⟨_, List.getElem?_eq_getElem (show i < wds.length by omega)⟩
      have gwd := gr.each _ (List.mem_of_getElem? hwd)
      have g3 := gwd.three
      have g64 := gwd.few
      have e1 := every_pos (wd := wd) hh2
      have e2 := every_le (wd := wd) hh2 hh4 g3
      refine ⟨.ref wl, rfl, .int i, rfl, wl, _, _, _, rfl, rfl, .inl (.inl (s3 _ _ h1)), atI_nat (map_at eti), ti, _, rfl, .inl (.inl (s3 _ _ isi)), rfl, .int (wAt ws i).1, [.int (wAt ws i).2], rfl, .int (wAt ws i).2, [], rfl, rfl, ?_⟩
      refine ⟨.ref ri, rfl, ri, _, 2, _, rfl, rfl, .inl (.inl (s3 _ _ r1)), atI_nat (j := 2) rfl, wt, _, rfl, .inr (.inl (.inl (s3 _ _ r2))), _, rfl, by omega, by rw [List.length_map]; omega, ?_⟩
      refine for_range (lo := 0) (n := (was.map V.ref).length) (fun j σ H4 => Same H3 H4 ∧ ∃ y5 y6 y7, σ = [some (.ref ri), some (.ref wl), some (.int i), some (.int (roomF ws i (clsL wds wd j)).1), some (.int (roomF ws i (clsL wds wd j)).2), y5, y6, y7]) ⟨fun _ _ e => e, _, _, _, rfl⟩ (fun j σ H4 hj p => ?_) (fun σ H4 p => ?_)
      · obtain ⟨s4, y5, y6, y7, rfl⟩ := p
        rw [List.length_map] at hj
        have e0 : (0 : Int) + (j : Int) = j := Int.zero_add _
        rw [e0]
        have hjw : j < ws.length := by omega
        obtain ⟨tj, etj, isj⟩ := at_ j hjw
        have wj := wAt_ok gw hjw
        obtain ⟨wb, hwb⟩ : ∃ wb, wds[j]? = some wb := ⟨_, List.getElem?_eq_getElem (show j < wds.length by omega)⟩
        have s04 := s3.trans s4
        refine ⟨.int j, rfl, .int i, rfl, rfl, _, rfl, ite2 (fun e => ?_) (fun e => ?_)⟩
        · have ne : ¬ (j : Int) = (i : Int) := fun c => by rw [c] at e; exact absurd e (by simp)
          refine ⟨.ref ri, rfl, .int i, rfl, .int j, rfl, ri, i, j, wds, wd, wb, many, hues, rfl, hrd.mono (tups_same s04), hwd, hwb, gr, fun H5 s5 => ⟨_, rfl, ite2 (fun c => ?_) (fun c => ?_)⟩⟩
          · have sn := room_snoc ws i (clsL wds wd j) j
            rw [← clsL_yes ((clAt_of hwb).trans c), stepW, if_neg ne, Int.toNat_natCast] at sn
            have s05 := s04.trans s5
            refine ⟨_, rfl, .ref wl, rfl, .int j, rfl, wl, _, _, _, rfl, rfl, .inl (.inl (s05 _ _ h1)), atI_nat (map_at etj), tj, _, 1, _, rfl, rfl, .inl (.inl (s05 _ _ isj)), atI_nat (j := 1) rfl, .ref wl, rfl, .int j, rfl, wl, _, _, _, rfl, rfl, .inl (.inl (s05 _ _ h1)), atI_nat (map_at etj), tj, _, 0, _, rfl, rfl, .inl (.inl (s05 _ _ isj)), atI_nat (j := 0) rfl, _, _, rfl, rfl, _, _, rfl, rfl, .inr ⟨by omega, by omega⟩, ?_⟩
            refine ⟨_, rfl, .ref wl, rfl, .int j, rfl, wl, _, _, _, rfl, rfl, .inl (.inl (s05 _ _ h1)), atI_nat (map_at etj), tj, _, 1, _, rfl, rfl, .inl (.inl (s05 _ _ isj)), atI_nat (j := 1) rfl, _, _, rfl, rfl, .inr ⟨by omega, by omega⟩, s4.trans s5, some (.int j), y6, y7, ?_⟩
            rw [sn]
            rfl
          · refine ⟨s4.trans s5, some (.int j), y6, y7, ?_⟩
            rw [clsL_no ((clAt_of hwb).trans (Bool.eq_false_iff.mpr c))]
            rfl
        · have eq : (j : Int) = (i : Int) := by
            by_cases c : (j : Int) = (i : Int)
            · exact c
            · exact absurd (show (!decide (V.int j = V.int i)) = true by simp; omega) e
          refine ⟨s4, some (.int j), y6, y7, ?_⟩
          have sn : roomF ws i (clsL wds wd (j + 1)) = roomF ws i (clsL wds wd j) := by
            cases c : clAt wds wd j with
            | true => rw [clsL_yes c, room_snoc, stepW, if_pos eq]
            | false => rw [clsL_no c]
          rw [sn]
          rfl
      · obtain ⟨s4, y5, y6, y7, rfl⟩ := p
        rw [List.length_map, hl]
        have s04 := s3.trans s4
        refine ⟨.ref ri, rfl, .int i, rfl, ri, i, wds, wd, many, hues, rfl, hrd.mono (tups_same s04), hwd, gwd, hh2, hh4, fun H5 t5 s5 nt5 p5 => ?_⟩
        refine ⟨t5, _, rfl, .inl (.inl p5), rfl, .int (wd.2.length : Nat), [.int (everyI wd hues)], rfl, .int (everyI wd hues), [], rfl, rfl, ?_⟩
        refine ⟨_, rfl, _, rfl, _, _, rfl, rfl, .inl ⟨by omega, by omega⟩, _, rfl, _, rfl, _, _, rfl, rfl, .inr ⟨by omega, by omega⟩, _, _, rfl, rfl, _, rfl, ite2 (fun e => ?_) (fun e => ?_)⟩
        · have lt := of_decide_eq_true e
          have c : okW wds hues ws i = false := by
            rw [okW_of hwd]
            exact decide_eq_false (by omega)
          have := q H5 (s04.trans s5)
          rw [shown_no (by omega) c] at this
          exact this
        · have c : okW wds hues ws i = true := by
            rw [okW_of hwd]
            refine decide_eq_true ?_
            by_cases z : (roomF ws i (clsL wds wd wds.length)).1 * everyI wd hues < (wd.2.length : Int) * (roomF ws i (clsL wds wd wds.length)).2
            · exact absurd (decide_eq_true z) e
            · omega
          refine ⟨s04.trans s5, fun j hj => ?_, _, _, _, _, _, _, rfl⟩
          by_cases z : j = i
          · rw [z]; exact c
          · exact no j (by omega)
    · obtain ⟨s3, no, y2, y3, y4, y5, y6, y7, rfl⟩ := p
      rw [List.length_map, hl] at no
      have := q H3 s3
      rw [shown_yes no] at this
      exact this
theorem ok_spa {f : Addr} {fd : FuncData} {k : Nat} (F : Fun K "_law_sparse" "_law_sparse" sSpa f fd) (T : TxtSp P w K mg base) : FnOk P w K mg base CX0 (k + 3) f fd ["tape"] spSpa := by
  refine F.ok scSpa (fun vs H Q E h => ?_) (fun cdv A outer s H vs Q E hr h => ?_)
  · obtain ⟨tp, rfl, _⟩ := h
    rfl
  · obtain ⟨tp, rfl, hT, q⟩ := h
    refine ⟨_, (pss_cons (ps_asg (pe_ix ix_list (pe_lst (pa_cons (pe_tup (pa_cons pe_int (pa_cons pe_int pa_nil))) (pa_cons (pe_tup (pa_cons pe_int (pa_cons pe_int pa_nil))) (pa_cons (pe_tup (pa_cons pe_int (pa_cons pe_int pa_nil))) (pa_cons (pe_tup (pa_cons pe_int (pa_cons pe_int pa_nil))) (pa_cons (pe_tup (pa_cons pe_int (pa_cons pe_int pa_nil))) (pa_cons (pe_tup (pa_cons pe_int (pa_cons pe_int pa_nil))) (pa_cons (pe_tup (pa_cons pe_int (pa_cons pe_int pa_nil))) (pa_cons (pe_tup (pa_cons pe_int (pa_cons pe_int pa_nil))) pa_nil))))))))) (pe_cal T.c__law_digit (hr.mono (by omega)) (by rfl) (pa_cons (pv 0) (pa_cons pe_int pa_nil))) (fun _ _ => rfl)) (pg_tup rfl (pgs_cons (pg_name (i := 1) scSpa.nd rfl (Or.inl rfl)) (pgs_cons (pg_name (i := 2) scSpa.nd rfl (Or.inl rfl)) pgs_nil))))
  (pss_cons (ps_set (i := 3) scSpa.nd rfl (Or.inl rfl) (pe_lst pa_nil))
  (pss_cons (ps_for PassesOwn.never rfl (pi_range1 (by rfl) T.m_range (pa_cons (pe_cal T.c__law_digit (hr.mono (by omega)) (by rfl) (pa_cons (pv 0) (pa_cons pe_int pa_nil))) pa_nil)) (pg_name (i := 4) scSpa.nd rfl (Or.inl rfl))
  (pss_cons (ps_set (i := 5) scSpa.nd rfl (Or.inl rfl) (pe_cal T.c__law_wish (hr.mono (by omega)) (by rfl) (pa_cons (pv 0) (pa_cons (pv 1) (pa_cons (pv 2) (pa_cons pe_int pa_nil))))))
  (pss_cons (ps_for PassesOwn.never rfl (pi_range1 (by rfl) T.m_range (pa_cons pe_int pa_nil)) (pg_name (i := 6) scSpa.nd rfl (Or.inl rfl))
  (pss_one (ps_if (pt_cmpR op_lt (pe_callB call_len_seq (by rfl) T.m_len (by decide +kernel) (pa_cons (pe_ix ix_tup (pv 5) pe_int (fun _ _ => rfl)) pa_nil)) pe_int (nomark _))
  (pss_one (ps_set (i := 5) scSpa.nd rfl (Or.inl rfl) (pe_cal T.c__law_wish (hr.mono (by omega)) (by rfl) (pa_cons (pv 0) (pa_cons (pv 1) (pa_cons (pv 2) (pa_cons pe_int pa_nil))))))) pss_nil)))
  (pss_one (ps_expr (pe_bm PySem.F.plainAttrs_list PySem.F.slot_list_append PySem.F.type_list_append mt_append (pv 3) (pa_cons (pv 5) pa_nil)))))))
  (pss_one (ps_ret (pe_tup (pa_cons (pv 1) (pa_cons (pv 2) (pa_cons (pe_callTy call_tuple_of (by rfl) T.m_tuple (by decide +kernel) (pa_cons (pv 3) pa_nil)) pa_nil))))))))), ?_⟩
    refine pairs_ixs (prs := szC) (by decide) fun l ts H1 s1 nl hl pr => ?_
    have hT1 := hT.same s1
    have nlt : l ≠ tp := hT.new nl
    refine ⟨.ref tp, rfl, tp, 8, rfl, hT1, by decide, by decide, fun H3 d D3 d0 d1 => ?_⟩
    have hd : d.toNat < ts.length := by rw [pairedLen pr]; show d.toNat < 8; omega
    obtain ⟨p, hp, isp⟩ := pairedGetL pr (List.getElem?_eq_getElem hd)
    have ok := szC_ok p (List.mem_of_getElem? hp)
    obtain ⟨k1, k6, hh2, hh4, kp⟩ := id ok
    obtain ⟨many, hues⟩ := p
    dsimp only at k1 k6 hh2 hh4
    refine ⟨l, _, d, _, rfl, rfl, .inl (.inl (D3.1 _ _ nlt hl)), atI_of d0 (List.getElem?_eq_getElem hd), _, _, rfl, .inl (.inl (D3.tups hT1 _ _ isp)), rfl, .int many, [.int hues], rfl, .int hues, [], rfl, rfl, ?_⟩
    have E3 : Taped tp H H3 := ((Taped.refl hT).same s1).trans D3
    refine ⟨(by show 0 ≤ sizeLine; decide), fun lw nlw => ?_⟩
    have nw := E3.2.new nlw
    have nw0 : H lw = none := E3.free nlw
    have E4 := E3.put (o := .lst []) nw0 nw
    have hw4 : upd H3 lw (.lst []) lw = some (.lst []) := upd_same
    generalize upd H3 lw (.lst []) = H4 at E4 hw4
    refine ⟨.ref tp, rfl, tp, 6, rfl, E4.2, by decide, by decide, fun H5 nn D5 n0 n1 => ⟨nn, rfl, by omega, by omega, ?_⟩⟩
    have E5 := E4.trans D5
    refine for_range (lo := 0) (n := nn.toNat) (fun i σ H6 => Taped tp H H6 ∧ (∃ (was : List Addr) (wds : List WD), H6 lw = some (.lst (was.map V.ref)) ∧ was.length = i ∧ Paired (IsWish H6) was wds ∧ (∀ wd ∈ wds, Good many hues wd) ∧ ∀ wd ∈ wds, Neat wd) ∧ ∃ y4 y5 y6, σ = [some (.ref tp), some (.int many), some (.int hues), some (.ref lw), y4, y5, y6]) ⟨E5, ⟨[], [], D5.1 lw _ nw hw4, rfl, .nil, (fun _ h => nomatch h), (fun _ h => nomatch h)⟩, none, none, none, rfl⟩ (fun i σ H6 hi p => ?_) (fun σ H6 p => ?_)
    · obtain ⟨E6, ⟨was, wds, hw6, wl6, pw, gd, ne⟩, y4, y5, y6, rfl⟩ := p
      refine ⟨.ref tp, rfl, .int many, rfl, .int hues, rfl, tp, many, hues, 1, rfl, E6.2, k1, k6, hh2, hh4, by decide, by decide, fun H7 wa wd D7 isw gw nw2 => ?_⟩
      refine ⟨3, rfl, by decide, by decide, for_range (lo := 0) (n := 3) (fun j σ H8 => Taped tp H H8 ∧ Taped tp H6 H8 ∧ (∃ wa wd, IsWish H8 wa wd ∧ Good many hues wd ∧ Neat wd ∧ ∃ y6, σ = [some (.ref tp), some (.int many), some (.int hues), some (.ref lw), some (.int (0 + (i : Int))), some (.ref wa), y6])) ⟨E6.trans D7, D7, wa, wd, isw, gw, nw2, _, rfl⟩ (fun j σ H8 hj p => ?_) (fun σ H8 p => ?_)⟩
      · obtain ⟨E8, D8, wa, wd, isw, gw, nw2, y6, rfl⟩ := p
        obtain ⟨pa, ra, rs, w1, w2, w3, w4⟩ := id isw
        refine ⟨.ref wa, rfl, wa, _, 0, _, rfl, rfl, .inl (.inl w1), atI_nat (j := 0) rfl, pa, _, rfl, .inr (.inl (.inl w2)), _, _, rfl, rfl, _, rfl, ite2 (fun e => ?_) (fun e => ?_)⟩
        · refine ⟨.ref tp, rfl, .int many, rfl, .int hues, rfl, tp, many, hues, 1, rfl, E8.2, k1, k6, hh2, hh4, by decide, by decide, fun H9 wa9 wd9 D9 isw9 gw9 nw9 => ?_⟩
          exact ⟨E8.trans D9, D8.trans D9, wa9, wd9, isw9, gw9, nw9, _, rfl⟩
        · exact ⟨E8, D8, wa, wd, isw, gw, nw2, _, rfl⟩
      · obtain ⟨E8, D8, wa, wd, isw, gw, nw2, y6, rfl⟩ := p
        have hw8 := D8.1 lw _ nw hw6
        have tu : Tups H8 (upd H8 lw (.lst (was.map V.ref ++ [.ref wa]))) := tups_upd fun xs z => by rw [hw8] at z; cases z
        refine ⟨.ref lw, rfl, .inl ⟨rfl, _, .inl (.inl hw8)⟩, .ref wa, rfl, lw, _, .ref wa, rfl, rfl, hw8, ?_, E8.put nw0 nw, ⟨was ++ [wa], wds ++ [wd], ?_, ?_, pairedSnoc (pairedMap (fun _ _ e => IsWish.mono ((D8.tups E6.2).trans tu) e) pw) (isw.mono tu), ?_, ?_⟩, _, _, _, rfl⟩
        · rw [List.length_map, wl6]
          exact small1000 (by omega)
        · rw [upd_same, List.map_append]
          rfl
        · rw [List.length_append, wl6]
          rfl
        · intro wd' h'
          rcases List.mem_append.mp h' with h' | h'
          · exact gd wd' h'
          · rw [List.mem_singleton.mp h']
            exact gw
        · intro wd' h'
          rcases List.mem_append.mp h' with h' | h'
          · exact ne wd' h'
          · rw [List.mem_singleton.mp h']
            exact nw2
    · obtain ⟨E6, ⟨was, wds, hw6, wl6, pw, gd, ne⟩, y4, y5, y6, rfl⟩ := p
      refine ⟨.int many, rfl, .int hues, rfl, .ref lw, rfl, lw, _, rfl, .inl ⟨.inl (.inl hw6), fun wt nwt => ?_⟩⟩
      have st := same_upd (o := .tup (was.map V.ref)) nwt
      refine ⟨(by show 3 ≤ sizeLine; decide), fun ri nri => ?_⟩
      have sr := same_upd (o := .tup [.int many, .int hues, .ref wt]) nri
      refine q _ ri many hues wds ((E6.same st).same sr) ⟨wt, was, upd_same, sr _ _ upd_same, pairedMap (fun _ _ e => IsWish.mono (tups_same (st.trans sr)) e) pw⟩ ⟨k1, k6, hh2, hh4, ?_, gd⟩ ne ok
      rw [← pairedLen pw]
      omega
end
end Rd

set_option Elab.async false
set_option linter.all false
set_option maxRecDepth 100000
set_option maxHeartbeats 4000000
namespace Rd
open PySem PySem.Spec PyProof.Rows L2 Dt
section
variable {P : Program} {w : World} {K : PySem.W.Frag} {mg : Str → Option Value} {base : Heap}
theorem ok_lwe {f : Addr} {fd : FuncData} {k : Nat} (F : Fun K "_law_weights" "_law_weights" sLwe f fd) (T : TxtWe P w K mg base) : FnOk P w K mg base CX0 (k + 2) f fd ["tape", "riddle"] spLwe := by
  refine F.ok scLwe (fun vs H Q E h => ?_) (fun cdv A outer s H vs Q E hr h => ?_)
  · obtain ⟨tp, ri, wds, many, hues, rfl, _⟩ := h
    rfl
  · obtain ⟨tp, ri, wds, many, hues, rfl, hT, hrd, gr, q⟩ := h
    refine ⟨_, (pss_cons (ps_set (i := 2) scLwe.nd rfl (Or.inl rfl) (pe_lst pa_nil))
  (pss_cons (ps_for PassesOwn.never rfl (pi_range1 (by rfl) T.m_range (pa_cons (pe_callB call_len_seq (by rfl) T.m_len (by decide +kernel) (pa_cons (pe_ix ix_tup (pv 1) pe_int (fun _ _ => rfl)) pa_nil)) pa_nil)) (pg_name (i := 3) scLwe.nd rfl (Or.inl rfl))
  (pss_cons (ps_asg (pe_cal T.c__law_share (hr.mono (by omega)) (by rfl) (pa_cons (pv 1) (pa_cons (pv 3) pa_nil))) (pg_tup rfl (pgs_cons (pg_name (i := 4) scLwe.nd rfl (Or.inl rfl)) (pgs_cons (pg_name (i := 5) scLwe.nd rfl (Or.inl rfl)) pgs_nil))))
  (pss_cons (ps_set (i := 6) scLwe.nd rfl (Or.inl rfl) (pe_op op_add pe_int (pe_cal T.c__law_digit (hr.mono (by omega)) (by rfl) (pa_cons (pv 0) (pa_cons pe_int pa_nil)))))
  (pss_cons (ps_set (i := 7) scLwe.nd rfl (Or.inl rfl) (pe_lst (pa_cons (pe_tup (pa_cons (pe_op op_add pe_int (pe_cal T.c__law_digit (hr.mono (by omega)) (by rfl) (pa_cons (pv 0) (pa_cons (pe_op op_sub (pv 6) pe_int) pa_nil)))) (pa_cons (pv 6) pa_nil))) (pa_cons (pe_tup (pa_cons pe_int (pa_cons pe_int pa_nil))) (pa_cons (pe_tup (pa_cons (pe_op op_mul pe_int (pv 4)) (pa_cons (pe_op op_add (pe_op op_mul pe_int (pv 5)) pe_int) pa_nil))) (pa_cons (pe_tup (pa_cons (pv 4) (pa_cons (pe_op op_add (pv 5) pe_int) pa_nil))) pa_nil))))))
  (pss_cons (ps_set (i := 8) scLwe.nd rfl (Or.inl rfl) (pe_ix ix_list (pv 7) (pe_cal T.c__law_digit (hr.mono (by omega)) (by rfl) (pa_cons (pv 0) (pa_cons pe_int pa_nil))) (fun _ _ => rfl)))
  (C8.pss_cut (ps_if (pt_cmpR op_ge (pe_ix ix_tup (pv 8) pe_int (fun _ _ => rfl)) (pe_ix ix_tup (pv 8) pe_int (fun _ _ => rfl)) (nomark _))
  (pss_one (ps_set (i := 8) scLwe.nd rfl (Or.inl rfl) (pe_tup (pa_cons pe_int (pa_cons pe_int pa_nil))))) pss_nil)
  (pss_one (ps_expr (pe_bm PySem.F.plainAttrs_list PySem.F.slot_list_append PySem.F.type_list_append mt_append (pv 2) (pa_cons (pe_cal T.c__law_lowest (hr.mono (by omega)) (by rfl) (pa_cons (pe_ix ix_tup (pv 8) pe_int (fun _ _ => rfl)) (pa_cons (pe_ix ix_tup (pv 8) pe_int (fun _ _ => rfl)) pa_nil))) pa_nil))))))))))
  (pss_one (ps_ret (pv 2))))), ?_⟩
    obtain ⟨wt, was, r1, r2, r3⟩ := id hrd
    have hl : was.length = wds.length := pairedLen r3
    have e8 := gr.eight
    have hh2 := gr.h2
    have hh4 := gr.h4
    refine ⟨(by show 0 ≤ sizeLine; decide), fun lf nlf => ?_⟩
    have slf := same_upd (o := .lst []) nlf
    have ntf := hT.new nlf
    refine ⟨.ref ri, rfl, ri, _, 2, _, rfl, rfl, .inl (.inl (slf _ _ r1)), atI_nat (j := 2) rfl, wt, _, rfl, .inr (.inl (.inl (slf _ _ r2))), _, rfl, by omega, by rw [List.length_map]; omega, ?_⟩
    refine for_range (lo := 0) (n := (was.map V.ref).length) (fun i σ H3 => Taped tp H H3 ∧ (∃ (ts : List Addr) (ws : List Fc), H3 lf = some (.lst (ts.map V.ref)) ∧ ts.length = i ∧ Paired (IsPr H3) ts ws ∧ GoodW 150 ws) ∧ ∃ y3 y4 y5 y6 y7 y8, σ = [some (.ref tp), some (.ref ri), some (.ref lf), y3, y4, y5, y6, y7, y8]) ⟨(Taped.refl hT).same slf, ⟨[], [], upd_same, rfl, .nil, ⟨fun _ h => nomatch h⟩⟩, none, none, none, none, none, none, rfl⟩ (fun i σ H3 hi p => ?_) (fun σ H3 p => ?_)
    · obtain ⟨E3, ⟨ts, ws, hf3, tl3, pt, gw⟩, y3, y4, y5, y6, y7, y8, rfl⟩ := p
      rw [List.length_map] at hi
      have e0 : (0 : Int) + (i : Int) = i := Int.zero_add _
      rw [e0]
      obtain ⟨wd, hwd⟩ : ∃ wd, wds[i]? = some wd := ⟨_, List.getElem?_eq_getElem (show i < wds.length by omega)⟩
      have gwd := gr.each _ (List.mem_of_getElem? hwd)
      have g1 := gwd.some_
      have g64 := gwd.few
      have e1 := every_pos (wd := wd) hh2
      have e2 := every_le (wd := wd) hh2 hh4 gwd.three
      -- rows, every
      refine ⟨.ref ri, rfl, .int i, rfl, ri, i, wds, wd, many, hues, rfl, hrd.mono (E3.tups hT), hwd, gwd, hh2, hh4, fun H4 t4 s4 nt4 p4 => ?_⟩
      refine ⟨t4, _, rfl, .inl (.inl p4), rfl, .int (wd.2.length : Nat), [.int (everyI wd hues)], rfl, .int (everyI wd hues), [], rfl, rfl, ?_⟩
      generalize everyI wd hues = ev at e1 e2
      generalize er : ((wd.2.length : Nat) : Int) = rw_ at *
      have rw1 : 1 ≤ rw_ := by omega
      have rw64 : rw_ ≤ 64 := by omega
      have D4 : Taped tp H3 H4 := (Taped.refl E3.2).same s4
      -- below
      refine ⟨.ref tp, rfl, tp, 60, rfl, D4.2, by decide, by decide, fun H5 bx D5 b0 b1 => ⟨2, bx, rfl, rfl, ?_⟩⟩
      have bb1 : 2 ≤ 2 + bx := by omega
      have bb2 : 2 + bx ≤ 61 := by omega
      dsimp only
      generalize 2 + bx = be at bb1 bb2
      have D35 := D4.trans D5
      -- some
      refine ⟨.ref tp, rfl, .int be, rfl, be, 1, rfl, rfl, tp, be - 1, rfl, D35.2, by omega, log_small (by omega) (by omega), fun H6 d D6 d0 d1 => ⟨1, d, rfl, rfl, .int be, rfl, (by show 2 ≤ sizeLine; decide), fun t1 nt1 => ⟨(by show 2 ≤ sizeLine; decide), fun t2 nt2 => ⟨.int rw_, rfl, 2, rw_, rfl, rfl, .inl ⟨by omega, by omega⟩, .int ev, rfl, 2, ev, rfl, rfl, .inl ⟨by omega, by omega⟩, _, 1, rfl, rfl, (by show 2 ≤ sizeLine; decide), fun t3 nt3 => ⟨.int rw_, rfl, .int ev, rfl, ev, 1, rfl, rfl, (by show 2 ≤ sizeLine; decide), fun t5 nt5 => ⟨(by show 4 ≤ sizeLine; decide), fun ls nls => ?_⟩⟩⟩⟩⟩⟩
      have D36 := D35.trans D6
      have u1 := same_upd (o := .tup [.int (1 + d), .int be]) nt1
      have u2 := same_upd (o := .tup [.int 1, .int 2]) nt2
      have u3 := same_upd (o := .tup [.int (2 * rw_), .int (2 * ev + 1)]) nt3
      have u5 := same_upd (o := .tup [.int rw_, .int (ev + 1)]) nt5
      have us := same_upd (o := .lst [V.ref t1, .ref t2, .ref t3, .ref t5]) nls
      have D37 := ((((D36.same u1).same u2).same u3).same u5).same us
      have nst : ls ≠ tp := ((((D36.same u1).same u2).same u3).same u5).2.new nls
      have prs : Paired (IsPr _) [t1, t2, t3, t5] [(1 + d, be), (1, 2), (2 * rw_, 2 * ev + 1), (rw_, ev + 1)] := .cons (us _ _ (u5 _ _ (u3 _ _ (u2 _ _ upd_same)))) (.cons (us _ _ (u5 _ _ (u3 _ _ upd_same))) (.cons (us _ _ (u5 _ _ upd_same)) (.cons (us _ _ upd_same) .nil)))
      have hls := (upd_same : upd (upd (upd (upd (upd H6 t1 (.tup [.int (1 + d), .int be])) t2 (.tup [.int 1, .int 2])) t3 (.tup [.int (2 * rw_), .int (2 * ev + 1)])) t5 (.tup [.int rw_, .int (ev + 1)])) ls (.lst [V.ref t1, .ref t2, .ref t3, .ref t5]) ls = some (.lst ([t1, t2, t3, t5].map V.ref)))
      generalize upd (upd (upd (upd (upd H6 t1 (.tup [.int (1 + d), .int be])) t2 (.tup [.int 1, .int 2])) t3 (.tup [.int (2 * rw_), .int (2 * ev + 1)])) t5 (.tup [.int rw_, .int (ev + 1)])) ls (.lst [V.ref t1, .ref t2, .ref t3, .ref t5]) = H7 at D37 prs hls
      have good : ∀ x ∈ [(1 + d, be), (1, 2), (2 * rw_, 2 * ev + 1), (rw_, ev + 1)], 1 ≤ x.1 ∧ x.2 ≤ 150 := by
        intro x hx
        simp only [List.mem_cons, List.mem_singleton, List.not_mem_nil, or_false] at hx
        rcases hx with rfl | rfl | rfl | rfl <;> dsimp only <;> omega
      -- one
      refine ⟨.ref ls, rfl, .ref tp, rfl, tp, 4, rfl, D37.2, by decide, by decide, fun H8 c D8 c0 c1 => ?_⟩
      have hc : c.toNat < [t1, t2, t3, t5].length := by show c.toNat < 4; omega
      obtain ⟨x, hx, isx⟩ := pairedGetL prs (List.getElem?_eq_getElem hc)
      obtain ⟨gx1, gx2⟩ := good x (List.mem_of_getElem? hx)
      have isx8 := D8.tups D37.2 _ _ isx
      have D38 := D37.trans D8
      refine ⟨ls, _, c, _, rfl, rfl, .inl (.inl (D8.1 _ _ nst hls)), atI_of c0 (List.getElem?_eq_getElem hc), ?_⟩
      refine ⟨fun σ H9 => Taped tp H3 H9 ∧ ∃ t x, IsPr H9 t x ∧ 1 ≤ x.1 ∧ x.1 < x.2 ∧ x.2 ≤ 150 ∧ ∃ y7, σ = [some (.ref tp), some (.ref ri), some (.ref lf), some (.int i), some (.int rw_), some (.int ev), some (.int be), y7, some (.ref t)], ?_, ?_⟩
      · refine ⟨_, rfl, _, _, 0, _, rfl, rfl, .inl (.inl isx8), atI_nat (j := 0) rfl, _, rfl, _, _, 1, _, rfl, rfl, .inl (.inl isx8), atI_nat (j := 1) rfl, _, _, rfl, rfl, _, rfl, ite2 (fun e => ?_) (fun e => ?_)⟩
        · refine ⟨(by show 2 ≤ sizeLine; decide), fun t nt => ?_⟩
          exact ⟨D38.same (same_upd nt), t, (1, 2), upd_same, by decide, by decide, by decide, _, rfl⟩
        · have lt : x.1 < x.2 := by
            by_cases z : x.2 ≤ x.1
            · exact absurd (decide_eq_true z) e
            · omega
          exact ⟨D38, _, x, isx8, gx1, lt, gx2, _, rfl⟩
      · rintro σ H9 ⟨D9, t, x, isx, x1, x2, x3, y7, rfl⟩
        have hf9 := D9.1 lf _ ntf hf3
        refine ⟨.ref lf, rfl, .inl ⟨rfl, _, .inl (.inl hf9)⟩, .ref t, rfl, t, _, 0, _, rfl, rfl, .inl (.inl isx), atI_nat (j := 0) rfl, .ref t, rfl, t, _, 1, _, rfl, rfl, .inl (.inl isx), atI_nat (j := 1) rfl, x.1, x.2, rfl, by omega, by omega, log_small (by omega) (by omega), fun H10 tn s10 ntn pn => ?_⟩
        have hf10 := s10 _ _ hf9
        have D10 := D9.same s10
        have tu : Tups H10 (upd H10 lf (.lst (ts.map V.ref ++ [.ref tn]))) := tups_upd fun xs z => by rw [hf10] at z; cases z
        obtain ⟨lo1, lo2⟩ := low_lt x1 x2
        obtain ⟨lo3, lo4, lo5, lo6⟩ := low_ok (a := x.1) (b := x.2) (by omega) (by omega)
        refine ⟨lf, _, .ref tn, rfl, rfl, hf10, ?_, (E3.trans D10).put nlf ntf, ⟨ts ++ [tn], ws ++ [lowI x.1 x.2], ?_, ?_, pairedSnoc (pairedMap (fun _ _ e => tu _ _ (D10.tups E3.2 _ _ e)) pt) (tu _ _ pn), ⟨fun z hz => ?_⟩⟩, _, _, _, _, _, _, rfl⟩
        · rw [List.length_map, tl3]
          exact small1000 (by omega)
        · rw [upd_same, List.map_append]
          rfl
        · rw [List.length_append, tl3]
          rfl
        · rcases List.mem_append.mp hz with z | z
          · exact gw.each _ z
          · rw [List.mem_singleton.mp z]
            exact ⟨lo1, lo2, by omega⟩
    · obtain ⟨E3, ⟨ts, ws, hf3, tl3, pt, gw⟩, y3, y4, y5, y6, y7, y8, rfl⟩ := p
      have pl := pairedLen pt
      rw [List.length_map] at tl3
      exact ⟨.ref lf, rfl, q H3 lf ws E3 nlf ⟨ts, hf3, pt⟩ gw (by omega)⟩
end
end Rd

set_option Elab.async false
set_option linter.all false
set_option maxRecDepth 100000
set_option maxHeartbeats 4000000
namespace Rd
open PySem PySem.Spec PyProof.Rows L2 Dt
abbrev sAlw : Stmt := topS 18
abbrev nAlw : List Str := ["riddle", "a", "wish"]
theorem scAlw : FnScope nAlw ["riddle", "a"] (defScope sAlw) := ⟨rfl, rfl, rfl, by decide +kernel, rfl, by decide +kernel, by decide +kernel⟩
abbrev sLea : Stmt := topS 19
abbrev nLea : List Str := ["riddle", "a"]
theorem scLea : FnScope nLea ["riddle"] (defScope sLea) := ⟨rfl, rfl, rfl, by decide +kernel, rfl, by decide +kernel, by decide +kernel⟩
abbrev sWof : Stmt := topS 20
abbrev nWof : List Str := ["riddle", "a"]
theorem scWof : FnScope nWof ["riddle"] (defScope sWof) := ⟨rfl, rfl, rfl, by decide +kernel, rfl, by decide +kernel, by decide +kernel⟩
abbrev sLkp : Stmt := topS 21
abbrev nLkp : List Str := ["riddle", "weights", "above", "below", "one", "whole"]
theorem scLkp : FnScope nLkp ["riddle", "weights"] (defScope sLkp) := ⟨rfl, rfl, rfl, by decide +kernel, rfl, by decide +kernel, by decide +kernel⟩
abbrev sMmd : Stmt := topS 22
abbrev nMmd : List Str := ["riddle", "weights", "above", "below", "one", "whole", "rest"]
theorem scMmd : FnScope nMmd ["riddle", "weights"] (defScope sMmd) := ⟨rfl, rfl, rfl, by decide +kernel, rfl, by decide +kernel, by decide +kernel⟩
def spAlw : Sp := fun vs H Q _ => ∃ (ri : Addr) (a : Int) (wds : List WD) (many hues : Int), vs = [.ref ri, .int a] ∧ IsRid H ri many hues wds ∧ wds.length ≤ 8 ∧ 0 ≤ a ∧ ∀ H' l, Same H H' → H l = none → IsFrs H' l (alk wds.length a) → Q (.ref l) H'
def spLea (Ps : List Addr) : Sp := fun vs H Q _ => ∃ (ri : Addr) (wds : List WD) (many hues : Int), vs = [.ref ri] ∧ IsRid H ri many hues wds ∧ GoodR many hues wds ∧ Tabs Ps H ∧ ∀ H' r, FrS Ps H H' → Lst wds hues r → Q (vOI r) H'
def spWof (Ps : List Addr) : Sp := fun vs H Q _ => ∃ (ri : Addr) (wds : List WD) (many hues : Int), vs = [.ref ri] ∧ IsRid H ri many hues wds ∧ GoodR many hues wds ∧ Tabs Ps H ∧
  (∀ H', FrS Ps H H' → Lst wds hues none → Q .non H') ∧ (∀ H' a l, FrS Ps H H' → Lst wds hues (some a) → H l = none → IsFrs H' l (alk wds.length a) → Q (.ref l) H')
def spLkp : Sp := fun vs H Q _ => ∃ (ri wl : Addr) (wds : List WD) (many hues : Int) (ws : List Fc), vs = [.ref ri, .ref wl] ∧ IsRid H ri many hues wds ∧ GoodR many hues wds ∧ IsFrs H wl ws ∧ GoodW 150 ws ∧ ws.length ≤ 8 ∧
  ∀ H' t, Same H H' → H t = none → IsPr H' t (lowI (keptF (hues ^ many.toNat) ws).1 (keptF (hues ^ many.toNat) ws).2) → Q (.ref t) H'
def spMmd : Sp := fun vs H Q _ => ∃ (v : V) (wl : Addr) (ws : List Fc), vs = [v, .ref wl] ∧ IsFrs H wl ws ∧ GoodW 150 ws ∧ ws.length ≤ 8 ∧
  ∀ H' t, Same H H' → H t = none → IsPr H' t (lowI (mendF ws).1 (mendF ws).2) → Q (.ref t) H'
structure TxtAw (P : Program) (w : World) (K : PySem.W.Frag) (mg : Str → Option Value) (base : Heap) : Prop where
  g_PARTS : ∃ u, mg "PARTS" = some u ∧ RelV (.int 64) u
  c_lowest : Cal P w K mg base 2 "lowest" ["above", "below"] spLow
structure TxtLa (P : Program) (w : World) (K : PySem.W.Frag) (mg : Str → Option Value) (base : Heap) (Ps : List Addr) : Prop where
  m_range : mg "range" = none
  g_PARTS : ∃ u, mg "PARTS" = some u ∧ RelV (.int 64) u
  c_alike_weights : Cal P w K mg base 3 "alike_weights" ["riddle", "a"] spAlw
  c_shows_soon : Cal P w K mg base 6 "shows_soon" ["riddle", "weights"] (spSho Ps)
structure TxtWo (P : Program) (w : World) (K : PySem.W.Frag) (mg : Str → Option Value) (base : Heap) (Ps : List Addr) : Prop where
  c_least_a : Cal P w K mg base 7 "least_a" ["riddle"] (spLea Ps)
  c_alike_weights : Cal P w K mg base 3 "alike_weights" ["riddle", "a"] spAlw
structure TxtLk (P : Program) (w : World) (K : PySem.W.Frag) (mg : Str → Option Value) (base : Heap) : Prop where
  c_lowest : Cal P w K mg base 2 "lowest" ["above", "below"] spLow
  c_fillings_number : Cal P w K mg base 1 "fillings_number" ["many", "hues"] spFnu
section
variable {P : Program} {w : World} {K : PySem.W.Frag} {mg : Str → Option Value} {base : Heap}
theorem ok_alw {f : Addr} {fd : FuncData} {k : Nat} (F : Fun K "alike_weights" "alike_weights" sAlw f fd) (T : TxtAw P w K mg base) : FnOk P w K mg base CX0 (k + 3) f fd ["riddle", "a"] spAlw := by
  refine F.ok scAlw (fun vs H Q E h => ?_) (fun cdv A outer s H vs Q E hr h => ?_)
  · obtain ⟨ri, a, wds, many, hues, rfl, _⟩ := h
    rfl
  · obtain ⟨ri, a, wds, many, hues, rfl, hrd, w8, a0, q⟩ := h
    refine ⟨_, (pss_one (ps_ret (pe_lc (te := tCall spLow [] E0 (tCons (tVar 1) (tCons (tC (.int 64)) tNil))) (own := [("wish", 2)]) rfl scAlw.nd  (pi_tup (pe_ix ix_tup (pv 0) pe_int (fun _ _ => rfl))) (blkOk_by (own := [("wish", 2)]) (N := nAlw) (sc := defScope sAlw) (by decide +kernel))
   (fun _ _ _ _ _ => (pg_name (i := 2) scAlw.nd rfl (Or.inl rfl))) (fun _ _ _ _ _ => pts_nil) (fun _ _ _ _ _ => (pe_cal T.c_lowest (hr.mono (by omega)) (by rfl) (pa_cons (pv 1) (pa_cons (C8.pe_gc (by rfl) T.g_PARTS) pa_nil))))))), ?_⟩
    obtain ⟨wt, was, r1, r2, r3⟩ := id hrd
    have hl : was.length = wds.length := pairedLen r3
    refine ⟨.ref ri, rfl, ri, _, 2, _, rfl, rfl, .inl (.inl r1), atI_nat (j := 2) rfl, wt, rfl, ⟨_, .inl (.inl r2)⟩, fun D nD => ?_⟩
    refine lc_tup (K := K) (a := wt) (xs := was.map V.ref) (fun i H3 => Same H H3 ∧ ∃ ts : List Addr, H3 D = some (.lst (ts.map V.ref)) ∧ ts.length = i ∧ Paired (IsPr H3) ts (alk i a)) ⟨same_upd nD, [], upd_same, rfl, .nil⟩ (fun i H3 _ p => .inl (.inl (p.1 _ _ r2))) (fun i x H3 hx p => ?_) (fun H3 p => ?_)
    · obtain ⟨s3, ts, hD, tl, pt⟩ := p
      have hi : i < was.length := by
        have := (List.getElem?_eq_some_iff.mp hx).1
        rw [List.length_map] at this
        exact this
      refine ⟨rfl, yes_if ?_⟩
      refine ⟨.int a, rfl, a, 64, rfl, a0, by decide, by decide, fun H4 t s4 nt p4 => ?_⟩
      have hD4 := s4 _ _ hD
      have tu : Tups H4 (upd H4 D (.lst (ts.map V.ref ++ [.ref t]))) := tups_upd fun xs z => by rw [hD4] at z; cases z
      refine ⟨_, hD4, ?_, same_put (s3.trans s4) nD, ts ++ [t], ?_, ?_, ?_⟩
      · rw [List.length_map, tl]
        exact small1000 (by omega)
      · rw [upd_same, List.map_append]
        rfl
      · rw [List.length_append, tl]
        rfl
      · unfold alk
        rw [List.replicate_succ']
        exact pairedSnoc (pairedMap (fun _ _ e => tu _ _ (s4 _ _ e)) pt) (tu _ _ p4)
    · obtain ⟨s3, ts, hD, tl, pt⟩ := p
      rw [List.length_map, hl] at pt
      exact q H3 D s3 nD ⟨ts, hD, pt⟩
theorem ok_lea {f : Addr} {Ps : List Addr} {fd : FuncData} {k : Nat} (F : Fun K "least_a" "least_a" sLea f fd) (T : TxtLa P w K mg base Ps) : FnOk P w K mg base CX0 (k + 7) f fd ["riddle"] (spLea Ps) := by
  refine F.ok scLea (fun vs H Q E h => ?_) (fun cdv A outer s H vs Q E hr h => ?_)
  · obtain ⟨ri, wds, many, hues, rfl, _⟩ := h
    rfl
  · obtain ⟨ri, wds, many, hues, rfl, hrd, gr, hT, q⟩ := h
    refine ⟨_, (pss_cons (ps_for PassesOwn.never rfl (pi_range2 (by rfl) T.m_range (pa_cons pe_int (pa_cons (C8.pe_gc (by rfl) T.g_PARTS) pa_nil))) (pg_name (i := 1) scLea.nd rfl (Or.inl rfl))
  (pss_one (ps_if (pt_val (pe_cal T.c_shows_soon (hr.mono (by omega)) (by rfl) (pa_cons (pv 0) (pa_cons (pe_cal T.c_alike_weights (hr.mono (by omega)) (by rfl) (pa_cons (pv 0) (pa_cons (pv 1) pa_nil))) pa_nil))))
  (pss_one (ps_ret (pv 1))) pss_nil)))
  (pss_one (ps_ret pe_non))), ?_⟩
    have e8 := gr.eight
    refine ⟨1, 64, rfl, ⟨by decide, by decide, by decide, by decide⟩, for_range (lo := 1) (n := 63) (fun i σ H3 => FrS Ps H H3 ∧ (∀ b : Int, 1 ≤ b → b < 1 + (i : Int) → shownB wds hues (alk wds.length b) = false) ∧ ∃ y1, σ = [some (.ref ri), y1]) ⟨FrS.refl hT, fun b h1 h2 => by omega, none, rfl⟩ (fun i σ H3 hi p => ?_) (fun σ H3 p => ?_)⟩
    · obtain ⟨f3, no, y1, rfl⟩ := p
      have rid3 := hrd.mono (f3.tups hT)
      refine ⟨.ref ri, rfl, .ref ri, rfl, .int (1 + (i : Int)), rfl, ri, 1 + (i : Int), wds, many, hues, rfl, rid3, e8, by omega, fun H4 l s4 nl frs => ?_⟩
      have f4 := f3.same s4
      refine ⟨ri, l, wds, many, hues, _, rfl, hrd.mono (f4.tups hT), gr, frs, alk_good (by omega) (by omega), by unfold alk; rw [List.length_replicate], f4.2, fun H5 f5 => ⟨_, rfl, ite2 (fun e => ?_) (fun e => ?_)⟩⟩
      · exact ⟨.int (1 + (i : Int)), rfl, q H5 (some (1 + (i : Int))) (f4.trans f5) ⟨by omega, by omega, e, no⟩⟩
      · refine ⟨f4.trans f5, fun b h1 h2 => ?_, _, rfl⟩
        by_cases z : b = 1 + (i : Int)
        · rw [z]; exact Bool.eq_false_iff.mpr e
        · exact no b h1 (by omega)
    · obtain ⟨f3, no, y1, rfl⟩ := p
      exact q H3 none f3 fun b h1 h2 => no b h1 (by omega)
theorem ok_wof {f : Addr} {Ps : List Addr} {fd : FuncData} {k : Nat} (F : Fun K "weights_of" "weights_of" sWof f fd) (T : TxtWo P w K mg base Ps) : FnOk P w K mg base CX0 (k + 8) f fd ["riddle"] (spWof Ps) := by
  refine F.ok scWof (fun vs H Q E h => ?_) (fun cdv A outer s H vs Q E hr h => ?_)
  · obtain ⟨ri, wds, many, hues, rfl, _⟩ := h
    rfl
  · obtain ⟨ri, wds, many, hues, rfl, hrd, gr, hT, q1, q2⟩ := h
    refine ⟨_, (pss_cons (ps_set (i := 1) scWof.nd rfl (Or.inl rfl) (pe_cal T.c_least_a (hr.mono (by omega)) (by rfl) (pa_cons (pv 0) pa_nil)))
  (pss_one (ps_ret (pe_ifExp (pt_cmpR op_isN (pv 1) pe_non (nomark _)) pe_non (pe_cal T.c_alike_weights (hr.mono (by omega)) (by rfl) (pa_cons (pv 0) (pa_cons (pv 1) pa_nil))))))), ?_⟩
    refine ⟨.ref ri, rfl, ri, wds, many, hues, rfl, hrd, gr, hT, fun H3 r f3 lr => ?_⟩
    cases r with
    | none => exact ⟨.non, rfl, rfl, _, rfl, iteT (q1 H3 f3 lr)⟩
    | some a =>
      obtain ⟨a1, a2, a3, a4⟩ := id lr
      refine ⟨.int a, rfl, rfl, _, rfl, iteF ⟨.ref ri, rfl, .int a, rfl, ri, a, wds, many, hues, rfl, hrd.mono (f3.tups hT), gr.eight, by omega, fun H4 l s4 nl frs => ?_⟩⟩
      exact q2 H4 a l (f3.same s4) lr (f3.free nl) frs
theorem ok_lkp {f : Addr} {fd : FuncData} {k : Nat} (F : Fun K "least_kept" "least_kept" sLkp f fd) (T : TxtLk P w K mg base) : FnOk P w K mg base CX0 (k + 3) f fd ["riddle", "weights"] spLkp := by
  refine F.ok scLkp (fun vs H Q E h => ?_) (fun cdv A outer s H vs Q E hr h => ?_)
  · obtain ⟨ri, wl, wds, many, hues, ws, rfl, _⟩ := h
    rfl
  · obtain ⟨ri, wl, wds, many, hues, ws, rfl, hrd, gr, hw, gw, w8, q⟩ := h
    refine ⟨_, (pss_cons (ps_set (i := 2) scLkp.nd rfl (Or.inl rfl) (pe_cal T.c_fillings_number (hr.mono (by omega)) (by rfl) (pa_cons (pe_ix ix_tup (pv 0) pe_int (fun _ _ => rfl)) (pa_cons (pe_ix ix_tup (pv 0) pe_int (fun _ _ => rfl)) pa_nil))))
  (pss_cons (ps_set (i := 3) scLkp.nd rfl (Or.inl rfl) pe_int)
  (pss_cons (ps_for PassesOwn.never rfl (pi_list (pv 1)) (pg_tup rfl (pgs_cons (pg_name (i := 4) scLkp.nd rfl (Or.inl rfl)) (pgs_cons (pg_name (i := 5) scLkp.nd rfl (Or.inl rfl)) pgs_nil)))
  (pss_cons (ps_aug (i := 2) scLkp.nd rfl (Or.inl rfl) (pe_op op_sub (pv 5) (pv 4)) ip_mul)
  (pss_one (ps_aug (i := 3) scLkp.nd rfl (Or.inl rfl) (pv 5) ip_mul))))
  (pss_one (ps_ret (pe_cal T.c_lowest (hr.mono (by omega)) (by rfl) (pa_cons (pv 2) (pa_cons (pv 3) pa_nil)))))))), ?_⟩
    obtain ⟨wt, was, r1, r2, r3⟩ := id hrd
    have m1 := gr.m1
    have m6 := gr.m6
    have h2 := gr.h2
    have h4 := gr.h4
    have pb := pow_bd (show 0 ≤ hues by omega) h4 (i := many.toNat) (by omega)
    have p1 : 1 ≤ hues ^ many.toNat := by
      have : 0 < hues ^ many.toNat := Int.pow_pos (by omega)
      omega
    refine ⟨.ref ri, rfl, ri, _, 0, _, rfl, rfl, .inl (.inl r1), atI_nat (j := 0) rfl, .ref ri, rfl, ri, _, 1, _, rfl, rfl, .inl (.inl r1), atI_nat (j := 1) rfl, many, hues, rfl, by omega, m6, by omega, h4, ?_⟩
    generalize hues ^ many.toNat = N at pb p1 q
    obtain ⟨ts, h1, h2'⟩ := id hw
    refine ⟨.ref wl, rfl, wl, rfl, ⟨_, .inl (.inl h1)⟩, ?_⟩
    refine for_list (K := K) (a := wl) (xs := ts.map V.ref) (fun j σ H3 => H3 = H ∧ ∃ y4 y5, σ = [some (.ref ri), some (.ref wl), some (.int ((ws.take j).foldl kSt (N, 1)).1), some (.int ((ws.take j).foldl kSt (N, 1)).2), y4, y5]) ⟨rfl, none, none, rfl⟩ (fun j σ H3 _ p => by obtain ⟨rfl, _⟩ := p; exact .inl (.inl h1)) (fun j x σ H3 hx p => ?_) (fun σ H3 p => ?_)
    · obtain ⟨t, et, rfl⟩ := map_get hx
      obtain ⟨x, ex, isx⟩ := pairedGetL h2' et
      obtain ⟨rfl, y4, y5, rfl⟩ := p
      have gx := gw.each x (List.mem_of_getElem? ex)
      have sn := fold_snoc kSt (N, 1) ex
      refine ⟨t, _, rfl, .inl (.inl isx), rfl, .int x.1, [.int x.2], rfl, .int x.2, [], rfl, rfl, ?_⟩
      refine ⟨_, rfl, .int x.2, rfl, .int x.1, rfl, _, _, rfl, rfl, _, _, rfl, rfl, .inr ⟨by omega, by omega⟩, _, rfl, .int x.2, rfl, _, _, rfl, rfl, .inr ⟨by omega, by omega⟩, rfl, some (.int x.1), some (.int x.2), ?_⟩
      rw [sn]
      rfl
    · obtain ⟨rfl, y4, y5, rfl⟩ := p
      rw [List.length_map, pairedLen h2', List.take_length]
      have bd := kept_bd gw w8 p1 pb.2 ws.length
      rw [List.take_length] at bd
      exact ⟨_, rfl, _, rfl, _, _, rfl, by omega, bd.2.1, log30 bd.2.1 bd.2.2.2, q⟩
theorem ok_mmd {f : Addr} {fd : FuncData} {k : Nat} (F : Fun K "most_mended" "most_mended" sMmd f fd) (T : TxtRo P w K mg base) : FnOk P w K mg base CX0 (k + 3) f fd ["riddle", "weights"] spMmd := by
  refine F.ok scMmd (fun vs H Q E h => ?_) (fun cdv A outer s H vs Q E hr h => ?_)
  · obtain ⟨v, wl, ws, rfl, _⟩ := h
    rfl
  · obtain ⟨v, wl, ws, rfl, hw, gw, w8, q⟩ := h
    refine ⟨_, (pss_cons (ps_set (i := 2) scMmd.nd rfl (Or.inl rfl) pe_int)
  (pss_cons (ps_set (i := 3) scMmd.nd rfl (Or.inl rfl) pe_int)
  (pss_cons (ps_for PassesOwn.never rfl (pi_list (pv 1)) (pg_tup rfl (pgs_cons (pg_name (i := 4) scMmd.nd rfl (Or.inl rfl)) (pgs_cons (pg_name (i := 5) scMmd.nd rfl (Or.inl rfl)) pgs_nil)))
  (pss_cons (ps_set (i := 6) scMmd.nd rfl (Or.inl rfl) (pe_op op_sub (pv 5) (pv 4)))
  (pss_cons (ps_set (i := 2) scMmd.nd rfl (Or.inl rfl) (pe_op op_add (pe_op op_mul (pv 2) (pv 6)) (pe_op op_mul (pv 4) (pv 3))))
  (pss_one (ps_aug (i := 3) scMmd.nd rfl (Or.inl rfl) (pv 6) ip_mul)))))
  (pss_one (ps_ret (pe_cal T.c_lowest (hr.mono (by omega)) (by rfl) (pa_cons (pv 2) (pa_cons (pv 3) pa_nil)))))))), ?_⟩
    obtain ⟨ts, h1, h2'⟩ := id hw
    refine ⟨.ref wl, rfl, wl, rfl, ⟨_, .inl (.inl h1)⟩, ?_⟩
    refine for_list (K := K) (a := wl) (xs := ts.map V.ref) (fun j σ H3 => H3 = H ∧ ∃ y4 y5 y6, σ = [some v, some (.ref wl), some (.int ((ws.take j).foldl mSt (0, 1)).1), some (.int ((ws.take j).foldl mSt (0, 1)).2), y4, y5, y6]) ⟨rfl, none, none, none, rfl⟩ (fun j σ H3 _ p => by obtain ⟨rfl, _⟩ := p; exact .inl (.inl h1)) (fun j x σ H3 hx p => ?_) (fun σ H3 p => ?_)
    · obtain ⟨t, et, rfl⟩ := map_get hx
      obtain ⟨x, ex, isx⟩ := pairedGetL h2' et
      obtain ⟨rfl, y4, y5, y6, rfl⟩ := p
      have gx := gw.each x (List.mem_of_getElem? ex)
      have sn := fold_snoc mSt (0, 1) ex
      refine ⟨t, _, rfl, .inl (.inl isx), rfl, .int x.1, [.int x.2], rfl, .int x.2, [], rfl, rfl, ?_⟩
      refine ⟨.int x.2, rfl, .int x.1, rfl, _, _, rfl, rfl, ?_⟩
      refine ⟨_, rfl, .int (x.2 - x.1), rfl, _, _, rfl, rfl, .inr ⟨by omega, by omega⟩, .int x.1, rfl, _, rfl, _, _, rfl, rfl, .inl ⟨by omega, by omega⟩, _, _, rfl, rfl, ?_⟩
      refine ⟨_, rfl, .int (x.2 - x.1), rfl, _, _, rfl, rfl, .inr ⟨by omega, by omega⟩, rfl, some (.int x.1), some (.int x.2), some (.int (x.2 - x.1)), ?_⟩
      rw [sn]
      rfl
    · obtain ⟨rfl, y4, y5, y6, rfl⟩ := p
      rw [List.length_map, pairedLen h2', List.take_length]
      have bd := mend_bd gw w8 ws.length
      rw [List.take_length] at bd
      exact ⟨_, rfl, _, rfl, _, _, rfl, bd.1, bd.2.1, log30 bd.2.1 bd.2.2.2, q⟩
end
end Rd

set_option autoImplicit false
set_option Elab.async false
set_option linter.all false
set_option maxRecDepth 100000
set_option maxHeartbeats 4000000
namespace Rd
open PySem PySem.Spec PyProof.Rows L2 Dt
/-! where clashing wishes are never broken at once: the mean by counts -/
theorem wsR_of {many hues : Int} {wds : List WD} (g : WdsOk many hues wds) (nr : ∀ wd ∈ wds, wd.2.Nodup) : WsR hues.toNat many.toNat wds := by
  have h2 := g.good.h2
  have m1 := g.good.m1
  refine ⟨g.nd, fun a ha p hp => ?_, nr, fun a ha r hr => ?_⟩
  · have := (g.good.each a ha).pl p hp
    omega
  · obtain ⟨z1, z2⟩ := (g.good.each a ha).row r hr
    exact fill_allC _ _ z1 fun h hh => by have := z2 h hh; omega
theorem kp_kept {hues n : Nat} {wds : List WD} (h0 : 0 < hues) : keptB hues n wds = true ↔ 0 < kpS hues n wds allA := by
  have iff1 : ∀ f, mendsL hues wds f = [] ↔ cbA wds allA f = 0 := fun f => by
    rw [cb_all (A := allA) fun _ _ => rfl]
    constructor
    · intro h
      cases hb : broL f wds wds.length with
      | nil => rfl
      | cons k r =>
        have me := mendsL_cons (hues := hues) hb
        rw [h] at me
        have z := congrArg List.length me
        rw [List.length_map, fill_len] at z
        have := Nat.pow_pos (n := (plcs wds k).length) h0
        simp at z
        omega
    · intro h
      exact mendsL_nil (List.length_eq_zero_iff.mp (by omega))
  rw [keptB_iff]
  constructor
  · rintro ⟨f, hf, e⟩
    have z := sum_nn (fun f => i0 (cbA wds allA f)) (l := fillL hues n) fun f _ => by unfold i0; split <;> decide
    have ne : kpS hues n wds allA ≠ 0 := fun z => by
      have := sum_zero (fun f => i0 (cbA wds allA f)) (l := fillL hues n) (fun f _ => by unfold i0; split <;> decide) z f hf
      rw [show i0 (cbA wds allA f) = 1 from if_pos ((iff1 f).mp e)] at this
      exact absurd this (by decide)
    have z : 0 ≤ kpS hues n wds allA := z
    omega
  · intro h
    refine Classical.byContradiction fun no => ?_
    have e : kpS hues n wds allA = ((fillL hues n).map fun _ => (0 : Int)).sum := sumMapC fun f hf => by
      refine if_neg fun z => no ⟨f, hf, (iff1 f).mpr z⟩
    rw [e, sumMapK, Int.mul_zero] at h
    exact absurd h (by decide)
theorem mean_apart {many hues : Int} {wds : List WD} (g : WdsOk many hues wds) (nr : ∀ wd ∈ wds, wd.2.Nodup) (ap : ApW hues.toNat many.toNat wds) :
    (kpS hues.toNat many.toNat wds allA = 0 → meanL hues.toNat many.toNat wds = none) ∧
    (kpS hues.toNat many.toNat wds allA ≠ 0 → ∃ x, meanL hues.toNat many.toNat wds = some x ∧ x.1 * kpS hues.toNat many.toNat wds allA = onS hues.toNat many.toNat wds allA * x.2) := by
  have h2 := g.good.h2
  have h0 : 0 < hues.toNat := by omega
  constructor
  · intro z
    unfold meanL
    rw [if_neg fun k => by have := (kp_kept h0).mp k; omega]
  · intro z
    have kp := kp_nonneg (hues := hues.toNat) (n := many.toNat) (wds := wds) allA
    have kb := (kp_kept h0).mpr (show 0 < kpS hues.toNat many.toNat wds allA by omega)
    have me := mean_ex h0 (wsR_of g nr) ap (m := meanX hues.toNat many.toNat wds) (D := meanD hues.toNat many.toNat wds) (fun f hf e => meanX_kept hf e) (fun f hf ne => meanX_row g kb hf ne) (by omega)
    refine ⟨_, by unfold meanL; rw [if_pos kb], ?_⟩
    have dp := meanD_pos g kb
    have N1 : 1 ≤ hues.toNat ^ many.toNat := Nat.pow_pos h0
    have S0 : 0 ≤ meanS hues.toNat many.toNat wds := sum_nn _ fun f _ => meanX_nonneg g kb f
    have B1 : 1 ≤ meanD hues.toNat many.toNat wds * ((hues.toNat ^ many.toNat : Nat) : Int) := Int.mul_pos dp (by omega)
    obtain ⟨e1, e2⟩ := low_mul S0 B1
    have g1 := gcdI_pos (a := meanS hues.toNat many.toNat wds) B1
    have me : kpS hues.toNat many.toNat wds allA * meanS hues.toNat many.toNat wds = meanD hues.toNat many.toNat wds * ((hues.toNat ^ many.toNat : Nat) : Int) * onS hues.toNat many.toNat wds allA := by
      rw [Int.natCast_pow]
      exact me
    generalize meanD hues.toNat many.toNat wds * ((hues.toNat ^ many.toNat : Nat) : Int) = B at *
    generalize meanS hues.toNat many.toNat wds = S at *
    generalize gcdI S B = G at e1 e2 g1
    generalize (lowI S B).1 = x at e1 ⊢
    generalize (lowI S B).2 = y at e2 ⊢
    refine Int.eq_of_mul_eq_mul_left (a := G) (by omega) ?_
    rw [← Int.mul_assoc, ← e1, Int.mul_left_comm, ← e2, Int.mul_comm S, me, Int.mul_comm]
end Rd

set_option autoImplicit false
set_option Elab.async false
set_option linter.all false
set_option maxRecDepth 100000
set_option maxHeartbeats 4000000
namespace Rd
open PySem PySem.Spec PyProof.Rows L2 Dt
abbrev sLss : Stmt := topS 46
abbrev nLss : List Str := ["tape", "many", "hues", "k"]
theorem scLss : FnScope nLss ["tape"] (defScope sLss) := ⟨rfl, rfl, rfl, by decide +kernel, rfl, by decide +kernel, by decide +kernel⟩
abbrev sRgt : Stmt := topS 47
abbrev nRgt : List Str := ["riddle", "weights", "top", "below", "many", "place", "told"]
theorem scRgt : FnScope nRgt ["riddle", "weights"] (defScope sRgt) := ⟨rfl, rfl, rfl, by decide +kernel, rfl, by decide +kernel, by decide +kernel⟩
theorem kept_pos {ws : List Fc} {Bd N : Int} (gw : GoodW Bd ws) (hN : 1 ≤ N) : 1 ≤ (keptF N ws).1 ∧ 1 ≤ (keptF N ws).2 := by
  have all : ∀ (l : List Fc), (∀ x ∈ l, 1 ≤ x.1 ∧ x.1 < x.2) → ∀ p : Fc, 1 ≤ p.1 → 1 ≤ p.2 → 1 ≤ (l.foldl kSt p).1 ∧ 1 ≤ (l.foldl kSt p).2 := fun l => by
    induction l with
    | nil => exact fun _ p h1 h2 => ⟨h1, h2⟩
    | cons x r ih =>
      intro h p h1 h2
      obtain ⟨a, b⟩ := h x List.mem_cons_self
      exact ih (fun y hy => h y (List.mem_cons_of_mem _ hy)) _ (mul_pos1 h1 (by omega)) (mul_pos1 h2 (by omega))
  exact all ws (fun x hx => ⟨(gw.each x hx).1, (gw.each x hx).2.1⟩) (N, 1) hN (by show (1 : Int) ≤ 1; decide)
theorem kept_told {many hues : Int} {wds : List WD} {ws : List Fc} {Bd : Int} (g : WdsOk many hues wds) (nr : ∀ wd ∈ wds, wd.2.Nodup) (gw : GoodW Bd ws) (hl : ws.length = wds.length) (sh : shownB wds hues ws = true) : (lowI (keptF (hues ^ many.toNat) ws).1 (keptF (hues ^ many.toNat) ws).2).1 ≤ kpS hues.toNat many.toNat wds allA * (lowI (keptF (hues ^ many.toNat) ws).1 (keptF (hues ^ many.toNat) ws).2).2 ∧ 0 < kpS hues.toNat many.toNat wds allA := by
  obtain ⟨a, b⟩ := kept_bound g.good (wsR_of g nr) gw hl sh
  have h2 := g.good.h2
  have hN : 1 ≤ hues ^ many.toNat := by
    have : 0 < hues ^ many.toNat := Int.pow_pos (by omega)
    omega
  obtain ⟨k1, k2⟩ := kept_pos gw hN
  obtain ⟨e1, e2⟩ := low_mul (a := (keptF (hues ^ many.toNat) ws).1) (b := (keptF (hues ^ many.toNat) ws).2) (by omega) k2
  have g1 := gcdI_pos (a := (keptF (hues ^ many.toNat) ws).1) k2
  generalize (keptF (hues ^ many.toNat) ws).1 = A at *
  generalize (keptF (hues ^ many.toNat) ws).2 = B at *
  generalize (lowI A B).1 = l1 at *
  generalize (lowI A B).2 = l2 at *
  generalize gcdI A B = G at *
  generalize kpS hues.toNat many.toNat wds allA = K at *
  refine ⟨?_, ?_⟩
  · rw [e1, e2, Int.mul_left_comm] at a
    exact Int.le_of_mul_le_mul_left a (by omega)
  · by_cases z : 0 < K
    · exact z
    · have := Int.mul_le_mul_of_nonneg_right (show K ≤ 0 by omega) (show 0 ≤ B by omega)
      rw [Int.zero_mul] at this
      omega
theorem mean_told {many hues : Int} {wds : List WD} {ws : List Fc} {Bd : Int} (g : WdsOk many hues wds) (nr : ∀ wd ∈ wds, wd.2.Nodup) (gw : GoodW Bd ws) (hl : ws.length = wds.length) (sh : shownB wds hues ws = true) (m0 : 0 ≤ (mendF ws).1) : ∃ x, meanL hues.toNat many.toNat wds = some x ∧ x.1 * (lowI (mendF ws).1 (mendF ws).2).2 ≤ (lowI (mendF ws).1 (mendF ws).2).1 * x.2 := by
  have h2 := g.good.h2
  have h0 : 0 < hues.toNat := by omega
  have kb := (kp_kept h0).mpr (kept_told g nr gw hl sh).2
  have dp := meanD_pos g kb
  obtain ⟨a, b⟩ := mend_bound g.good (wsR_of g nr) gw hl sh (D := meanD hues.toNat many.toNat wds) (by omega) (meanX_nonneg g kb) (fun f hf e => meanX_kept hf e) (fun f hf ne => meanX_row g kb hf ne)
  have N1 : 1 ≤ hues.toNat ^ many.toNat := Nat.pow_pos h0
  have S0 : 0 ≤ meanS hues.toNat many.toNat wds := sum_nn _ fun f _ => meanX_nonneg g kb f
  have B1 : 1 ≤ meanD hues.toNat many.toNat wds * ((hues.toNat ^ many.toNat : Nat) : Int) := Int.mul_pos dp (by omega)
  refine ⟨_, by unfold meanL; rw [if_pos kb], ?_⟩
  exact (low_le S0 B1 m0 b).mpr a
theorem pow150 : ∀ k : Fin 9, (150 : Int) ^ (k : Nat) ≤ 150 ^ 8 := by decide
def szE : List (Int × Int) := [(5, 2), (4, 2), (3, 3), (2, 4), (3, 2), (2, 3)]
theorem szE_ok : ∀ p ∈ szE, szOk p := by unfold szOk szE; decide
def spRgw (Ps : List Addr) : Sp := fun vs H Q _ => ∃ (ri wl : Addr) (wds : List WD) (many hues : Int) (ws : List Fc), vs = [.ref ri, .ref wl] ∧ IsRid H ri many hues wds ∧ GoodR many hues wds ∧ (∀ wd ∈ wds, Neat wd) ∧ IsFrs H wl ws ∧ GoodW 150 ws ∧ ws.length = wds.length ∧ Tabs Ps H ∧
  ∀ H', FrS Ps H H' → Q (.bl true) H'
structure TxtRgw (P : Program) (w : World) (K : PySem.W.Frag) (mg : Str → Option Value) (base : Heap) (Ps : List Addr) (D : Addr) : Prop where
  m_range : mg "range" = none
  c_shows_soon : Cal P w K mg base 6 "shows_soon" ["riddle", "weights"] (spSho Ps)
  c_least_kept : Cal P w K mg base 3 "least_kept" ["riddle", "weights"] spLkp
  c_most_mended : Cal P w K mg base 3 "most_mended" ["riddle", "weights"] spMmd
  c_counts : Cal P w K mg base 6 "counts" ["riddle"] (spCnt Ps)
  c_mean : CalX P w K mg base 8 "mean" ["riddle"] (spMea Ps D)
section
variable {P : Program} {w : World} {K : PySem.W.Frag} {mg : Str → Option Value} {base : Heap}
theorem ok_lss {f : Addr} {fd : FuncData} {k : Nat} (F : Fun K "_law_small_sparse" "_law_small_sparse" sLss f fd) (T : TxtSp P w K mg base) : FnOk P w K mg base CX0 (k + 3) f fd ["tape"] spSpa := by
  refine F.ok scLss (fun vs H Q E h => ?_) (fun cdv A outer s H vs Q E hr h => ?_)
  · obtain ⟨tp, rfl, _⟩ := h
    rfl
  · obtain ⟨tp, rfl, hT, q⟩ := h
    refine ⟨_, (pss_cons (ps_asg (pe_ix ix_list (pe_lst (pa_cons (pe_tup (pa_cons pe_int (pa_cons pe_int pa_nil))) (pa_cons (pe_tup (pa_cons pe_int (pa_cons pe_int pa_nil))) (pa_cons (pe_tup (pa_cons pe_int (pa_cons pe_int pa_nil))) (pa_cons (pe_tup (pa_cons pe_int (pa_cons pe_int pa_nil))) (pa_cons (pe_tup (pa_cons pe_int (pa_cons pe_int pa_nil))) (pa_cons (pe_tup (pa_cons pe_int (pa_cons pe_int pa_nil))) pa_nil))))))) (pe_cal T.c__law_digit (hr.mono (by omega)) (by rfl) (pa_cons (pv 0) (pa_cons pe_int pa_nil))) (fun _ _ => rfl)) (pg_tup rfl (pgs_cons (pg_name (i := 1) scLss.nd rfl (Or.inr rfl)) (pgs_cons (pg_name (i := 2) scLss.nd rfl (Or.inr rfl)) pgs_nil))))
  (pss_one (ps_ret (pe_tup (pa_cons (pv 1) (pa_cons (pv 2) (pa_cons (pe_callTy call_tuple_of (by rfl) T.m_tuple (by decide +kernel) (pa_cons (pe_lc (te := tCall spWis [] E0 (tCons (tVar 0) (tCons (tVar 1) (tCons (tVar 2) (tCons (tC (.int 1)) tNil))))) (own := [("k", 3)]) rfl scLss.nd  (pi_range1 (by rfl) T.m_range (pa_cons (pe_cal T.c__law_digit (hr.mono (by omega)) (by rfl) (pa_cons (pv 0) (pa_cons pe_int pa_nil))) pa_nil)) (blkOk_by (own := [("k", 3)]) (N := nLss) (sc := defScope sLss) (by decide +kernel))
   (fun _ _ _ _ _ => (pg_name (i := 3) scLss.nd rfl (Or.inl rfl))) (fun _ _ _ _ _ => pts_nil) (fun _ _ _ _ _ => (pe_cal T.c__law_wish (hr.mono (by omega)) (by rfl) (pa_cons (pv 0) (pa_cons (pv 1) (pa_cons (pv 2) (pa_cons pe_int pa_nil))))))) pa_nil)) pa_nil))))))), ?_⟩
    refine pairs_ixs (prs := szE) (by decide) fun l ts H1 s1 nl hl pr => ?_
    have hT1 := hT.same s1
    have nlt : l ≠ tp := hT.new nl
    refine ⟨.ref tp, rfl, tp, 6, rfl, hT1, by decide, by decide, fun H3 d D3 d0 d1 => ?_⟩
    have hd : d.toNat < ts.length := by rw [pairedLen pr]; show d.toNat < 6; omega
    obtain ⟨p, hp, isp⟩ := pairedGetL pr (List.getElem?_eq_getElem hd)
    have ok := szE_ok p (List.mem_of_getElem? hp)
    obtain ⟨k1, k6, hh2, hh4, kp⟩ := id ok
    obtain ⟨many, hues⟩ := p
    dsimp only at k1 k6 hh2 hh4
    refine ⟨l, _, d, _, rfl, rfl, .inl (.inl (D3.1 _ _ nlt hl)), atI_of d0 (List.getElem?_eq_getElem hd), _, _, rfl, .inl (.inl (D3.tups hT1 _ _ isp)), rfl, .int many, [.int hues], rfl, .int hues, [], rfl, rfl, ?_⟩
    have E3 : Taped tp H H3 := ((Taped.refl hT).same s1).trans D3
    refine ⟨.int many, rfl, .int hues, rfl, .ref tp, rfl, tp, 5, rfl, E3.2, by decide, by decide, fun H5 nn D5 n0 n1 => ⟨nn, rfl, by omega, by omega, fun lw nlw => ?_⟩⟩
    have E5 := E3.trans D5
    have nw := E5.2.new nlw
    have nw0 : H lw = none := E5.free nlw
    refine lc_range (lo := 0) (n := nn.toNat) (fun i H3 => Taped tp H H3 ∧ ∃ (was : List Addr) (wds : List WD), H3 lw = some (.lst (was.map V.ref)) ∧ was.length = i ∧ Paired (IsWish H3) was wds ∧ (∀ wd ∈ wds, Good many hues wd) ∧ ∀ wd ∈ wds, Neat wd) ⟨E5.put nw0 nw, [], [], upd_same, rfl, .nil, (fun _ h => nomatch h), (fun _ h => nomatch h)⟩ (fun i H3 hi p => ?_) (fun H3 p => ?_)
    · obtain ⟨E3, was, wds, hw, lw3, pw, gd, ne⟩ := p
      refine ⟨rfl, yes_if ?_⟩
      refine ⟨.ref tp, rfl, .int many, rfl, .int hues, rfl, tp, many, hues, 1, rfl, E3.2, k1, k6, hh2, hh4, by decide, by decide, fun H4 wa wd D4 isw gw nw2 => ?_⟩
      have hw4 := D4.1 lw _ nw hw
      have tu : Tups H4 (upd H4 lw (.lst (was.map V.ref ++ [.ref wa]))) := tups_upd fun xs z => by rw [hw4] at z; cases z
      refine ⟨_, hw4, ?_, (E3.trans D4).put nw0 nw, was ++ [wa], wds ++ [wd], ?_, ?_, pairedSnoc (pairedMap (fun _ _ e => IsWish.mono ((D4.tups E3.2).trans tu) e) pw) (isw.mono tu), ?_, ?_⟩
      · rw [List.length_map, lw3]
        exact small1000 (by omega)
      · rw [upd_same, List.map_append]
        rfl
      · rw [List.length_append, lw3]
        rfl
      · intro wd' h'
        rcases List.mem_append.mp h' with h' | h'
        · exact gd wd' h'
        · rw [List.mem_singleton.mp h']
          exact gw
      · intro wd' h'
        rcases List.mem_append.mp h' with h' | h'
        · exact ne wd' h'
        · rw [List.mem_singleton.mp h']
          exact nw2
    · obtain ⟨E3, was, wds, hw, lw3, pw, gd, ne⟩ := p
      refine ⟨lw, _, rfl, .inl ⟨.inl (.inl hw), fun wt nwt => ?_⟩⟩
      have st := same_upd (o := .tup (was.map V.ref)) nwt
      refine ⟨(by show 3 ≤ sizeLine; decide), fun ri nri => ?_⟩
      have sr := same_upd (o := .tup [.int many, .int hues, .ref wt]) nri
      refine q _ ri many hues wds ((E3.same st).same sr) ⟨wt, was, upd_same, sr _ _ upd_same, pairedMap (fun _ _ e => IsWish.mono (tups_same (st.trans sr)) e) pw⟩ ⟨k1, k6, hh2, hh4, ?_, gd⟩ ne ok
      rw [← pairedLen pw]
      omega
set_option maxHeartbeats 16000000 in
theorem ok_rgw {f D : Addr} {Ps : List Addr} {fd : FuncData} {k : Nat} (F : Fun K "_law_right" "_law_right" sRgt f fd) (T : TxtRgw P w K mg base Ps D) : FnOk P w K mg base CX0 (k + 9) f fd ["riddle", "weights"] (spRgw Ps) := by
  refine F.ok scRgt (fun vs H Q E h => ?_) (fun cdv A outer s H vs Q E hr h => ?_)
  · obtain ⟨ri, wl, wds, many, hues, ws, rfl, _⟩ := h
    rfl
  · obtain ⟨ri, wl, wds, many, hues, ws, rfl, rid, gr, ne, hws, gw, wsl, hT, q⟩ := h
    refine ⟨_, (pss_cons (ps_if (pt_not (pt_val (pe_cal T.c_shows_soon (hr.mono (by omega)) (by rfl) (pa_cons (pv 0) (pa_cons (pv 1) pa_nil)))))
  (pss_one (ps_ret pe_bl)) pss_nil)
  (pss_cons (ps_asg (pe_cal T.c_least_kept (hr.mono (by omega)) (by rfl) (pa_cons (pv 0) (pa_cons (pv 1) pa_nil))) (pg_tup rfl (pgs_cons (pg_name (i := 2) scRgt.nd rfl (Or.inl rfl)) (pgs_cons (pg_name (i := 3) scRgt.nd rfl (Or.inl rfl)) pgs_nil))))
  (pss_cons (ps_if (pt_cmpR op_lt (pe_op op_mul (pe_ix ix_list (pe_cal T.c_counts (hr.mono (by omega)) (by rfl) (pa_cons (pv 0) pa_nil)) pe_int (fun _ _ => rfl)) (pv 3)) (pv 2) (nomark _))
  (pss_one (ps_ret pe_bl)) pss_nil)
  (pss_cons (ps_set (i := 4) scRgt.nd rfl (Or.inl rfl) pe_int)
  (pss_cons (ps_for PassesOwn.never rfl (pi_range1 (by rfl) T.m_range (pa_cons (pe_ix ix_tup (pv 0) pe_int (fun _ _ => rfl)) pa_nil)) (pg_name (i := 5) scRgt.nd rfl (Or.inl rfl))
  (pss_one (ps_set (i := 4) scRgt.nd rfl (Or.inl rfl) (pe_op op_mul (pv 4) (pe_ix ix_tup (pv 0) pe_int (fun _ _ => rfl))))))
  (pss_cons (ps_if (pt_cmpR op_gt (pv 4) pe_int (nomark _))
  (pss_one (ps_ret pe_bl)) pss_nil)
  (pss_cons (ps_set (i := 6) scRgt.nd rfl (Or.inl rfl) (pe_calX T.c_mean (hr.mono (by omega)) takes0 (by rfl) (pa_cons (pv 0) pa_nil)))
  (pss_cons (ps_asg (pe_cal T.c_most_mended (hr.mono (by omega)) (by rfl) (pa_cons (pv 0) (pa_cons (pv 1) pa_nil))) (pg_tup rfl (pgs_cons (pg_name (i := 2) scRgt.nd rfl (Or.inl rfl)) (pgs_cons (pg_name (i := 3) scRgt.nd rfl (Or.inl rfl)) pgs_nil))))
  (pss_one (ps_ret (pe_and (pe_cmpR op_notN (pv 6) pe_non (nomark _)) (pe_one (pe_cmpR op_le (pe_op op_mul (pe_ix ix_tup (pv 6) pe_int (fun _ _ => rfl)) (pv 3)) (pe_op op_mul (pv 2) (pe_ix ix_tup (pv 6) pe_int (fun _ _ => rfl))) (nomark _)))))))))))))), ?_⟩
    have m1 := gr.m1
    have m6 := gr.m6
    have h2 := gr.h2
    have h4 := gr.h4
    have e8 := gr.eight
    have g7 : WdsOk many hues wds := ⟨gr, fun wd h => (ne wd h).nd⟩
    have nr : ∀ wd ∈ wds, wd.2.Nodup := fun wd h => (ne wd h).rows
    have gw2 : GoodW 20000 ws := ⟨fun x hx => by have := gw.each x hx; omega⟩
    have pb : ∀ i : Nat, i ≤ many.toNat → 1 ≤ hues.toNat ^ i ∧ hues.toNat ^ i ≤ 4096 := fun i hi => ⟨Nat.pow_pos (by omega), pow_le_4096 (by omega) (by omega)⟩
    refine ⟨.ref ri, rfl, .ref wl, rfl, ri, wl, wds, many, hues, ws, rfl, rid, gr, hws, gw2, wsl, hT, fun H1 f1 => ⟨shownB wds hues ws, rfl, ?_⟩⟩
    cases sh : shownB wds hues ws with
    | false => exact iteT (q H1 f1)
    | true =>
      refine iteF ?_
      obtain ⟨kt, kpos⟩ := kept_told g7 nr gw wsl sh
      have sq1 := f1.seqs hT
      refine ⟨.ref ri, rfl, .ref wl, rfl, ri, wl, wds, many, hues, ws, rfl, rid.mono sq1.1, gr, hws.seqs sq1, gw, by omega, fun H2 t2 s2 nt2 isp2 => ?_⟩
      obtain ⟨wt, was, r1, r2, r3⟩ := id rid
      have kpn := kp_nonneg (hues := hues.toNat) (n := many.toNat) (wds := wds) allA
      have kpl : kpS hues.toNat many.toNat wds allA ≤ 4096 := by
        have le : 0 ≤ ((fillL hues.toNat many.toNat).map fun _ => (1 : Int)).sum - kpS hues.toNat many.toNat wds allA := by
          show 0 ≤ fS hues.toNat many.toNat (fun _ => (1 : Int)) - _
          unfold kpS
          rw [fS_sub]
          exact sum_nn _ fun f _ => by unfold i0; split <;> decide
        rw [sumMapK, fill_len, Int.mul_one] at le
        have := (pb many.toNat (Nat.le_refl _)).2
        omega
      have kp0 := cnt_none0 (hues := hues.toNat) (n := many.toNat) (wds := wds)
      have F2 := f1.same s2
      have sq2 := F2.seqs hT
      have ip2 : H2 t2 = some (.tup [.int (lowI (keptF (hues ^ many.toNat) ws).1 (keptF (hues ^ many.toNat) ws).2).1, .int (lowI (keptF (hues ^ many.toNat) ws).1 (keptF (hues ^ many.toNat) ws).2).2]) := isp2
      refine ⟨t2, _, rfl, .inl (.inl ip2), rfl, .int _, [.int _], rfl, .int _, [], rfl, rfl, ?_⟩
      refine ⟨.ref ri, rfl, ri, wds, many, hues, rfl, rid.mono sq2.1, gr, F2.2, fun H3 lq f3 nlq hlq => ⟨lq, _, 0, .int _, rfl, rfl, .inl (.inl hlq), atI_nat (j := 0) (map_at kp0), .int _, rfl, _, _, rfl, rfl, .inl ⟨by omega, by omega⟩, .int _, rfl, _, _, rfl, rfl, _, rfl, ite2 (fun e => absurd (of_decide_eq_true e) (by omega)) (fun _ => ?_)⟩⟩
      have F3 := F2.trans f3
      have sq3 := F3.seqs hT
      have r13 := sq3.1 _ _ r1
      refine ⟨.ref ri, rfl, ri, _, 0, _, rfl, rfl, .inl (.inl r13), atI_nat (j := 0) rfl, many, rfl, by omega, by omega, ?_⟩
      refine for_range (lo := 0) (n := many.toNat) (fun i σ H4 => Same H3 H4 ∧ ∃ y5, σ = [some (.ref ri), some (.ref wl), some (.int (lowI (keptF (hues ^ many.toNat) ws).1 (keptF (hues ^ many.toNat) ws).2).1), some (.int (lowI (keptF (hues ^ many.toNat) ws).1 (keptF (hues ^ many.toNat) ws).2).2), some (.int ((hues.toNat ^ i : Nat) : Int)), y5, none]) ⟨(fun _ _ e => e), none, rfl⟩ (fun i σ H4 hi p => ?_) (fun σ H4 p => ?_)
      · obtain ⟨s4, y5, rfl⟩ := p
        obtain ⟨p1, p2⟩ := pb i (by omega)
        refine ⟨.int _, rfl, .ref ri, rfl, ri, _, 1, .int hues, rfl, rfl, .inl (.inl (s4 _ _ r13)), atI_nat (j := 1) rfl, _, _, rfl, rfl, .inl ⟨by omega, by omega⟩, ?_⟩
        refine ⟨s4, some (.int (0 + (i : Int))), ?_⟩
        have e : ((hues.toNat ^ i : Nat) : Int) * hues = ((hues.toNat ^ (i + 1) : Nat) : Int) := by
          rw [Nat.pow_succ, Int.natCast_mul, Int.toNat_of_nonneg (by omega)]
        rw [← e]
        rfl
      · obtain ⟨s4, y5, rfl⟩ := p
        have F4 := F3.same s4
        have sq4 := F4.seqs hT
        refine ⟨.int _, rfl, _, _, rfl, rfl, _, rfl, ite2 (fun e => ?_) (fun e => ?_)⟩
        · exact q H4 F4
        · have few : hues.toNat ^ many.toNat ≤ 32 := by
            have := of_decide_eq_false (eq_false_of_ne_true e)
            omega
          obtain ⟨mo0, mo1, mo2⟩ := mend_ok gw ws (fun x h => h) (0, 1) (by show (0 : Int) ≤ 0; decide) (by show (1 : Int) ≤ 1; decide)
          have m0 : 0 ≤ (mendF ws).1 := mo0
          obtain ⟨x, ex, xe⟩ := mean_told g7 nr gw wsl sh m0
          refine ⟨.ref ri, rfl, ri, wds, many, hues, rfl, rid.mono sq4.1, g7, F4.2, fun z => absurd z (by omega), fun _ en => ?_, fun _ ab es H5 t f5 nt ht => ?_⟩
          · rw [ex] at en
            cases en
          · rw [ex] at es
            cases es
            have F5 := F4.trans f5
            have sq5 := F5.seqs hT
            have ht : H5 t = some (.tup [.int x.1, .int x.2]) := ht
            refine ⟨.ref ri, rfl, .ref wl, rfl, .ref ri, wl, ws, rfl, hws.seqs sq5, gw, by omega, fun H6 t6 s6 nt6 isp6 => ?_⟩
            have ip6 : H6 t6 = some (.tup [.int (lowI (mendF ws).1 (mendF ws).2).1, .int (lowI (mendF ws).1 (mendF ws).2).2]) := isp6
            have mb : (lowI (mendF ws).1 (mendF ws).2).1 < 2 ^ 64 ∧ (lowI (mendF ws).1 (mendF ws).2).2 < 2 ^ 64 ∧ 0 ≤ (lowI (mendF ws).1 (mendF ws).2).1 ∧ 1 ≤ (lowI (mendF ws).1 (mendF ws).2).2 := by
              have m1' : 1 ≤ (mendF ws).2 := mo1
              obtain ⟨l0, l1, l2, l3⟩ := low_ok m0 m1'
              have pw : (150 : Int) ^ ws.length ≤ 150 ^ 8 := pow150 ⟨ws.length, by omega⟩
              have mo2 : (mendF ws).1 + (mendF ws).2 ≤ (0 + 1) * 150 ^ ws.length := mo2
              have : (150 : Int) ^ 8 < 2 ^ 64 := by decide
              omega
            refine ⟨t6, _, rfl, .inl (.inl ip6), rfl, .int _, [.int _], rfl, .int _, [], rfl, rfl, ?_⟩
            refine ⟨.ref t, rfl, rfl, true, rfl, ?_⟩
            rw [if_pos rfl]
            have ht6 := s6 _ _ ht
            refine ⟨.ref t, rfl, t, _, 0, .int x.1, rfl, rfl, .inl (.inl ht6), rfl, .int _, rfl, _, _, rfl, rfl, .inr ⟨by omega, by omega⟩, .int _, rfl, .ref t, rfl, t, _, 1, .int x.2, rfl, rfl, .inl (.inl ht6), rfl, _, _, rfl, rfl, .inl ⟨by omega, by omega⟩, _, _, rfl, rfl, ?_⟩
            show Q (.bl (decide (_ ≤ _))) H6
            rw [decide_eq_true xe]
            exact q _ (F5.same s6)
end
end Rd

set_option autoImplicit false
set_option Elab.async false
set_option linter.all false
set_option maxRecDepth 100000
set_option maxHeartbeats 4000000
namespace Rd
open PySem PySem.Spec PyProof.Rows L2 Dt
abbrev sLaw : Stmt := topS 48
abbrev nLaw : List Str := ["script", "start", "tape", "turn", "riddle", "weights"]
theorem scLaw : FnScope nLaw ["script"] (defScope sLaw) := ⟨rfl, rfl, rfl, by decide +kernel, rfl, by decide +kernel, by decide +kernel⟩
theorem alk_150 {n : Nat} {a : Int} (h1 : 1 ≤ a) (h2 : a < 64) : GoodW 150 (alk n a) := by
  obtain ⟨lo1, lo2⟩ := low_lt h1 h2
  obtain ⟨lo3, lo4, lo5, lo6⟩ := low_ok (a := a) (b := 64) (by omega) (by decide)
  exact ⟨fun x hx => by rw [(List.mem_replicate.mp hx).2]; exact ⟨lo1, lo2, by omega⟩⟩
structure TxtL (P : Program) (w : World) (K : PySem.W.Frag) (mg : Str → Option Value) (base : Heap) (Ps : List Addr) : Prop where
  m_range : mg "range" = none
  m_max : mg "max" = none
  m_min : mg "min" = none
  m_len : mg "len" = none
  c__law_tape : Cal P w K mg base 1 "_law_tape" ["script", "start"] (spTap K)
  c__law_digit : Cal P w K mg base 1 "_law_digit" ["tape", "many"] spDig
  c__law_small_sparse : Cal P w K mg base 3 "_law_small_sparse" ["tape"] spSpa
  c__law_sparse : Cal P w K mg base 3 "_law_sparse" ["tape"] spSpa
  c__law_riddle : Cal P w K mg base 3 "_law_riddle" ["tape", "small"] spRid
  c__law_weights : Cal P w K mg base 2 "_law_weights" ["tape", "riddle"] spLwe
  c_weights_of : Cal P w K mg base 8 "weights_of" ["riddle"] (spWof Ps)
  c_shows_soon : Cal P w K mg base 6 "shows_soon" ["riddle", "weights"] (spSho Ps)
  c__law_right : Cal P w K mg base 9 "_law_right" ["riddle", "weights"] (spRgw Ps)
section
variable {P : Program} {w : World} {K : PySem.W.Frag} {mg : Str → Option Value} {base : Heap}
set_option maxHeartbeats 16000000 in
theorem body_law {fa a : Addr} {Ps : List Addr} {s : Shared} {H : Hp} {cdv : Value} {ns : List Int} (T : TxtL P w K mg base Ps) (hl : ns.length ≤ 63) (hT : Tabs Ps H) (hS : SqL K H a (ns.map V.int))
    (hr : Room 9 (callerA.deeper (envOfC (Str.ofString "law") (defScope sLaw) s.heap.objs.size fa cdv))) :
    ∃ t, PSs (cxOf CX0 P w K mg base nLaw (Str.ofString "law") (defScope sLaw) fa cdv callerA [] s H (fun _ _ _ => False)).nox (defBody sLaw) t ∧ t { nx := fun _ _ => False, rt := fun v _ => v = .bl true } (start nLaw [.ref a]) H := by
  refine ⟨_, (pss_cons (ps_for PassesOwn.never rfl (pi_range1 (by rfl) T.m_range (pa_cons (pe_callB (call_max2 rfl) (by rfl) T.m_max (by decide +kernel) (pa_cons pe_int (pa_cons (pe_callB (call_min2 rfl) (by rfl) T.m_min (by decide +kernel) (pa_cons pe_int (pa_cons (pe_callB call_len_seq (by rfl) T.m_len (by decide +kernel) (pa_cons (pv 0) pa_nil)) pa_nil))) pa_nil))) pa_nil)) (pg_name (i := 1) scLaw.nd rfl (Or.inl rfl))
  (pss_cons (ps_set (i := 2) scLaw.nd rfl (Or.inl rfl) (pe_cal T.c__law_tape (hr.mono (by omega)) (by rfl) (pa_cons (pv 0) (pa_cons (pv 1) pa_nil))))
  (pss_one (ps_for PassesOwn.never rfl (pi_range1 (by rfl) T.m_range (pa_cons pe_int pa_nil)) (pg_name (i := 3) scLaw.nd rfl (Or.inl rfl))
  (pss_cons (ps_set (i := 4) scLaw.nd rfl (Or.inl rfl) (pe_ix ix_list (pe_lst (pa_cons (pe_cal T.c__law_small_sparse (hr.mono (by omega)) (by rfl) (pa_cons (pv 2) pa_nil)) (pa_cons (pe_cal T.c__law_sparse (hr.mono (by omega)) (by rfl) (pa_cons (pv 2) pa_nil)) (pa_cons (pe_cal T.c__law_riddle (hr.mono (by omega)) (by rfl) (pa_cons (pv 2) (pa_cons pe_bl pa_nil))) pa_nil)))) (pe_cal T.c__law_digit (hr.mono (by omega)) (by rfl) (pa_cons (pv 2) (pa_cons pe_int pa_nil))) (fun _ _ => rfl)))
  (C8.pss_cut (ps_set (i := 5) scLaw.nd rfl (Or.inl rfl) (pe_cal T.c_weights_of (hr.mono (by omega)) (by rfl) (pa_cons (pv 4) pa_nil)))
  (C8.pss_cut (ps_if (pt_cmpR op_notN (pv 5) pe_non (nomark _))
  (pss_one (ps_if (PW.pt (pw_or (pt_not (pt_val (pe_cal T.c_shows_soon (hr.mono (by omega)) (by rfl) (pa_cons (pv 4) (pa_cons (pv 5) pa_nil))))) (pw_or1 (pt_not (pt_val (pe_cal T.c__law_right (hr.mono (by omega)) (by rfl) (pa_cons (pv 4) (pa_cons (pv 5) pa_nil))))))))
  (pss_one (ps_ret pe_bl)) pss_nil)) pss_nil)
  (pss_one (ps_if (pt_not (pt_val (pe_cal T.c__law_right (hr.mono (by omega)) (by rfl) (pa_cons (pv 4) (pa_cons (pe_cal T.c__law_weights (hr.mono (by omega)) (by rfl) (pa_cons (pv 2) (pa_cons (pv 4) pa_nil))) pa_nil)))))
  (pss_one (ps_ret pe_bl)) pss_nil)))))))))
  (pss_one (ps_ret pe_bl))), ?_⟩
  refine ⟨.ref a, rfl, a, _, rfl, .inl hS, 2, _, rfl, 1, _, rfl, ?_⟩
  rw [List.length_map]
  obtain ⟨c1, c5⟩ : 1 ≤ (if (if (ns.length : Int) < 2 then (ns.length : Int) else 2) > 1 then (if (ns.length : Int) < 2 then (ns.length : Int) else 2) else 1) ∧ (if (if (ns.length : Int) < 2 then (ns.length : Int) else 2) > 1 then (if (ns.length : Int) < 2 then (ns.length : Int) else 2) else 1) ≤ 2 := by split <;> split <;> omega
  generalize (if (if (ns.length : Int) < 2 then (ns.length : Int) else 2) > 1 then (if (ns.length : Int) < 2 then (ns.length : Int) else 2) else 1) = cells at c1 c5
  refine ⟨cells, rfl, by omega, by omega, for_range (lo := 0) (n := cells.toNat) (fun i σ H2 => Tabs Ps H2 ∧ SqL K H2 a (ns.map V.int) ∧ ∃ y1 y2 y3 y4 y5, σ = [some (.ref a), y1, y2, y3, y4, y5]) ⟨hT, hS, none, none, none, none, none, rfl⟩ (fun i σ H2 hi p => ?_) (fun σ H2 p => ?_)⟩
  · obtain ⟨hT2, hS2, y1, y2, y3, y4, y5, rfl⟩ := p
    refine ⟨.ref a, rfl, .int (0 + (i : Int)), rfl, a, ns, _, rfl, hS2, hl, by omega, by omega, fun H3 tp s3 ntp tp3 => ?_⟩
    have L3 : LI K a (ns.map V.int) Ps tp H3 := ⟨tp3, hT2.same s3, sq_keep hS2 (s3 a), fun e H' => sq_new hS2 ntp e H'⟩
    refine ⟨3, rfl, by decide, by decide, for_range (lo := 0) (n := (3 : Int).toNat) (fun j σ H4 => LI K a (ns.map V.int) Ps tp H4 ∧ ∃ y3 y4 y5, σ = [some (.ref a), some (.int (0 + (i : Int))), some (.ref tp), y3, y4, y5]) ⟨L3, _, _, _, rfl⟩ (fun j σ H4 hj p => ?_) (fun σ H4 p => ?_)⟩
    · obtain ⟨L4, y3, y4, y5, rfl⟩ := p
      refine ⟨.ref tp, rfl, tp, rfl, L4.tape, fun H5 ra manyA huesA wdsA D5 ridA grA neA szA => ?_⟩
      have L5 := L4.taped D5
      refine ⟨.ref tp, rfl, tp, rfl, L5.tape, fun H6 rb manyB huesB wdsB D6 ridB grB neB szB => ?_⟩
      have L6 := L5.taped D6
      refine ⟨.ref tp, rfl, tp, true, rfl, L6.tape, fun H7 rc manyC huesC wdsC D7 ridC grC neC szC' => ⟨(by show 3 ≤ sizeLine; decide), fun lr nlr => ?_⟩⟩
      have L7 := L6.taped D7
      have s7 := same_upd (o := .lst [V.ref ra, .ref rb, .ref rc]) nlr
      have L8 := L7.same s7
      have nlt : lr ≠ tp := L7.tape.new nlr
      have ridA8 := ((ridA.mono (D6.tups L5.tape)).mono (D7.tups L6.tape)).mono (tups_same s7)
      have ridB8 := (ridB.mono (D7.tups L6.tape)).mono (tups_same s7)
      have ridC8 := ridC.mono (tups_same s7)
      have hlr : upd H7 lr (.lst [V.ref ra, .ref rb, .ref rc]) lr = some (.lst [V.ref ra, .ref rb, .ref rc]) := upd_same
      generalize upd H7 lr (.lst [V.ref ra, .ref rb, .ref rc]) = H8 at L8 ridA8 ridB8 ridC8 hlr s7
      refine ⟨.ref tp, rfl, tp, 3, rfl, L8.tape, by decide, by decide, fun H9 c D9 c0 c1 => ?_⟩
      have L9 := L8.taped D9
      have tu9 := D9.tups L8.tape
      obtain ⟨ri, many, hues, wds, hix, rid, gr, ne⟩ : ∃ ri many hues wds, atI [V.ref ra, .ref rb, .ref rc] c = some (.ref ri) ∧ IsRid H9 ri many hues wds ∧ GoodR many hues wds ∧ ∀ wd ∈ wds, Neat wd := by
        have : c = 0 ∨ c = 1 ∨ c = 2 := by omega
        rcases this with rfl | rfl | rfl
        · exact ⟨ra, manyA, huesA, wdsA, rfl, ridA8.mono tu9, grA, neA⟩
        · exact ⟨rb, manyB, huesB, wdsB, rfl, ridB8.mono tu9, grB, neB⟩
        · exact ⟨rc, manyC, huesC, wdsC, rfl, ridC8.mono tu9, grC, neC⟩
      refine ⟨lr, _, c, _, rfl, rfl, .inl (.inl (D9.1 _ _ nlt hlr)), hix, ?_⟩
      clear ridA ridB ridC grA grB grC neA neB neC szA szB szC' ridA8 ridB8 ridC8 hix
      have e8 := gr.eight
      -- weights
      refine ⟨fun σ H10 => LI K a (ns.map V.int) Ps tp H10 ∧ IsRid H10 ri many hues wds ∧ ∃ wv, (wv = V.non ∨ ∃ l z, wv = V.ref l ∧ 1 ≤ z ∧ z < 64 ∧ shownB wds hues (alk wds.length z) = true ∧ IsFrs H10 l (alk wds.length z)) ∧ σ = [some (.ref a), some (.int (0 + (i : Int))), some (.ref tp), some (.int (0 + (j : Int))), some (.ref ri), some wv], ?_, ?_⟩
      · refine ⟨.ref ri, rfl, ri, wds, many, hues, rfl, rid, gr, L9.tabs, fun H10 f10 lst => ?_, fun H10 z l f10 lst nl frs => ?_⟩
        · exact ⟨L9.frs f10, rid.mono (f10.seqs L9.tabs).1, _, .inl rfl, rfl⟩
        · exact ⟨L9.frs f10, rid.mono (f10.seqs L9.tabs).1, _, .inr ⟨l, z, rfl, lst.1, lst.2.1, lst.2.2.1, frs⟩, rfl⟩
      rintro σ H10 ⟨L10, rid10, wv, hwv, rfl⟩
      -- told weights
      refine ⟨fun σ H11 => LI K a (ns.map V.int) Ps tp H11 ∧ IsRid H11 ri many hues wds ∧ ∃ wv, σ = [some (.ref a), some (.int (0 + (i : Int))), some (.ref tp), some (.int (0 + (j : Int))), some (.ref ri), some wv], ?_, ?_⟩
      · rcases hwv with rfl | ⟨l, z, rfl, z1, z2, shn, frs⟩
        · exact ⟨.non, rfl, rfl, _, rfl, iteF ⟨L10, rid10, _, rfl⟩⟩
        · refine ⟨.ref l, rfl, rfl, _, rfl, iteT ?_⟩
          have al : (alk wds.length z).length = wds.length := by unfold alk; rw [List.length_replicate]
          refine ⟨.ref ri, rfl, .ref l, rfl, ri, l, wds, many, hues, _, rfl, rid10, gr, frs, alk_good z1 z2, al, L10.tabs, fun H11 f11 => ⟨_, rfl, ?_⟩⟩
          rw [shn]
          refine iteF ?_
          have L11 := L10.frs f11
          have sq11 := f11.seqs L10.tabs
          refine ⟨.ref ri, rfl, .ref l, rfl, ri, l, wds, many, hues, _, rfl, rid10.mono sq11.1, gr, ne, frs.seqs sq11, alk_150 z1 z2, al, L11.tabs, fun H12 f12 => ⟨true, rfl, iteF ?_⟩⟩
          exact ⟨L11.frs f12, (rid10.mono sq11.1).mono (f12.seqs L11.tabs).1, _, rfl⟩
      rintro σ H11 ⟨L11, rid11, wv, rfl⟩
      -- drawn weights
      refine ⟨.ref ri, rfl, .ref tp, rfl, .ref ri, rfl, tp, ri, wds, many, hues, rfl, L11.tape, rid11, gr, fun H12 l ws D12 nl frs gw wl => ?_⟩
      have L12 := L11.taped D12
      have rid12 := rid11.mono (D12.tups L11.tape)
      refine ⟨ri, l, wds, many, hues, ws, rfl, rid12, gr, ne, frs, gw, wl, L12.tabs, fun H13 f13 => ⟨true, rfl, iteF ?_⟩⟩
      exact ⟨L12.frs f13, _, _, _, rfl⟩
    · obtain ⟨L4, y3, y4, y5, rfl⟩ := p
      exact ⟨L4.tabs, L4.scr, _, _, _, _, _, rfl⟩
  · obtain ⟨hT2, hS2, y1, y2, y3, y4, y5, rfl⟩ := p
    exact rfl
end
end Rd

set_option Elab.async false
set_option linter.all false
set_option maxRecDepth 100000
set_option maxHeartbeats 4000000
namespace Rd
open PySem PySem.Spec PyProof.Rows L2 Dt
theorem all_mk {l : PySem.W.OpenLaw} {w : World} {K : PySem.W.Frag} {h : Heap} {mg : Str → Option Value} {fa : Addr} {tb : Str → Addr × Addr} (X : K.In h) (G : h.Ns mainGlobals mg) (hfa : mg "law" = some (.ref fa)) (ht : ∀ y ∈ [("hues_at" : Str), ("clash" : Str), ("shows_soon" : Str), ("mean" : Str)], Lg.TabOf mg h y (tb y))
    {f1 f2 f3 f4 f5 f6 f7 f8 f9 f10 f11 f12 f13 f14 f15 f16 f17 f18 f19 f20 f21 f22 f23 f24 f25 f26 f27 f28 f29 f30 f31 f32 f33 f34 f35 f36 f37 : Addr} {od1 an1 od2 an2 od3 an3 od4 an4 od5 an5 od6 an6 od7 an7 od8 an8 od9 an9 od10 an10 od11 an11 od12 an12 od13 an13 od14 an14 od15 an15 od16 an16 od17 an17 od18 an18 od19 an19 od20 an20 od21 an21 od22 an22 od23 an23 od24 an24 od25 an25 od26 an26 od27 an27 od28 an28 od29 an29 od30 an30 od31 an31 od32 an32 od33 an33 od34 an34 od35 an35 od36 an36 od37 an37 : Option Addr} {sl1 sl2 sl3 sl4 sl5 sl6 sl7 sl8 sl9 sl10 sl11 sl12 sl13 sl14 sl15 sl16 sl17 sl18 sl19 sl20 sl21 sl22 sl23 sl24 sl25 sl26 sl27 sl28 sl29 sl30 sl31 sl32 sl33 sl34 sl35 sl36 sl37 : Array (Option Value)} {oc1 kV1 dc1 pm1 cd1 ct1 oc2 kV2 dc2 pm2 cd2 ct2 oc3 kV3 dc3 pm3 cd3 ct3 oc4 kV4 dc4 pm4 cd4 ct4 oc5 kV5 dc5 pm5 cd5 ct5 oc6 kV6 dc6 pm6 cd6 ct6 oc7 kV7 dc7 pm7 cd7 ct7 oc8 kV8 dc8 pm8 cd8 ct8 oc9 kV9 dc9 pm9 cd9 ct9 oc10 kV10 dc10 pm10 cd10 ct10 oc11 kV11 dc11 pm11 cd11 ct11 oc12 kV12 dc12 pm12 cd12 ct12 oc13 kV13 dc13 pm13 cd13 ct13 oc14 kV14 dc14 pm14 cd14 ct14 oc15 kV15 dc15 pm15 cd15 ct15 oc16 kV16 dc16 pm16 cd16 ct16 oc17 kV17 dc17 pm17 cd17 ct17 oc18 kV18 dc18 pm18 cd18 ct18 oc19 kV19 dc19 pm19 cd19 ct19 oc20 kV20 dc20 pm20 cd20 ct20 oc21 kV21 dc21 pm21 cd21 ct21 oc22 kV22 dc22 pm22 cd22 ct22 oc23 kV23 dc23 pm23 cd23 ct23 oc24 kV24 dc24 pm24 cd24 ct24 oc25 kV25 dc25 pm25 cd25 ct25 oc26 kV26 dc26 pm26 cd26 ct26 oc27 kV27 dc27 pm27 cd27 ct27 oc28 kV28 dc28 pm28 cd28 ct28 oc29 kV29 dc29 pm29 cd29 ct29 oc30 kV30 dc30 pm30 cd30 ct30 oc31 kV31 dc31 pm31 cd31 ct31 oc32 kV32 dc32 pm32 cd32 ct32 oc33 kV33 dc33 pm33 cd33 ct33 oc34 kV34 dc34 pm34 cd34 ct34 oc35 kV35 dc35 pm35 cd35 ct35 oc36 kV36 dc36 pm36 cd36 ct36 oc37 kV37 dc37 pm37 cd37 ct37 : Value} {tk_PARTS : Tok} {tk_MOST_FILLINGS_OF_A_MEAN : Tok} {qn0 : Addr}
    (a1 : PySem.W.nsIn K mainGlobals "common_divisor" = some (some (.ref f1))) (l1 : K.lookup f1 = some ⟨oc1, od1, .func (PySem.W.fnOf "common_divisor" "common_divisor" (defArgs sGcd) (defBody sGcd) (defScope sGcd) .none kV1 dc1 pm1 an1 cd1 ct1), sl1⟩) (c1 : PySem.W.codeIn K cd1 "common_divisor" = true) (k1 : PySem.W.keepIn K (.ref f1) = true)
    (a2 : PySem.W.nsIn K mainGlobals "lowest" = some (some (.ref f2))) (l2 : K.lookup f2 = some ⟨oc2, od2, .func (PySem.W.fnOf "lowest" "lowest" (defArgs sLow) (defBody sLow) (defScope sLow) .none kV2 dc2 pm2 an2 cd2 ct2), sl2⟩) (c2 : PySem.W.codeIn K cd2 "lowest" = true) (k2 : PySem.W.keepIn K (.ref f2) = true)
    (a3 : PySem.W.nsIn K mainGlobals "fillings_number" = some (some (.ref f3))) (l3 : K.lookup f3 = some ⟨oc3, od3, .func (PySem.W.fnOf "fillings_number" "fillings_number" (defArgs sFnu) (defBody sFnu) (defScope sFnu) .none kV3 dc3 pm3 an3 cd3 ct3), sl3⟩) (c3 : PySem.W.codeIn K cd3 "fillings_number" = true) (k3 : PySem.W.keepIn K (.ref f3) = true)
    (a4 : PySem.W.nsIn K mainGlobals "hues_at" = some (some (.ref f4))) (l4 : K.lookup f4 = some ⟨oc4, od4, .func (PySem.W.fnOf "hues_at" "hues_at" (defArgs sHue) (defBody sHue) (defScope sHue) .none kV4 dc4 pm4 an4 cd4 ct4), sl4⟩) (c4 : PySem.W.codeIn K cd4 "hues_at" = true) (k4 : PySem.W.keepIn K (.ref f4) = true)
    (a5 : PySem.W.nsIn K mainGlobals "is_broken" = some (some (.ref f5))) (l5 : K.lookup f5 = some ⟨oc5, od5, .func (PySem.W.fnOf "is_broken" "is_broken" (defArgs sIsB) (defBody sIsB) (defScope sIsB) .none kV5 dc5 pm5 an5 cd5 ct5), sl5⟩) (c5 : PySem.W.codeIn K cd5 "is_broken" = true) (k5 : PySem.W.keepIn K (.ref f5) = true)
    (a6 : PySem.W.nsIn K mainGlobals "broken" = some (some (.ref f6))) (l6 : K.lookup f6 = some ⟨oc6, od6, .func (PySem.W.fnOf "broken" "broken" (defArgs sBro) (defBody sBro) (defScope sBro) .none kV6 dc6 pm6 an6 cd6 ct6), sl6⟩) (c6 : PySem.W.codeIn K cd6 "broken" = true) (k6 : PySem.W.keepIn K (.ref f6) = true)
    (a7 : PySem.W.nsIn K mainGlobals "all_fillings" = some (some (.ref f7))) (l7 : K.lookup f7 = some ⟨oc7, od7, .func (PySem.W.fnOf "all_fillings" "all_fillings" (defArgs sAlf) (defBody sAlf) (defScope sAlf) .none kV7 dc7 pm7 an7 cd7 ct7), sl7⟩) (c7 : PySem.W.codeIn K cd7 "all_fillings" = true) (k7 : PySem.W.keepIn K (.ref f7) = true)
    (a8 : PySem.W.nsIn K mainGlobals "counts" = some (some (.ref f8))) (l8 : K.lookup f8 = some ⟨oc8, od8, .func (PySem.W.fnOf "counts" "counts" (defArgs sCnt) (defBody sCnt) (defScope sCnt) .none kV8 dc8 pm8 an8 cd8 ct8), sl8⟩) (c8 : PySem.W.codeIn K cd8 "counts" = true) (k8 : PySem.W.keepIn K (.ref f8) = true)
    (a9 : PySem.W.nsIn K mainGlobals "clash" = some (some (.ref f9))) (l9 : K.lookup f9 = some ⟨oc9, od9, .func (PySem.W.fnOf "clash" "clash" (defArgs sCla) (defBody sCla) (defScope sCla) .none kV9 dc9 pm9 an9 cd9 ct9), sl9⟩) (c9 : PySem.W.codeIn K cd9 "clash" = true) (k9 : PySem.W.keepIn K (.ref f9) = true)
    (a10 : PySem.W.nsIn K mainGlobals "clashing" = some (some (.ref f10))) (l10 : K.lookup f10 = some ⟨oc10, od10, .func (PySem.W.fnOf "clashing" "clashing" (defArgs sCls) (defBody sCls) (defScope sCls) .none kV10 dc10 pm10 an10 cd10 ct10), sl10⟩) (c10 : PySem.W.codeIn K cd10 "clashing" = true) (k10 : PySem.W.keepIn K (.ref f10) = true)
    (a11 : PySem.W.nsIn K mainGlobals "share" = some (some (.ref f11))) (l11 : K.lookup f11 = some ⟨oc11, od11, .func (PySem.W.fnOf "share" "share" (defArgs sShr) (defBody sShr) (defScope sShr) .none kV11 dc11 pm11 an11 cd11 ct11), sl11⟩) (c11 : PySem.W.codeIn K cd11 "share" = true) (k11 : PySem.W.keepIn K (.ref f11) = true)
    (a12 : PySem.W.nsIn K mainGlobals "room" = some (some (.ref f12))) (l12 : K.lookup f12 = some ⟨oc12, od12, .func (PySem.W.fnOf "room" "room" (defArgs sRoo) (defBody sRoo) (defScope sRoo) .none kV12 dc12 pm12 an12 cd12 ct12), sl12⟩) (c12 : PySem.W.codeIn K cd12 "room" = true) (k12 : PySem.W.keepIn K (.ref f12) = true)
    (a13 : PySem.W.nsIn K mainGlobals "is_at_most" = some (some (.ref f13))) (l13 : K.lookup f13 = some ⟨oc13, od13, .func (PySem.W.fnOf "is_at_most" "is_at_most" (defArgs sAtm) (defBody sAtm) (defScope sAtm) .none kV13 dc13 pm13 an13 cd13 ct13), sl13⟩) (c13 : PySem.W.codeIn K cd13 "is_at_most" = true) (k13 : PySem.W.keepIn K (.ref f13) = true)
    (a14 : PySem.W.nsIn K mainGlobals "shows_soon" = some (some (.ref f14))) (l14 : K.lookup f14 = some ⟨oc14, od14, .func (PySem.W.fnOf "shows_soon" "shows_soon" (defArgs sSho) (defBody sSho) (defScope sSho) .none kV14 dc14 pm14 an14 cd14 ct14), sl14⟩) (c14 : PySem.W.codeIn K cd14 "shows_soon" = true) (k14 : PySem.W.keepIn K (.ref f14) = true)
    (a15 : PySem.W.nsIn K mainGlobals "alike_weights" = some (some (.ref f15))) (l15 : K.lookup f15 = some ⟨oc15, od15, .func (PySem.W.fnOf "alike_weights" "alike_weights" (defArgs sAlw) (defBody sAlw) (defScope sAlw) .none kV15 dc15 pm15 an15 cd15 ct15), sl15⟩) (c15 : PySem.W.codeIn K cd15 "alike_weights" = true) (k15 : PySem.W.keepIn K (.ref f15) = true)
    (a16 : PySem.W.nsIn K mainGlobals "least_a" = some (some (.ref f16))) (l16 : K.lookup f16 = some ⟨oc16, od16, .func (PySem.W.fnOf "least_a" "least_a" (defArgs sLea) (defBody sLea) (defScope sLea) .none kV16 dc16 pm16 an16 cd16 ct16), sl16⟩) (c16 : PySem.W.codeIn K cd16 "least_a" = true) (k16 : PySem.W.keepIn K (.ref f16) = true)
    (a17 : PySem.W.nsIn K mainGlobals "weights_of" = some (some (.ref f17))) (l17 : K.lookup f17 = some ⟨oc17, od17, .func (PySem.W.fnOf "weights_of" "weights_of" (defArgs sWof) (defBody sWof) (defScope sWof) .none kV17 dc17 pm17 an17 cd17 ct17), sl17⟩) (c17 : PySem.W.codeIn K cd17 "weights_of" = true) (k17 : PySem.W.keepIn K (.ref f17) = true)
    (a18 : PySem.W.nsIn K mainGlobals "least_kept" = some (some (.ref f18))) (l18 : K.lookup f18 = some ⟨oc18, od18, .func (PySem.W.fnOf "least_kept" "least_kept" (defArgs sLkp) (defBody sLkp) (defScope sLkp) .none kV18 dc18 pm18 an18 cd18 ct18), sl18⟩) (c18 : PySem.W.codeIn K cd18 "least_kept" = true) (k18 : PySem.W.keepIn K (.ref f18) = true)
    (a19 : PySem.W.nsIn K mainGlobals "most_mended" = some (some (.ref f19))) (l19 : K.lookup f19 = some ⟨oc19, od19, .func (PySem.W.fnOf "most_mended" "most_mended" (defArgs sMmd) (defBody sMmd) (defScope sMmd) .none kV19 dc19 pm19 an19 cd19 ct19), sl19⟩) (c19 : PySem.W.codeIn K cd19 "most_mended" = true) (k19 : PySem.W.keepIn K (.ref f19) = true)
    (a20 : PySem.W.nsIn K mainGlobals "drawn_anew" = some (some (.ref f20))) (l20 : K.lookup f20 = some ⟨oc20, od20, .func (PySem.W.fnOf "drawn_anew" "drawn_anew" (defArgs sDan) (defBody sDan) (defScope sDan) .none kV20 dc20 pm20 an20 cd20 ct20), sl20⟩) (c20 : PySem.W.codeIn K cd20 "drawn_anew" = true) (k20 : PySem.W.keepIn K (.ref f20) = true)
    (a21 : PySem.W.nsIn K mainGlobals "mended" = some (some (.ref f21))) (l21 : K.lookup f21 = some ⟨oc21, od21, .func (PySem.W.fnOf "mended" "mended" (defArgs sMen) (defBody sMen) (defScope sMen) .none kV21 dc21 pm21 an21 cd21 ct21), sl21⟩) (c21 : PySem.W.codeIn K cd21 "mended" = true) (k21 : PySem.W.keepIn K (.ref f21) = true)
    (a22 : PySem.W.nsIn K mainGlobals "ways_on" = some (some (.ref f22))) (l22 : K.lookup f22 = some ⟨oc22, od22, .func (PySem.W.fnOf "ways_on" "ways_on" (defArgs sWay) (defBody sWay) (defScope sWay) .none kV22 dc22 pm22 an22 cd22 ct22), sl22⟩) (c22 : PySem.W.codeIn K cd22 "ways_on" = true) (k22 : PySem.W.keepIn K (.ref f22) = true)
    (a23 : PySem.W.nsIn K mainGlobals "equations" = some (some (.ref f23))) (l23 : K.lookup f23 = some ⟨oc23, od23, .func (PySem.W.fnOf "equations" "equations" (defArgs sEqu) (defBody sEqu) (defScope sEqu) .none kV23 dc23 pm23 an23 cd23 ct23), sl23⟩) (c23 : PySem.W.codeIn K cd23 "equations" = true) (k23 : PySem.W.keepIn K (.ref f23) = true)
    (a24 : PySem.W.nsIn K mainGlobals "crossed_out" = some (some (.ref f24))) (l24 : K.lookup f24 = some ⟨oc24, od24, .func (PySem.W.fnOf "crossed_out" "crossed_out" (defArgs sCro) (defBody sCro) (defScope sCro) .none kV24 dc24 pm24 an24 cd24 ct24), sl24⟩) (c24 : PySem.W.codeIn K cd24 "crossed_out" = true) (k24 : PySem.W.keepIn K (.ref f24) = true)
    (a25 : PySem.W.nsIn K mainGlobals "mean" = some (some (.ref f25))) (l25 : K.lookup f25 = some ⟨oc25, od25, .func (PySem.W.fnOf "mean" "mean" (defArgs sMean) (defBody sMean) (defScope sMean) .none kV25 dc25 pm25 an25 cd25 ct25), sl25⟩) (c25 : PySem.W.codeIn K cd25 "mean" = true) (k25 : PySem.W.keepIn K (.ref f25) = true)
    (a26 : PySem.W.nsIn K mainGlobals "_law_tape" = some (some (.ref f26))) (l26 : K.lookup f26 = some ⟨oc26, od26, .func (PySem.W.fnOf "_law_tape" "_law_tape" (defArgs sTap) (defBody sTap) (defScope sTap) .none kV26 dc26 pm26 an26 cd26 ct26), sl26⟩) (c26 : PySem.W.codeIn K cd26 "_law_tape" = true) (k26 : PySem.W.keepIn K (.ref f26) = true)
    (a27 : PySem.W.nsIn K mainGlobals "_law_digit" = some (some (.ref f27))) (l27 : K.lookup f27 = some ⟨oc27, od27, .func (PySem.W.fnOf "_law_digit" "_law_digit" (defArgs sDig) (defBody sDig) (defScope sDig) .none kV27 dc27 pm27 an27 cd27 ct27), sl27⟩) (c27 : PySem.W.codeIn K cd27 "_law_digit" = true) (k27 : PySem.W.keepIn K (.ref f27) = true)
    (a28 : PySem.W.nsIn K mainGlobals "_law_wish" = some (some (.ref f28))) (l28 : K.lookup f28 = some ⟨oc28, od28, .func (PySem.W.fnOf "_law_wish" "_law_wish" (defArgs sWis) (defBody sWis) (defScope sWis) .none kV28 dc28 pm28 an28 cd28 ct28), sl28⟩) (c28 : PySem.W.codeIn K cd28 "_law_wish" = true) (k28 : PySem.W.keepIn K (.ref f28) = true)
    (a29 : PySem.W.nsIn K mainGlobals "_law_sizes" = some (some (.ref f29))) (l29 : K.lookup f29 = some ⟨oc29, od29, .func (PySem.W.fnOf "_law_sizes" "_law_sizes" (defArgs sSzs) (defBody sSzs) (defScope sSzs) .none kV29 dc29 pm29 an29 cd29 ct29), sl29⟩) (c29 : PySem.W.codeIn K cd29 "_law_sizes" = true) (k29 : PySem.W.keepIn K (.ref f29) = true)
    (a30 : PySem.W.nsIn K mainGlobals "_law_riddle" = some (some (.ref f30))) (l30 : K.lookup f30 = some ⟨oc30, od30, .func (PySem.W.fnOf "_law_riddle" "_law_riddle" (defArgs sRid) (defBody sRid) (defScope sRid) .none kV30 dc30 pm30 an30 cd30 ct30), sl30⟩) (c30 : PySem.W.codeIn K cd30 "_law_riddle" = true) (k30 : PySem.W.keepIn K (.ref f30) = true)
    (a31 : PySem.W.nsIn K mainGlobals "_law_lowest" = some (some (.ref f31))) (l31 : K.lookup f31 = some ⟨oc31, od31, .func (PySem.W.fnOf "_law_lowest" "_law_lowest" (defArgs sLwl) (defBody sLwl) (defScope sLwl) .none kV31 dc31 pm31 an31 cd31 ct31), sl31⟩) (c31 : PySem.W.codeIn K cd31 "_law_lowest" = true) (k31 : PySem.W.keepIn K (.ref f31) = true)
    (a32 : PySem.W.nsIn K mainGlobals "_law_share" = some (some (.ref f32))) (l32 : K.lookup f32 = some ⟨oc32, od32, .func (PySem.W.fnOf "_law_share" "_law_share" (defArgs sLsh) (defBody sLsh) (defScope sLsh) .none kV32 dc32 pm32 an32 cd32 ct32), sl32⟩) (c32 : PySem.W.codeIn K cd32 "_law_share" = true) (k32 : PySem.W.keepIn K (.ref f32) = true)
    (a33 : PySem.W.nsIn K mainGlobals "_law_sparse" = some (some (.ref f33))) (l33 : K.lookup f33 = some ⟨oc33, od33, .func (PySem.W.fnOf "_law_sparse" "_law_sparse" (defArgs sSpa) (defBody sSpa) (defScope sSpa) .none kV33 dc33 pm33 an33 cd33 ct33), sl33⟩) (c33 : PySem.W.codeIn K cd33 "_law_sparse" = true) (k33 : PySem.W.keepIn K (.ref f33) = true)
    (a34 : PySem.W.nsIn K mainGlobals "_law_weights" = some (some (.ref f34))) (l34 : K.lookup f34 = some ⟨oc34, od34, .func (PySem.W.fnOf "_law_weights" "_law_weights" (defArgs sLwe) (defBody sLwe) (defScope sLwe) .none kV34 dc34 pm34 an34 cd34 ct34), sl34⟩) (c34 : PySem.W.codeIn K cd34 "_law_weights" = true) (k34 : PySem.W.keepIn K (.ref f34) = true)
    (a35 : PySem.W.nsIn K mainGlobals "_law_small_sparse" = some (some (.ref f35))) (l35 : K.lookup f35 = some ⟨oc35, od35, .func (PySem.W.fnOf "_law_small_sparse" "_law_small_sparse" (defArgs sLss) (defBody sLss) (defScope sLss) .none kV35 dc35 pm35 an35 cd35 ct35), sl35⟩) (c35 : PySem.W.codeIn K cd35 "_law_small_sparse" = true) (k35 : PySem.W.keepIn K (.ref f35) = true)
    (a36 : PySem.W.nsIn K mainGlobals "_law_right" = some (some (.ref f36))) (l36 : K.lookup f36 = some ⟨oc36, od36, .func (PySem.W.fnOf "_law_right" "_law_right" (defArgs sRgt) (defBody sRgt) (defScope sRgt) .none kV36 dc36 pm36 an36 cd36 ct36), sl36⟩) (c36 : PySem.W.codeIn K cd36 "_law_right" = true) (k36 : PySem.W.keepIn K (.ref f36) = true)
    (a37 : PySem.W.nsIn K mainGlobals "law" = some (some (.ref f37))) (l37 : K.lookup f37 = some ⟨oc37, od37, .func (PySem.W.fnOf "law" "law" (defArgs sLaw) (defBody sLaw) (defScope sLaw) .none kV37 dc37 pm37 an37 cd37 ct37), sl37⟩) (c37 : PySem.W.codeIn K cd37 "law" = true) (k37 : PySem.W.keepIn K (.ref f37) = true)
    (z_abs : PySem.W.nsIn K mainGlobals "abs" = some none)
    (z_all : PySem.W.nsIn K mainGlobals "all" = some none)
    (z_any : PySem.W.nsIn K mainGlobals "any" = some none)
    (z_enumerate : PySem.W.nsIn K mainGlobals "enumerate" = some none)
    (z_len : PySem.W.nsIn K mainGlobals "len" = some none)
    (z_list : PySem.W.nsIn K mainGlobals "list" = some none)
    (z_max : PySem.W.nsIn K mainGlobals "max" = some none)
    (z_min : PySem.W.nsIn K mainGlobals "min" = some none)
    (z_range : PySem.W.nsIn K mainGlobals "range" = some none)
    (z_sorted : PySem.W.nsIn K mainGlobals "sorted" = some none)
    (z_sum : PySem.W.nsIn K mainGlobals "sum" = some none)
    (z_tuple : PySem.W.nsIn K mainGlobals "tuple" = some none)
    (z_zip : PySem.W.nsIn K mainGlobals "zip" = some none)
    (q_PARTS : PySem.W.nsIn K mainGlobals "PARTS" = some (some (.int 64 tk_PARTS)))
    (q_MOST_FILLINGS_OF_A_MEAN : PySem.W.nsIn K mainGlobals "MOST_FILLINGS_OF_A_MEAN" = some (some (.int 32 tk_MOST_FILLINGS_OF_A_MEAN)))
    (nq0 : PySem.W.nsIn K mainGlobals "TooMany" = some (some (.ref qn0)))
    (hq0 : okC1 K qn0 = true) :
    ∃ fd : FuncData, Fun K "law" "law" sLaw fa fd ∧ (∀ (s : Shared) (v : Value), BindsTo s fd ⟨[v], []⟩ [("script", v)]) ∧ ∀ (base : Heap) (H : Hp) (cdv : Value) (a : Addr) (ns : List Int) (s : Shared), K.In base → base.Ns mainGlobals mg → (∀ y ∈ [("hues_at" : Str), ("clash" : Str), ("shows_soon" : Str), ("mean" : Str)], GxR.TabB base mg (tb y).1 (tb y).2) → (∀ y ∈ [("hues_at" : Str), ("clash" : Str), ("shows_soon" : Str), ("mean" : Str)], H (tb y).2 = some (.tbl #[])) → ns.length ≤ 63 → (∀ z ∈ ns, Builtin.Int.intBits z ≤ 1048576) → SqL K H a (ns.map V.int) → Room 9 (callerA.deeper (envOfC "law" (defScope sLaw) s.heap.objs.size fa cdv)) →
        ∃ t, PSs (cxOf CX0 l.prog w K mg base nLaw "law" (defScope sLaw) fa cdv callerA [] s H (fun _ _ _ => False)).nox (defBody sLaw) t ∧ t { nx := fun _ _ => False, rt := fun v _ => v = .bl true } (start nLaw [.ref a]) H := by
  have e := hfa.symm.trans (PySem.W.mg_of X G a37)
  cases e
  have F1 := fun_mk (st := sGcd) l1 c1 k1
  have F2 := fun_mk (st := sLow) l2 c2 k2
  have F3 := fun_mk (st := sFnu) l3 c3 k3
  have F4 := fun_mk (st := sHue) l4 c4 k4
  have F5 := fun_mk (st := sIsB) l5 c5 k5
  have F6 := fun_mk (st := sBro) l6 c6 k6
  have F7 := fun_mk (st := sAlf) l7 c7 k7
  have F8 := fun_mk (st := sCnt) l8 c8 k8
  have F9 := fun_mk (st := sCla) l9 c9 k9
  have F10 := fun_mk (st := sCls) l10 c10 k10
  have F11 := fun_mk (st := sShr) l11 c11 k11
  have F12 := fun_mk (st := sRoo) l12 c12 k12
  have F13 := fun_mk (st := sAtm) l13 c13 k13
  have F14 := fun_mk (st := sSho) l14 c14 k14
  have F15 := fun_mk (st := sAlw) l15 c15 k15
  have F16 := fun_mk (st := sLea) l16 c16 k16
  have F17 := fun_mk (st := sWof) l17 c17 k17
  have F18 := fun_mk (st := sLkp) l18 c18 k18
  have F19 := fun_mk (st := sMmd) l19 c19 k19
  have F20 := fun_mk (st := sDan) l20 c20 k20
  have F21 := fun_mk (st := sMen) l21 c21 k21
  have F22 := fun_mk (st := sWay) l22 c22 k22
  have F23 := fun_mk (st := sEqu) l23 c23 k23
  have F24 := fun_mk (st := sCro) l24 c24 k24
  have F25 := fun_mk (st := sMean) l25 c25 k25
  have F26 := fun_mk (st := sTap) l26 c26 k26
  have F27 := fun_mk (st := sDig) l27 c27 k27
  have F28 := fun_mk (st := sWis) l28 c28 k28
  have F29 := fun_mk (st := sSzs) l29 c29 k29
  have F30 := fun_mk (st := sRid) l30 c30 k30
  have F31 := fun_mk (st := sLwl) l31 c31 k31
  have F32 := fun_mk (st := sLsh) l32 c32 k32
  have F33 := fun_mk (st := sSpa) l33 c33 k33
  have F34 := fun_mk (st := sLwe) l34 c34 k34
  have F35 := fun_mk (st := sLss) l35 c35 k35
  have F36 := fun_mk (st := sRgt) l36 c36 k36
  have F37 := fun_mk (st := sLaw) l37 c37 k37
  have b1 := F1.binds (ps := ["one", "other"]) fun _ _ _ _ _ _ us hl => match us, hl with | [_, _], _ => rfl
  have b2 := F2.binds (ps := ["above", "below"]) fun _ _ _ _ _ _ us hl => match us, hl with | [_, _], _ => rfl
  have b3 := F3.binds (ps := ["many", "hues"]) fun _ _ _ _ _ _ us hl => match us, hl with | [_, _], _ => rfl
  have b4 := F4.binds (ps := ["filling", "places"]) fun _ _ _ _ _ _ us hl => match us, hl with | [_, _], _ => rfl
  have b5 := F5.binds (ps := ["wish", "filling"]) fun _ _ _ _ _ _ us hl => match us, hl with | [_, _], _ => rfl
  have b6 := F6.binds (ps := ["riddle", "filling"]) fun _ _ _ _ _ _ us hl => match us, hl with | [_, _], _ => rfl
  have b7 := F7.binds (ps := ["many", "hues"]) fun _ _ _ _ _ _ us hl => match us, hl with | [_, _], _ => rfl
  have b8 := F8.binds (ps := ["riddle"]) fun _ _ _ _ _ _ us hl => match us, hl with | [_], _ => rfl
  have b9 := F9.binds (ps := ["one", "other"]) fun _ _ _ _ _ _ us hl => match us, hl with | [_, _], _ => rfl
  have b10 := F10.binds (ps := ["riddle"]) fun _ _ _ _ _ _ us hl => match us, hl with | [_], _ => rfl
  have b11 := F11.binds (ps := ["wish", "hues"]) fun _ _ _ _ _ _ us hl => match us, hl with | [_, _], _ => rfl
  have b12 := F12.binds (ps := ["weights", "number", "clashes"]) fun _ _ _ _ _ _ us hl => match us, hl with | [_, _, _], _ => rfl
  have b13 := F13.binds (ps := ["one", "other"]) fun _ _ _ _ _ _ us hl => match us, hl with | [_, _], _ => rfl
  have b14 := F14.binds (ps := ["riddle", "weights"]) fun _ _ _ _ _ _ us hl => match us, hl with | [_, _], _ => rfl
  have b15 := F15.binds (ps := ["riddle", "a"]) fun _ _ _ _ _ _ us hl => match us, hl with | [_, _], _ => rfl
  have b16 := F16.binds (ps := ["riddle"]) fun _ _ _ _ _ _ us hl => match us, hl with | [_], _ => rfl
  have b17 := F17.binds (ps := ["riddle"]) fun _ _ _ _ _ _ us hl => match us, hl with | [_], _ => rfl
  have b18 := F18.binds (ps := ["riddle", "weights"]) fun _ _ _ _ _ _ us hl => match us, hl with | [_, _], _ => rfl
  have b19 := F19.binds (ps := ["riddle", "weights"]) fun _ _ _ _ _ _ us hl => match us, hl with | [_, _], _ => rfl
  have b20 := F20.binds (ps := ["filling", "places", "row"]) fun _ _ _ _ _ _ us hl => match us, hl with | [_, _, _], _ => rfl
  have b21 := F21.binds (ps := ["riddle", "filling"]) fun _ _ _ _ _ _ us hl => match us, hl with | [_, _], _ => rfl
  have b22 := F22.binds (ps := ["riddle"]) fun _ _ _ _ _ _ us hl => match us, hl with | [_], _ => rfl
  have b23 := F23.binds (ps := ["ways"]) fun _ _ _ _ _ _ us hl => match us, hl with | [_], _ => rfl
  have b24 := F24.binds (ps := ["rows", "at", "last"]) fun _ _ _ _ _ _ us hl => match us, hl with | [_, _, _], _ => rfl
  have b25 := F25.binds (ps := ["riddle"]) fun _ _ _ _ _ _ us hl => match us, hl with | [_], _ => rfl
  have b26 := F26.binds (ps := ["script", "start"]) fun _ _ _ _ _ _ us hl => match us, hl with | [_, _], _ => rfl
  have b27 := F27.binds (ps := ["tape", "many"]) fun _ _ _ _ _ _ us hl => match us, hl with | [_, _], _ => rfl
  have b28 := F28.binds (ps := ["tape", "many", "hues", "most"]) fun _ _ _ _ _ _ us hl => match us, hl with | [_, _, _, _], _ => rfl
  have b29 := F29.binds (ps := ["tape", "small"]) fun _ _ _ _ _ _ us hl => match us, hl with | [_, _], _ => rfl
  have b30 := F30.binds (ps := ["tape", "small"]) fun _ _ _ _ _ _ us hl => match us, hl with | [_, _], _ => rfl
  have b31 := F31.binds (ps := ["top", "below"]) fun _ _ _ _ _ _ us hl => match us, hl with | [_, _], _ => rfl
  have b32 := F32.binds (ps := ["riddle", "number"]) fun _ _ _ _ _ _ us hl => match us, hl with | [_, _], _ => rfl
  have b33 := F33.binds (ps := ["tape"]) fun _ _ _ _ _ _ us hl => match us, hl with | [_], _ => rfl
  have b34 := F34.binds (ps := ["tape", "riddle"]) fun _ _ _ _ _ _ us hl => match us, hl with | [_, _], _ => rfl
  have b35 := F35.binds (ps := ["tape"]) fun _ _ _ _ _ _ us hl => match us, hl with | [_], _ => rfl
  have b36 := F36.binds (ps := ["riddle", "weights"]) fun _ _ _ _ _ _ us hl => match us, hl with | [_, _], _ => rfl
  have m_abs := PySem.W.mg_none_of X G z_abs
  have m_all := PySem.W.mg_none_of X G z_all
  have m_any := PySem.W.mg_none_of X G z_any
  have m_enumerate := PySem.W.mg_none_of X G z_enumerate
  have m_len := PySem.W.mg_none_of X G z_len
  have m_list := PySem.W.mg_none_of X G z_list
  have m_max := PySem.W.mg_none_of X G z_max
  have m_min := PySem.W.mg_none_of X G z_min
  have m_range := PySem.W.mg_none_of X G z_range
  have m_sorted := PySem.W.mg_none_of X G z_sorted
  have m_sum := PySem.W.mg_none_of X G z_sum
  have m_tuple := PySem.W.mg_none_of X G z_tuple
  have m_zip := PySem.W.mg_none_of X G z_zip
  have g1 := PySem.W.mg_of X G a1
  have g2 := PySem.W.mg_of X G a2
  have g3 := PySem.W.mg_of X G a3
  have g4 := PySem.W.mg_of X G a4
  have g5 := PySem.W.mg_of X G a5
  have g6 := PySem.W.mg_of X G a6
  have g7 := PySem.W.mg_of X G a7
  have g8 := PySem.W.mg_of X G a8
  have g9 := PySem.W.mg_of X G a9
  have g10 := PySem.W.mg_of X G a10
  have g11 := PySem.W.mg_of X G a11
  have g12 := PySem.W.mg_of X G a12
  have g13 := PySem.W.mg_of X G a13
  have g14 := PySem.W.mg_of X G a14
  have g15 := PySem.W.mg_of X G a15
  have g16 := PySem.W.mg_of X G a16
  have g17 := PySem.W.mg_of X G a17
  have g18 := PySem.W.mg_of X G a18
  have g19 := PySem.W.mg_of X G a19
  have g20 := PySem.W.mg_of X G a20
  have g21 := PySem.W.mg_of X G a21
  have g22 := PySem.W.mg_of X G a22
  have g23 := PySem.W.mg_of X G a23
  have g24 := PySem.W.mg_of X G a24
  have g25 := PySem.W.mg_of X G a25
  have g26 := PySem.W.mg_of X G a26
  have g27 := PySem.W.mg_of X G a27
  have g28 := PySem.W.mg_of X G a28
  have g29 := PySem.W.mg_of X G a29
  have g30 := PySem.W.mg_of X G a30
  have g31 := PySem.W.mg_of X G a31
  have g32 := PySem.W.mg_of X G a32
  have g33 := PySem.W.mg_of X G a33
  have g34 := PySem.W.mg_of X G a34
  have g35 := PySem.W.mg_of X G a35
  have g36 := PySem.W.mg_of X G a36
  have g37 := PySem.W.mg_of X G a37
  have tc4 := (ht "hues_at" (by decide)).code X g4 l4
  cases tc4
  have tc9 := (ht "clash" (by decide)).code X g9 l9
  cases tc9
  have tc14 := (ht "shows_soon" (by decide)).code X g14 l14
  cases tc14
  have tc25 := (ht "mean" (by decide)).code X g25 l25
  cases tc25
  refine ⟨_, F37, fun s v => .of_eq rfl, fun base H cdv a ns s kb gb tB tH hl hb hS hrm => ?_⟩
  have TB4 := tB "hues_at" (by decide)
  have TH4 := tH "hues_at" (by decide)
  have TB9 := tB "clash" (by decide)
  have TH9 := tH "clash" (by decide)
  have TB14 := tB "shows_soon" (by decide)
  have TH14 := tH "shows_soon" (by decide)
  have TB25 := tB "mean" (by decide)
  have TH25 := tH "mean" (by decide)
  have C1 : Cal l.prog w K mg base 1 "common_divisor" ["one", "other"] spGcd := ⟨_, _, ok_gcd (k := 0) F1, g1, k1, b1⟩
  have C2 : Cal l.prog w K mg base 2 "lowest" ["above", "below"] spLow := ⟨_, _, ok_low (k := 0) F2 { c_common_divisor := C1 }, g2, k2, b2⟩
  have C3 : Cal l.prog w K mg base 1 "fillings_number" ["many", "hues"] spFnuM := ⟨_, _, ok_fnuM (k := 0) F3 { m_range := m_range }, g3, k3, b3⟩
  have C4 : Cal l.prog w K mg base 3 "hues_at" ["filling", "places"] (spHues [(tb "hues_at").2, (tb "clash").2, (tb "shows_soon").2, (tb "mean").2]) := ⟨_, _, ok_hues (k := 0) ⟨⟨_, _, _, _, _, _, _, _, rfl, l4, c4⟩⟩ TB4 (by simp) { m_tuple := m_tuple, m_zip := m_zip, m_all := m_all, m_len := m_len }, g4, k4, b4⟩
  have C5 : Cal l.prog w K mg base 4 "is_broken" ["wish", "filling"] (spIsB [(tb "hues_at").2, (tb "clash").2, (tb "shows_soon").2, (tb "mean").2]) := ⟨_, _, ok_isB (k := 0) F5 { c_hues_at := C4 }, g5, k5, b5⟩
  have C6 : Cal l.prog w K mg base 5 "broken" ["riddle", "filling"] (spBro [(tb "hues_at").2, (tb "clash").2, (tb "shows_soon").2, (tb "mean").2]) := ⟨_, _, ok_bro (k := 0) F6 { m_enumerate := m_enumerate, c_is_broken := C5 }, g6, k6, b6⟩
  have C7 : Cal l.prog w K mg base 1 "all_fillings" ["many", "hues"] spAlf := ⟨_, _, ok_alf (k := 0) F7 { m_range := m_range }, g7, k7, b7⟩
  have C8 : Cal l.prog w K mg base 6 "counts" ["riddle"] (spCnt [(tb "hues_at").2, (tb "clash").2, (tb "shows_soon").2, (tb "mean").2]) := ⟨_, _, ok_cnt (k := 0) F8 { m_len := m_len, c_all_fillings := C7, c_broken := C6 }, g8, k8, b8⟩
  have C9 : Cal l.prog w K mg base 1 "clash" ["one", "other"] (spCla [(tb "hues_at").2, (tb "clash").2, (tb "shows_soon").2, (tb "mean").2]) := ⟨_, _, ok_cla (k := 0) ⟨⟨_, _, _, _, _, _, _, _, rfl, l9, c9⟩⟩ TB9 (by simp) { m_any := m_any }, g9, k9, b9⟩
  have C10 : Cal l.prog w K mg base 2 "clashing" ["riddle"] (spCls [(tb "hues_at").2, (tb "clash").2, (tb "shows_soon").2, (tb "mean").2]) := ⟨_, _, ok_cls (k := 0) F10 { m_enumerate := m_enumerate, c_clash := C9 }, g10, k10, b10⟩
  have C11 : Cal l.prog w K mg base 3 "share" ["wish", "hues"] spShr := ⟨_, _, ok_shr (k := 0) F11 { m_len := m_len, c_lowest := C2, c_fillings_number := C3 }, g11, k11, b11⟩
  have C12 : Cal l.prog w K mg base 3 "room" ["weights", "number", "clashes"] spRoo := ⟨_, _, ok_roo (k := 0) F12 { c_lowest := C2 }, g12, k12, b12⟩
  have C13 : Cal l.prog w K mg base 1 "is_at_most" ["one", "other"] spAtm := ⟨_, _, ok_atm (k := 0) F13, g13, k13, b13⟩
  have C14 : Cal l.prog w K mg base 6 "shows_soon" ["riddle", "weights"] (spSho [(tb "hues_at").2, (tb "clash").2, (tb "shows_soon").2, (tb "mean").2]) := ⟨_, _, ok_sho (k := 0) ⟨⟨_, _, _, _, _, _, _, _, rfl, l14, c14⟩⟩ TB14 (by simp) { m_all := m_all, m_enumerate := m_enumerate, c_clashing := C10, c_share := C11, c_room := C12, c_is_at_most := C13 }, g14, k14, b14⟩
  have C15 : Cal l.prog w K mg base 3 "alike_weights" ["riddle", "a"] spAlw := ⟨_, _, ok_alw (k := 0) F15 { g_PARTS := ⟨_, PySem.W.mg_of X G q_PARTS, ⟨_, rfl⟩⟩, c_lowest := C2 }, g15, k15, b15⟩
  have C16 : Cal l.prog w K mg base 7 "least_a" ["riddle"] (spLea [(tb "hues_at").2, (tb "clash").2, (tb "shows_soon").2, (tb "mean").2]) := ⟨_, _, ok_lea (k := 0) F16 { m_range := m_range, g_PARTS := ⟨_, PySem.W.mg_of X G q_PARTS, ⟨_, rfl⟩⟩, c_alike_weights := C15, c_shows_soon := C14 }, g16, k16, b16⟩
  have C17 : Cal l.prog w K mg base 8 "weights_of" ["riddle"] (spWof [(tb "hues_at").2, (tb "clash").2, (tb "shows_soon").2, (tb "mean").2]) := ⟨_, _, ok_wof (k := 0) F17 { c_least_a := C16, c_alike_weights := C15 }, g17, k17, b17⟩
  have C18 : Cal l.prog w K mg base 3 "least_kept" ["riddle", "weights"] spLkp := ⟨_, _, ok_lkp (k := 0) F18 { c_lowest := C2, c_fillings_number := C3 }, g18, k18, b18⟩
  have C19 : Cal l.prog w K mg base 3 "most_mended" ["riddle", "weights"] spMmd := ⟨_, _, ok_mmd (k := 0) F19 { c_lowest := C2 }, g19, k19, b19⟩
  have C20 : Cal l.prog w K mg base 1 "drawn_anew" ["filling", "places", "row"] spDan := ⟨_, _, ok_dan (k := 0) F20 { m_list := m_list, m_tuple := m_tuple, m_zip := m_zip }, g20, k20, b20⟩
  have C21 : Cal l.prog w K mg base 6 "mended" ["riddle", "filling"] (spMen [(tb "hues_at").2, (tb "clash").2, (tb "shows_soon").2, (tb "mean").2]) := ⟨_, _, ok_men (k := 0) F21 { m_len := m_len, c_all_fillings := C7, c_broken := C6, c_drawn_anew := C20 }, g21, k21, b21⟩
  have C22 : Cal l.prog w K mg base 7 "ways_on" ["riddle"] (spWay [(tb "hues_at").2, (tb "clash").2, (tb "shows_soon").2, (tb "mean").2]) := ⟨_, _, ok_way (k := 0) F22 { m_enumerate := m_enumerate, c_all_fillings := C7, c_mended := C21 }, g22, k22, b22⟩
  have C23 : Cal l.prog w K mg base 1 "equations" ["ways"] spEqu := ⟨_, _, ok_equ (k := 0) F23 { m_enumerate := m_enumerate, m_len := m_len }, g23, k23, b23⟩
  have C24 : Cal l.prog w K mg base 1 "crossed_out" ["rows", "at", "last"] spCro := ⟨_, _, ok_cro (k := 0) F24 { m_enumerate := m_enumerate, m_zip := m_zip }, g24, k24, b24⟩
  have C25 : CalX l.prog w K mg base 8 "mean" ["riddle"] (spMea [(tb "hues_at").2, (tb "clash").2, (tb "shows_soon").2, (tb "mean").2] qn0) := ⟨_, _, ok_mea (k := 0) ⟨⟨_, _, _, _, _, _, _, _, rfl, l25, c25⟩⟩ TB25 (by simp) { toCls1 := cls1_of hq0, m_len := m_len, m_range := m_range, m_sum := m_sum, g_MOST_FILLINGS_OF_A_MEAN := ⟨_, PySem.W.mg_of X G q_MOST_FILLINGS_OF_A_MEAN, ⟨_, rfl⟩⟩, g_TooMany := PySem.W.mg_of X G nq0, c_fillings_number := C3, c_ways_on := C22, c_equations := C23, c_crossed_out := C24, c_lowest := C2 }, g25, k25, b25⟩
  have C26 : Cal l.prog w K mg base 1 "_law_tape" ["script", "start"] (spTap K) := ⟨_, _, ok_tap (k := 0) F26 { m_len := m_len, m_abs := m_abs }, g26, k26, b26⟩
  have C27 : Cal l.prog w K mg base 1 "_law_digit" ["tape", "many"] spDig := ⟨_, _, ok_dig (k := 0) F27, g27, k27, b27⟩
  have C28 : Cal l.prog w K mg base 2 "_law_wish" ["tape", "many", "hues", "most"] spWis := ⟨_, _, ok_wis (k := 0) F28 { m_range := m_range, m_list := m_list, m_min := m_min, m_len := m_len, m_sorted := m_sorted, m_tuple := m_tuple, c__law_digit := C27 }, g28, k28, b28⟩
  have C29 : Cal l.prog w K mg base 2 "_law_sizes" ["tape", "small"] spSzs := ⟨_, _, ok_szs (k := 0) F29 { m_range := m_range, m_list := m_list, m_min := m_min, m_len := m_len, m_sorted := m_sorted, m_tuple := m_tuple, c__law_digit := C27 }, g29, k29, b29⟩
  have C30 : Cal l.prog w K mg base 3 "_law_riddle" ["tape", "small"] spRid := ⟨_, _, ok_rid (k := 0) F30 { m_range := m_range, m_list := m_list, m_min := m_min, m_len := m_len, m_sorted := m_sorted, m_tuple := m_tuple, c__law_digit := C27, c__law_wish := C28, c__law_sizes := C29 }, g30, k30, b30⟩
  have C31 : Cal l.prog w K mg base 1 "_law_lowest" ["top", "below"] spLow := ⟨_, _, ok_lwl (k := 0) F31 { m_abs := m_abs }, g31, k31, b31⟩
  have C32 : Cal l.prog w K mg base 1 "_law_share" ["riddle", "number"] spLsh := ⟨_, _, ok_lsh (k := 0) F32 { m_len := m_len }, g32, k32, b32⟩
  have C33 : Cal l.prog w K mg base 3 "_law_sparse" ["tape"] spSpa := ⟨_, _, ok_spa (k := 0) F33 { m_range := m_range, m_len := m_len, m_tuple := m_tuple, c__law_digit := C27, c__law_wish := C28 }, g33, k33, b33⟩
  have C34 : Cal l.prog w K mg base 2 "_law_weights" ["tape", "riddle"] spLwe := ⟨_, _, ok_lwe (k := 0) F34 { m_range := m_range, m_len := m_len, c__law_digit := C27, c__law_lowest := C31, c__law_share := C32 }, g34, k34, b34⟩
  have C35 : Cal l.prog w K mg base 3 "_law_small_sparse" ["tape"] spSpa := ⟨_, _, ok_lss (k := 0) F35 { m_range := m_range, m_len := m_len, m_tuple := m_tuple, c__law_digit := C27, c__law_wish := C28 }, g35, k35, b35⟩
  have C36 : Cal l.prog w K mg base 9 "_law_right" ["riddle", "weights"] (spRgw [(tb "hues_at").2, (tb "clash").2, (tb "shows_soon").2, (tb "mean").2]) := ⟨_, _, ok_rgw (k := 0) F36 { m_range := m_range, c_shows_soon := C14, c_least_kept := C18, c_most_mended := C19, c_counts := C8, c_mean := C25 }, g36, k36, b36⟩
  have hTs : Tabs [(tb "hues_at").2, (tb "clash").2, (tb "shows_soon").2, (tb "mean").2] H := fun P hP => by
    simp only [List.mem_cons, List.not_mem_nil, or_false] at hP
    rcases hP with rfl | rfl | rfl | rfl
    · exact ⟨#[], TH4, trivial⟩
    · exact ⟨#[], TH9, trivial⟩
    · exact ⟨#[], TH14, trivial⟩
    · exact ⟨#[], TH25, trivial⟩
  exact body_law (Ps := [(tb "hues_at").2, (tb "clash").2, (tb "shows_soon").2, (tb "mean").2])  { m_range := m_range, m_max := m_max, m_min := m_min, m_len := m_len, c__law_tape := C26, c__law_digit := C27, c__law_small_sparse := C35, c__law_sparse := C33, c__law_riddle := C30, c__law_weights := C34, c_weights_of := C17, c_shows_soon := C14, c__law_right := C36 } hl hTs hS hrm
end Rd

set_option Elab.async false
set_option linter.all false
set_option maxRecDepth 100000
set_option maxHeartbeats 4000000
open PySem PySem.W PyProof.Rows
set_option maxHeartbeats 0 in
theorem PySem.Challenge.cw_redraw_k36_whole_weights_bound_what_come_holds : PySem.Challenge.rw_redraw_k36_whole_weights_bound_what_come.Holds := by
  w_on; o_law; k_head; (case hw => w_witness2)
  k_fill
  refine Lg.walk_of (l := PySem.Challenge.rw_redraw_k36_whole_weights_bound_what_come) (n := 63) (k := 9) (x := "law") (qual := "law") (par := "script") (st := Rd.sLaw) (N := Rd.nLaw) ["hues_at", "clash", "shows_soon", "mean"] rfl (by decide) rfl ⟨rfl, by decide, by decide⟩ (by rfl) ?hK (fun w h Y => PySem.W.kIn_of Y) Rd.scLaw ?F
  case hK => intro w; kernel_rfl
  case F =>
    intro w mg fa h tb KX G hmg ht
    refine' Rd.all_mk KX G hmg ht ?a1 ?l1 ?c1 ?k1 ?a2 ?l2 ?c2 ?k2 ?a3 ?l3 ?c3 ?k3 ?a4 ?l4 ?c4 ?k4 ?a5 ?l5 ?c5 ?k5 ?a6 ?l6 ?c6 ?k6 ?a7 ?l7 ?c7 ?k7 ?a8 ?l8 ?c8 ?k8 ?a9 ?l9 ?c9 ?k9 ?a10 ?l10 ?c10 ?k10 ?a11 ?l11 ?c11 ?k11 ?a12 ?l12 ?c12 ?k12 ?a13 ?l13 ?c13 ?k13 ?a14 ?l14 ?c14 ?k14 ?a15 ?l15 ?c15 ?k15 ?a16 ?l16 ?c16 ?k16 ?a17 ?l17 ?c17 ?k17 ?a18 ?l18 ?c18 ?k18 ?a19 ?l19 ?c19 ?k19 ?a20 ?l20 ?c20 ?k20 ?a21 ?l21 ?c21 ?k21 ?a22 ?l22 ?c22 ?k22 ?a23 ?l23 ?c23 ?k23 ?a24 ?l24 ?c24 ?k24 ?a25 ?l25 ?c25 ?k25 ?a26 ?l26 ?c26 ?k26 ?a27 ?l27 ?c27 ?k27 ?a28 ?l28 ?c28 ?k28 ?a29 ?l29 ?c29 ?k29 ?a30 ?l30 ?c30 ?k30 ?a31 ?l31 ?c31 ?k31 ?a32 ?l32 ?c32 ?k32 ?a33 ?l33 ?c33 ?k33 ?a34 ?l34 ?c34 ?k34 ?a35 ?l35 ?c35 ?k35 ?a36 ?l36 ?c36 ?k36 ?a37 ?l37 ?c37 ?k37 ?z_abs ?z_all ?z_any ?z_enumerate ?z_len ?z_list ?z_max ?z_min ?z_range ?z_sorted ?z_sum ?z_tuple ?z_zip ?q_PARTS ?q_MOST_FILLINGS_OF_A_MEAN ?nq0 ?hq0
    (case a1 => k_is); (case l1 => k_is); (case c1 => k_is); (case k1 => k_is); (case a2 => k_is); (case l2 => k_is); (case c2 => k_is); (case k2 => k_is); (case a3 => k_is); (case l3 => k_is); (case c3 => k_is); (case k3 => k_is); (case a4 => k_is); (case l4 => k_is); (case c4 => k_is); (case k4 => k_is); (case a5 => k_is); (case l5 => k_is); (case c5 => k_is); (case k5 => k_is); (case a6 => k_is); (case l6 => k_is); (case c6 => k_is); (case k6 => k_is); (case a7 => k_is); (case l7 => k_is); (case c7 => k_is); (case k7 => k_is); (case a8 => k_is); (case l8 => k_is); (case c8 => k_is); (case k8 => k_is); (case a9 => k_is); (case l9 => k_is); (case c9 => k_is); (case k9 => k_is); (case a10 => k_is); (case l10 => k_is); (case c10 => k_is); (case k10 => k_is); (case a11 => k_is); (case l11 => k_is); (case c11 => k_is); (case k11 => k_is); (case a12 => k_is); (case l12 => k_is); (case c12 => k_is); (case k12 => k_is); (case a13 => k_is); (case l13 => k_is); (case c13 => k_is); (case k13 => k_is); (case a14 => k_is); (case l14 => k_is); (case c14 => k_is); (case k14 => k_is); (case a15 => k_is); (case l15 => k_is); (case c15 => k_is); (case k15 => k_is); (case a16 => k_is); (case l16 => k_is); (case c16 => k_is); (case k16 => k_is); (case a17 => k_is); (case l17 => k_is); (case c17 => k_is); (case k17 => k_is); (case a18 => k_is); (case l18 => k_is); (case c18 => k_is); (case k18 => k_is); (case a19 => k_is); (case l19 => k_is); (case c19 => k_is); (case k19 => k_is); (case a20 => k_is); (case l20 => k_is); (case c20 => k_is); (case k20 => k_is); (case a21 => k_is); (case l21 => k_is); (case c21 => k_is); (case k21 => k_is); (case a22 => k_is); (case l22 => k_is); (case c22 => k_is); (case k22 => k_is); (case a23 => k_is); (case l23 => k_is); (case c23 => k_is); (case k23 => k_is); (case a24 => k_is); (case l24 => k_is); (case c24 => k_is); (case k24 => k_is); (case a25 => k_is); (case l25 => k_is); (case c25 => k_is); (case k25 => k_is); (case a26 => k_is); (case l26 => k_is); (case c26 => k_is); (case k26 => k_is); (case a27 => k_is); (case l27 => k_is); (case c27 => k_is); (case k27 => k_is); (case a28 => k_is); (case l28 => k_is); (case c28 => k_is); (case k28 => k_is); (case a29 => k_is); (case l29 => k_is); (case c29 => k_is); (case k29 => k_is); (case a30 => k_is); (case l30 => k_is); (case c30 => k_is); (case k30 => k_is); (case a31 => k_is); (case l31 => k_is); (case c31 => k_is); (case k31 => k_is); (case a32 => k_is); (case l32 => k_is); (case c32 => k_is); (case k32 => k_is); (case a33 => k_is); (case l33 => k_is); (case c33 => k_is); (case k33 => k_is); (case a34 => k_is); (case l34 => k_is); (case c34 => k_is); (case k34 => k_is); (case a35 => k_is); (case l35 => k_is); (case c35 => k_is); (case k35 => k_is); (case a36 => k_is); (case l36 => k_is); (case c36 => k_is); (case k36 => k_is); (case a37 => k_is); (case l37 => k_is); (case c37 => k_is); (case k37 => k_is); (case z_abs => k_is); (case z_all => k_is); (case z_any => k_is); (case z_enumerate => k_is); (case z_len => k_is); (case z_list => k_is); (case z_max => k_is); (case z_min => k_is); (case z_range => k_is); (case z_sorted => k_is); (case z_sum => k_is); (case z_tuple => k_is); (case z_zip => k_is); (case q_PARTS => k_is); (case q_MOST_FILLINGS_OF_A_MEAN => k_is); (case nq0 => k_is); (case hq0 => kernel_rfl)
