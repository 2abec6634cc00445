import PyProof.Rows.All
import Wide.All
import OpenK.AllK
import Wide.FinOn
import HandS.ForMost
import HandS.AnyAll
import PyProof.TupleOfGen
import PyProof.WalksMore
import HandS.Zip
import KE.GoesEnum
import HandS.Deep
import PyProof.Rows.RegFStrParts
import HandS.SortInts
import HandS.TupSets
import HandS.EndBits
import KE.KNest
import KE.DatumIndex
import HandS.GenList
import HandS.Wide
import HandS.Codes
import HandS.Conv
import HandS.TupAny
import KE.KIndexOf
import KE.GoesZip
import KE.GoesMore
import HandS.DictComp
import HandS.Iter
import KE.KDictPairs
import HandS.TupLen
import HandS.Dict
import HandS.Exc
import HandS.ExcIs
import HandS.ExcValue
import HandS.WordsExc
import HandS.IsInst
import HandS.ExcOwn
import HandS.Spec
import PyProof.ReprRoads
import PyProof.ReprBulk
import KE.KDictDisplayH
import HandS.Style
import HandS.TupMul
import PySem.Challenge.RW_redraw_k53_whole_fewest_and_runs
set_option Elab.async false
set_option linter.all false
set_option maxRecDepth 100000
set_option maxHeartbeats 4000000
/-! generator expressions over a list or a tuple whose element keeps the heap: tuple(..), all(..), any(..) -/
namespace Gv
open PySem PySem.Spec PyProof.Rows L2
/-- a list or a tuple of these -/
def Sq (K : PySem.W.Frag) (H : Hp) (a : Addr) (xs : List V) : Prop := SqL K H a xs ∨ SqT K H a xs
section
variable {X : Cx} {pins : List (Addr × Obj)} {σ : L2.St} {H : Hp} {s : Shared}
/-- iter(a): its items, and a walk over them that writes its own new cell alone -/
theorem iter_sq {a : Addr} {xs : List V} (I : Inv X pins σ H s) (h : Sq X.K H a xs) :
    ∃ its : List Value, Vals xs its ∧ xs.length ≤ sizeLine ∧ a < s.heap.objs.size ∧ ∀ (Q : Value → Shared → Prop) (E : Value → Shared → Prop),
      (∀ (o : Obj) (St : Nat → Heap → Prop), (∀ A' : Around, A'.handled = none → Walks X.prog X.w A' s.heap.objs.size [s.heap.objs.size, a] [s.heap.objs.size] its.length (fun i v => its[i]? = some v) St) → St 0 (s.heap.push o) →
        Q (.ref s.heap.objs.size) { s with heap := s.heap.push o }) → wpAny (model X.prog X.w) X.A (pyIter (.ref a)) Q E s := by
  rcases h with h | h
  · obtain ⟨its, rv, pl, hz⟩ := I.list h
    have hL := pl.isList
    have hlt : a < s.heap.objs.size := let ⟨_, e, _⟩ := hL; Heap.lt_size e
    refine ⟨its, rv, hz, hlt, fun Q E k => wpAny_pyIter_list hL (k _ (fun i h => h.IsListIter s.heap.objs.size a i ∧ h.IsList a its.toArray) (fun A' hA => ?_) ⟨⟨_, Heap.get?_push_size _ rfl, rfl, rfl⟩, ?_⟩)⟩
    · have W := Walks.list (prog := X.prog) (w := X.w) hA s.heap.objs.size a (Nat.ne_of_lt hlt) its.toArray
      simpa using W
    · obtain ⟨o, e, r⟩ := hL
      exact ⟨o, Heap.get?_push_of_some _ e, r⟩
  · obtain ⟨its, rv, pl, hz⟩ := I.tuple h
    have hlt : a < s.heap.objs.size := pl.lt
    refine ⟨its, rv, hz, hlt, fun Q E k => wpAny_pyIter_tuple (show s.heap.IsTuple a its.toArray from pl) (k _ (fun i h => h.IsTupleIter s.heap.objs.size a i ∧ h.IsTuple a its.toArray) (fun A' hA => ?_) ⟨⟨_, Heap.get?_push_size _ rfl, rfl, rfl⟩, ?_⟩)⟩
    · have W := Walks.tuple (prog := X.prog) (w := X.w) hA s.heap.objs.size a (Nat.ne_of_lt hlt) its.toArray
      simpa using W
    · exact pl.push _
/-- the element, of the item x0 the value y0, with all that stood kept -/
def EltV (X : Cx) (pins : List (Addr × Obj)) (σ : L2.St) (scope : Scope) (x : Str) (elt : Expr) (P : Addr) (H1 : Hp) (xs ys : List V) : Prop :=
  ∀ (s1 t : Shared) (C : Addr) (code : Value) (bi : Addr) (A' : Around) (E' : Value → Shared → Prop) (i : Nat) (x0 : V) (u : Value) (m : Str → Option Value),
    Inv X pins σ H1 s1 → A'.handled = none → A'.units ≤ X.A.units + 8 → xs[i]? = some x0 → RelV x0 u → t.heap.Ns C m → m x = some u → (∀ b o, b ≠ P → s1.heap.get? b = some o → t.heap.get? b = some o) →
    wpAny (model X.prog X.w) A' (eval elt (genEnv scope (cloFrom X.env.cells scope.names []) C code bi X.env)) (fun y t' => (∃ y0, ys[i]? = some y0 ∧ RelV y0 y) ∧ Keeps t t') E' t
/-- the generator at g, about to give out the values ys -/
def Ready (X : Cx) (pins : List (Addr × Obj)) (σ : L2.St) (H1 : Hp) (P : Addr) (ys : List V) (g : Addr) (s5 : Shared) : Prop :=
  ∃ (fp wr : List Addr) (G : Array GenState → Array GenState → Prop) (F : Nat → Value → Prop) (St : Nat → Shared → Prop),
    WalksS X.prog X.w X.A.in4 g fp wr G ys.length F St ∧ St 0 s5 ∧ (∀ b ∈ fp, b < s5.heap.objs.size) ∧ g ∈ fp ∧ (∀ i s9, St i s9 → s9.TypeIs (.ref g) "generator") ∧
    (∀ j v, F j v → ∃ y, ys[j]? = some y ∧ RelV y v) ∧ ∀ s', Moved wr G s5 s' → ∃ H2, GxR.Tabbed P H1 H2 ∧ Inv X pins σ H2 s'
theorem gen_sq {c P : Addr} {elt iter : Expr} {x : Str} {px gpos : Pos} {scope : Scope} {te : TE} {k : Nat} {Q' : Value → Shared → Prop} {R : List V → Hp → Prop}
    (hr : Room k X.A) (TB : GxR.TabB X.base X.mg c P) (hcode : X.env.code = .ref c) (S : GxR.GenS X.env scope x) (hi : PE X iter te) (hs : ∀ v, genFold iter X.env v = pure v) (I : Inv X pins σ H s)
    (h : te σ H fun v H1 => ∃ (a : Addr) (xs ys : List V), v = .ref a ∧ Sq X.K H1 a xs ∧ ys.length = xs.length ∧ (∀ pins, EltV X pins σ scope x elt P H1 xs ys) ∧ GxR.TabG H1 P ∧ R ys H1)
    (hQ : ∀ ys H1 g s5, ys.length ≤ sizeLine → R ys H1 → Ready X pins σ H1 P ys g s5 → Q' (.ref g) s5) :
    wpAny (model X.prog X.w) X.A (eval (.GeneratorExp elt [⟨.Name x px, iter, [], 0⟩] scope gpos) X.env) Q' X.xe s := by
  refine wpAny_GeneratorExp_walksQD hr.hd S.co (closure_ok S.free) S.cell S.dot S.loc S.kind (by have := hr.dp; omega) (thn (hi.run pins s σ H _ I h) fun xv s1 ⟨v, H1, I1, r1, q1⟩ => ?_) hs
  obtain ⟨a, xs, ys, rfl, hsq, hyl, hel, ⟨ps, hP, ht⟩, q1⟩ := q1
  cases (show xv = Value.ref a from r1)
  obtain ⟨its, rv, hz, hlt, go⟩ := iter_sq I1 hsq
  refine go _ _ fun o St W st0 => ⟨I1.nolimit.push o, ?_⟩
  have tabS : s1.heap.get? P = some { cls := .none, data := .fields ps } := I1.hok P _ hP
  have ltP : P < s1.heap.objs.size := Heap.lt_size tabS
  have tab2 : (s1.heap.push o).get? P = some { cls := .none, data := .fields ps } := Heap.get?_push_of_some _ tabS
  have hd : PySem.W.CodeHd (s1.heap.push o) c P := TB.code.keeps fun b u e => Heap.get?_push_of_some _ (I1.bk b u e)
  have neI : s1.heap.objs.size ≠ P := fun z => Nat.lt_irrefl _ (z ▸ ltP)
  -- the code object of the expression, its table perhaps longer behind it
  have key : ∀ (REST : Value → Shared → Prop), (∀ (cv : Value) (h3 : Heap) (tk : Nat) (more : Array Value), Heap.ExtBut P (s1.heap.push o) h3 → (s1.heap.push o).objs.size ≤ h3.objs.size → h3.get? P = some { cls := .none, data := .fields (ps ++ more) } → TriplesOk (ps ++ more).toList → REST cv { s1 with heap := h3, toks := tk }) →
      wpAny (model X.prog X.w) X.A (genexprCode X.env gpos (X.env.qual ++ "<genexpr>") scope) REST X.xe { s1 with heap := s1.heap.push o } := fun REST fin => by
    cases hf : codeAmong gpos ps.toList with
    | some cv =>
      have e : ps = ps ++ #[] := by simp
      exact wpAny_genexprCode_hit hcode (hd.code tab2 ht) hf (fin cv _ s1.toks #[] (Heap.ExtBut.refl _ _) (Nat.le_refl _) (e ▸ tab2) (e ▸ ht))
    | none =>
      refine wpAny_genexprCodeX hcode (hd.code tab2 ht) (hd.tab tab2) hf fun c' h3 tk ex ge lt ic _ ta _ => ?_
      obtain ⟨_, _, _, _, _, _, _, _, _, _, _, _, _, _, _, _, _, _, _, tr, _⟩ := ic
      exact fin _ h3 tk _ ex (Nat.le_trans ge (Nat.le_of_lt lt)) ta.2 tr
  refine key _ fun cv h3 tk more ex ge tab3 tr3 => ?_
  obtain ⟨bm, ob, b1, b2, b3, b4, b5, b6, b7, b8⟩ := TB.bm
  have up : ∀ b u, b ≠ P → s1.heap.get? b = some u → h3.get? b = some u := fun b u n e => ex b u n (Heap.get?_push_of_some _ e)
  have sz : s1.heap.objs.size + 1 ≤ h3.objs.size := by rw [← Heap.size_push s1.heap o]; exact ge
  have nlS : cStatics ≠ P ∧ cStatics < s1.heap.objs.size := by
    obtain ⟨_, ns, _⟩ := I1.nolimit
    refine ⟨fun z => ?_, ns.lt⟩
    obtain ⟨o', es, ep, ho, hdd, _⟩ := ns
    rw [z, tabS] at ho
    cases ho
    cases hdd
  refine wpAny_builtinsFor (m := X.mg) (by rw [I1.ok.glob]; exact ((I1.mod.glob.keeps I1.bk).push o).extBut ex TB.gP) b1 b2 (up _ _ b4 (I1.bk _ _ b5)) b6 b7 b8 ?_
  refine ⟨s1.heap.objs.size, [s1.heap.objs.size, a], [s1.heap.objs.size], its.length, (fun i v => its[i]? = some v), St, (fun _ => true), (fun i y => ∃ y0, ys[i]? = some y0 ∧ RelV y0 y), rfl, W, ?_, ?_, (I1.nolimit.push o).extBut ex nlS.1, ?_, ?_, ?_⟩
  · refine (W X.A hr.hd).frame _ _ _ st0 fun b hb u e => ex b u (fun z => ?_) e
    rcases List.mem_cons.mp hb with q | q
    · exact neI (q.symm.trans z)
    · have q2 : b = a := by simpa using q
      exact absurd (q2.symm.trans z) (by
        intro az
        rcases hsq with hh | hh
        · obtain ⟨its', _, pl, _⟩ := I1.list hh
          obtain ⟨oo, _, e1, _, _, d1⟩ := pl
          rw [az, tabS] at e1
          cases e1
          cases d1
        · obtain ⟨its', _, pl, _⟩ := I1.tuple hh
          obtain ⟨oo, e1, _, _, d1⟩ := pl
          rw [az, tabS] at e1
          cases e1
          cases d1)
  · intro b hb
    show b < h3.objs.size
    rcases List.mem_cons.mp hb with q | q
    · rw [q]; exact Nat.lt_of_succ_le sz
    · have q2 : b = a := by simpa using q
      rw [q2]; exact Nat.lt_of_lt_of_le hlt (Nat.le_of_succ_le sz)
  · intro z
    have z2 : cStatics = s1.heap.objs.size := by simpa using z
    exact Nat.ne_of_lt nlS.2 z2
  · intro href hk
    refine ⟨fun A' E' i v t m hA _ _ hv hn hm hkp => ?_, fun A' E' i v t m hA _ hU hv _ hn hm hkp => ?_⟩
    · simp only [List.forIn_nil]
      exact wpAny_pure ⟨rfl, GxR.keeps_refl _⟩
    · have li : i < xs.length := by rw [rv.length]; exact (List.getElem?_eq_some_iff.mp hv).1
      obtain ⟨u, hu, ru⟩ := rv.get (List.getElem?_eq_getElem li)
      rw [hv] at hu
      cases hu
      refine wpAny_mono (hel pins s1 t _ cv _ A' E' i _ v m I1 hA hU (List.getElem?_eq_getElem li) ru hn hm fun b u n e => ?_) (fun y t' r => r) fun _ _ e => e
      have e3 := up b u n e
      refine hkp b (List.mem_range.mpr (Heap.lt_size e3)) (fun z => ?_) u (hk b u e3)
      have z2 : b = s1.heap.objs.size := by simpa using z
      exact Nat.lt_irrefl _ (z2 ▸ Heap.lt_size e)
  · intro g h5 tk5 gs hgb hag hsz5 hk5 W5 hat
    have el : its.length = ys.length := by rw [hyl, ← rv.length]
    simp only [GxR.passing_true, List.length_range, el] at W5 hat
    refine hQ ys H1 g _ (by rw [hyl]; exact hz) q1 ⟨_, _, _, _, _, W5, hat, ?_, List.mem_cons_self, fun i s9 st => st.1.typeIs, ?_, fun s' mv => ?_⟩
    · intro b hb
      show b < h5.objs.size
      rw [hsz5]
      rcases List.mem_cons.mp hb with q | q
      · rw [q]; exact Nat.lt_succ_self _
      · rcases List.mem_cons.mp q with q | q
        · rw [q]; exact Nat.lt_succ_of_lt hag
        · exact Nat.lt_succ_of_lt (Nat.lt_trans (List.mem_range.mp q) hag)
    · intro j v hv
      obtain ⟨i, hij, y0, hy, r⟩ := hv
      obtain ⟨hj, ej⟩ := List.getElem?_eq_some_iff.mp hij
      rw [List.getElem_range] at ej
      subst ej
      exact ⟨y0, hy, r⟩
    · have out : ∀ b u, s1.heap.get? b = some u → b ∉ h3.objs.size :: [s1.heap.objs.size] := fun b u e hb => by
        have l := Heap.lt_size e
        rcases List.mem_cons.mp hb with q | q
        · rw [q] at l
          exact absurd l (Nat.not_lt.mpr (Nat.le_of_succ_le sz))
        · have q2 : b = s1.heap.objs.size := by simpa using q
          exact Nat.lt_irrefl _ (q2 ▸ l)
      have J := GxR.inv_tab (more := more) (h' := s'.heap) (g' := s'.gens) (d' := s'.drawn) (t' := s'.toks) I1 hP (fun b u n e => mv.heap b u (out b u e) (hk5 b u (up b u n e))) (mv.heap P _ (out P _ tabS) (hk5 P _ tab3)) (AllBare.movedS (I1.bare.push hgb) mv)
      rw [GxR.sh_eta s1 s' mv.os] at J
      exact ⟨_, ⟨⟨ps ++ more, upd_same, tr3⟩, fun b hb => upd_ne hb⟩, J⟩
/-- tuple(elt for x in e) -/
def tTupG (X : Cx) (scope : Scope) (x : Str) (elt : Expr) (P : Addr) (te : TE) : TE := fun σ H Q => te σ H fun v H1 => ∃ (a : Addr) (xs ys : List V), v = .ref a ∧ Sq X.K H1 a xs ∧ ys.length = xs.length ∧ (∀ pins, EltV X pins σ scope x elt P H1 xs ys) ∧ GxR.TabG H1 P ∧
  ∀ H2, GxR.Tabbed P H1 H2 → ∀ p, H2 p = none → Q (.ref p) (upd H2 p (.tup ys))
theorem items_vals {ys : List V} {F : Nat → Value → Prop} {acc : Array Value} {n : Nat} (hn : ys.length = n) (hF : ∀ j v, F j v → ∃ y, ys[j]? = some y ∧ RelV y v) (h : ItemsOf F acc n) : Vals ys acc.toList := by
  have gen : ∀ (l : List Value) (zs : List V), zs.length = l.length → (∀ (j : Nat) (v : Value), l[j]? = some v → ∃ y, zs[j]? = some y ∧ RelV y v) → Vals zs l := by
    intro l
    induction l with
    | nil => intro zs e _; cases zs with
      | nil => exact .nil
      | cons z r => cases e
    | cons v r ih => intro zs e k; cases zs with
      | nil => cases e
      | cons z q =>
        obtain ⟨y, hy, ry⟩ := k 0 v rfl
        cases hy
        exact .cons ry (ih q (by simpa using e) fun j v hv => k (j + 1) v hv)
  refine gen acc.toList ys (by rw [hn, ← h.1]; simp) fun j v hv => hF j v (h.2 j v (by simpa using hv))
theorem pe_tupG {c P : Addr} {elt iter : Expr} {x : Str} {px p pos gpos : Pos} {scope : Scope} {te : TE} {k : Nat}
    (hr : Room k X.A) (hg : Gl X "tuple") (hm : X.mg "tuple" = none) (TB : GxR.TabB X.base X.mg c P) (hcode : X.env.code = .ref c) (S : GxR.GenS X.env scope x) (hi : PE X iter te) (hs : ∀ v, genFold iter X.env v = pure v)
    (he : starEach [.GeneratorExp elt [⟨.Name x px, iter, [], 0⟩] scope gpos] X.env = (false, eval (.GeneratorExp elt [⟨.Name x px, iter, [], 0⟩] scope gpos) X.env) :: starEach [] X.env := by rfl) :
    PE X (.Call (.Name "tuple" p) [.GeneratorExp elt [⟨.Name x px, iter, [], 0⟩] scope gpos] [] pos) (tTupG X scope x elt P te) := by
  refine ⟨fun pins s σ H Q I h => ?_⟩
  refine wpAny_Call_Name_kw (ld_blt I hg hm boot_tuple (PyProof.Rows.callWith_type1 ?_ he (by rfl)))
  rw [he]
  show wpAny _ _ (spliced ((false, _) :: backTo pos (starEach [] X.env))) _ _ s
  unfold tTupG at h
  refine Calls.spliced_cons (gen_sq (te := te) (R := fun ys H1 => ∀ H2, GxR.Tabbed P H1 H2 → ∀ p, H2 p = none → Q (.ref p) (upd H2 p (.tup ys))) hr TB hcode S hi hs I (H := H) h fun ys H1 g s5 hz hR hG => ?_)
  · obtain ⟨fp, wr, G, F, St, W, st, hfp, hgf, hty, hF, hI⟩ := hG
    refine Calls.spliced_nil (call_tuple_gen W.in4_3 hty st hfp hgf (fun s' acc mv ia => ?_) hz)
    obtain ⟨H2, hT, J⟩ := hI s' mv
    have rv := items_vals rfl hF ia
    refine ⟨.ref s'.heap.objs.size, _, J.laid (t' := s'.toks) (o := .tup ys) (fun b u e => Heap.get?_push_of_some _ e) (Nat.le_refl _) ⟨hz, acc.toList, rv, ?_⟩, rfl, hR H2 hT _ (J.hok.fresh (Nat.le_refl _))⟩
    have z := IsTup.new s'.heap acc
    simpa using z
/-- all(elt for x in e), any(elt for x in e), the element True or False -/
def tAllG (X : Cx) (scope : Scope) (x : Str) (elt : Expr) (P : Addr) (te : TE) : TE := fun σ H Q => te σ H fun v H1 => ∃ (a : Addr) (xs ys : List V), v = .ref a ∧ Sq X.K H1 a xs ∧ ys.length = xs.length ∧ (∀ pins, EltV X pins σ scope x elt P H1 xs ys) ∧ GxR.TabG H1 P ∧
  ∃ bs : List Bool, ys = bs.map V.bl ∧ ∀ H2, GxR.Tabbed P H1 H2 → Q (.bl (bs.all id)) H2
def tAnyG (X : Cx) (scope : Scope) (x : Str) (elt : Expr) (P : Addr) (te : TE) : TE := fun σ H Q => te σ H fun v H1 => ∃ (a : Addr) (xs ys : List V), v = .ref a ∧ Sq X.K H1 a xs ∧ ys.length = xs.length ∧ (∀ pins, EltV X pins σ scope x elt P H1 xs ys) ∧ GxR.TabG H1 P ∧
  ∃ bs : List Bool, ys = bs.map V.bl ∧ ∀ H2, GxR.Tabbed P H1 H2 → Q (.bl (bs.any id)) H2
theorem truth_bls {A : Around} {bs : List Bool} {F : Nat → Value → Prop} (hF : ∀ j v, F j v → ∃ y, (bs.map V.bl)[j]? = some y ∧ RelV y v) : TruthOf X.prog X.w A F (fun j => bs.getD j false) := by
  intro j v t Q E hv hq
  obtain ⟨y, hy, r⟩ := hF j v hv
  rw [List.getElem?_map] at hy
  cases e : bs[j]? with
  | none => rw [e] at hy; cases hy
  | some b =>
    rw [e] at hy
    cases hy
    cases (show v = Value.bool b from r)
    have e2 : bs.getD j false = b := by rw [List.getD_eq_getElem?_getD, e]; rfl
    exact wpAny_truthy_bool (by rw [← e2]; exact hq)
theorem all_range (bs : List Bool) : (List.range bs.length).all (fun j => bs.getD j false) = bs.all id := by
  rw [Bool.eq_iff_iff, List.all_eq_true, List.all_eq_true]
  constructor
  · intro h b hb
    obtain ⟨j, hj, e⟩ := List.getElem_of_mem hb
    have q := h j (List.mem_range.mpr hj)
    rw [List.getD_eq_getElem?_getD, List.getElem?_eq_getElem hj, e] at q
    exact q
  · intro h j hj
    have hj' := List.mem_range.mp hj
    rw [List.getD_eq_getElem?_getD, List.getElem?_eq_getElem hj']
    exact h _ (List.getElem_mem hj')
theorem any_range (bs : List Bool) : (List.range bs.length).any (fun j => bs.getD j false) = bs.any id := by
  rw [Bool.eq_iff_iff, List.any_eq_true, List.any_eq_true]
  constructor
  · intro ⟨j, hj, q⟩
    have hj' := List.mem_range.mp hj
    rw [List.getD_eq_getElem?_getD, List.getElem?_eq_getElem hj'] at q
    exact ⟨_, List.getElem_mem hj', q⟩
  · intro ⟨b, hb, q⟩
    obtain ⟨j, hj, e⟩ := List.getElem_of_mem hb
    refine ⟨j, List.mem_range.mpr hj, ?_⟩
    rw [List.getD_eq_getElem?_getD, List.getElem?_eq_getElem hj, e]
    exact q
theorem pe_allG {c P : Addr} {elt iter : Expr} {x : Str} {px p pos gpos : Pos} {scope : Scope} {te : TE} {k : Nat}
    (hr : Room k X.A) (hg : Gl X "all") (hm : X.mg "all" = none) (TB : GxR.TabB X.base X.mg c P) (hcode : X.env.code = .ref c) (S : GxR.GenS X.env scope x) (hi : PE X iter te) (hs : ∀ v, genFold iter X.env v = pure v)
    (he : starEach [.GeneratorExp elt [⟨.Name x px, iter, [], 0⟩] scope gpos] X.env = (false, eval (.GeneratorExp elt [⟨.Name x px, iter, [], 0⟩] scope gpos) X.env) :: starEach [] X.env := by rfl) :
    PE X (.Call (.Name "all" p) [.GeneratorExp elt [⟨.Name x px, iter, [], 0⟩] scope gpos] [] pos) (tAllG X scope x elt P te) := by
  refine ⟨fun pins s σ H Q I h => ?_⟩
  refine wpAny_Call_Name_kw (ld_blt I hg hm boot_all (PyProof.Rows.callWith_builtin1 ?_ he (by rfl)))
  rw [he]
  show wpAny _ _ (spliced ((false, _) :: backTo pos (starEach [] X.env))) _ _ s
  unfold tAllG at h
  refine Calls.spliced_cons (gen_sq (te := te) (R := fun ys H1 => ∃ bs : List Bool, ys = bs.map V.bl ∧ ∀ H2, GxR.Tabbed P H1 H2 → Q (.bl (bs.all id)) H2) hr TB hcode S hi hs I (H := H) h fun ys H1 g s5 hz hR hG => ?_)
  obtain ⟨bs, rfl, hR⟩ := hR
  obtain ⟨fp, wr, G, F, St, W, st, hfp, hgf, hty, hF, hI⟩ := hG
  refine Calls.spliced_nil (call_all_walkS (W.in4_1.self 0 _ _ _ st ⟨g, fp, wr, G, _, F, St, _, rfl, W.in4_1, st, truth_bls hF, fun s' mv => ?_⟩))
  obtain ⟨H2, hT, J⟩ := hI s' mv
  refine ⟨.bl _, H2, J, rfl, ?_⟩
  rw [List.length_map, all_range]
  exact hR H2 hT
theorem pe_anyG {c P : Addr} {elt iter : Expr} {x : Str} {px p pos gpos : Pos} {scope : Scope} {te : TE} {k : Nat}
    (hr : Room k X.A) (hg : Gl X "any") (hm : X.mg "any" = none) (TB : GxR.TabB X.base X.mg c P) (hcode : X.env.code = .ref c) (S : GxR.GenS X.env scope x) (hi : PE X iter te) (hs : ∀ v, genFold iter X.env v = pure v)
    (he : starEach [.GeneratorExp elt [⟨.Name x px, iter, [], 0⟩] scope gpos] X.env = (false, eval (.GeneratorExp elt [⟨.Name x px, iter, [], 0⟩] scope gpos) X.env) :: starEach [] X.env := by rfl) :
    PE X (.Call (.Name "any" p) [.GeneratorExp elt [⟨.Name x px, iter, [], 0⟩] scope gpos] [] pos) (tAnyG X scope x elt P te) := by
  refine ⟨fun pins s σ H Q I h => ?_⟩
  refine wpAny_Call_Name_kw (ld_blt I hg hm boot_any (PyProof.Rows.callWith_builtin1 ?_ he (by rfl)))
  rw [he]
  show wpAny _ _ (spliced ((false, _) :: backTo pos (starEach [] X.env))) _ _ s
  unfold tAnyG at h
  refine Calls.spliced_cons (gen_sq (te := te) (R := fun ys H1 => ∃ bs : List Bool, ys = bs.map V.bl ∧ ∀ H2, GxR.Tabbed P H1 H2 → Q (.bl (bs.any id)) H2) hr TB hcode S hi hs I (H := H) h fun ys H1 g s5 hz hR hG => ?_)
  obtain ⟨bs, rfl, hR⟩ := hR
  obtain ⟨fp, wr, G, F, St, W, st, hfp, hgf, hty, hF, hI⟩ := hG
  refine Calls.spliced_nil (call_any_walkS (W.in4_1.self 0 _ _ _ st ⟨g, fp, wr, G, _, F, St, _, rfl, W.in4_1, st, truth_bls hF, fun s' mv => ?_⟩))
  obtain ⟨H2, hT, J⟩ := hI s' mv
  refine ⟨.bl _, H2, J, rfl, ?_⟩
  rw [List.length_map, any_range]
  exact hR H2 hT
/-- an element f[x]: f a captured name of a tuple, x the walk's own -/
theorem elt_item {f x : Str} {scope : Scope} {P fa : Addr} {H1 : Hp} {xs ys zs : List V} {j : Nat} {p1 p2 p3 : Pos} (hk : scope.kind = .function) (hx : scope.names.lookup x = some .local) (hf : scope.names.lookup f = some .free)
    (hcl : (cloFrom X.env.cells scope.names []).lookup f = some ((X.env.cells.lookup f).getD 0)) (hj : X.N[j]? = some f) (hkf : X.env.kindOf f = some .cell) (hσ : σ[j]? = some (some (.ref fa))) (hq : SqT X.K H1 fa zs) (hT : GxR.TabG H1 P)
    (hv : ∀ (i : Nat) x0, xs[i]? = some x0 → ∃ (n : Int) (y : V), x0 = .int n ∧ atI zs n = some y ∧ ys[i]? = some y) (hdf : (f == ("__debug__" : Str)) = false := by decide) (hdx : (x == ("__debug__" : Str)) = false := by decide) (hcf : (f == ("__classdict__" : Str)) = false := by decide) :
    EltV X pins σ scope x (.Subscript (.Name f p1) (.Name x p2) p3) P H1 xs ys := by
  intro s1 t C code bi A' E' i x0 u m I hA hU hx0 ru hn hm hkp
  obtain ⟨n, y, rfl, hat, hy⟩ := hv i x0 hx0
  obtain ⟨tk, rfl⟩ := (show ∃ t, u = Value.int n t from ru)
  obtain ⟨ps, hP, _⟩ := hT
  have tabS : s1.heap.get? P = some { cls := .none, data := .fields ps } := I.hok P _ hP
  obtain ⟨m1, _, hl⟩ := I.loc
  obtain ⟨uf, rf, lk⟩ := hl j f _ hj hσ (.inr (.inl hkf))
  cases (show uf = Value.ref fa from rf)
  obtain ⟨c, hc, ic⟩ : ∃ c, X.env.cells.lookup f = some c ∧ s1.heap.IsCell c (some (.ref fa)) := by
    rcases lk with ⟨z, _⟩ | ⟨_, c, hc, ic⟩
    · rw [hkf] at z; cases z
    · exact ⟨c, hc, ic⟩
  have ic2 : t.heap.IsCell c (some (.ref fa)) := by
    obtain ⟨o, ho, hd⟩ := ic
    refine ⟨o, hkp c o (fun z => ?_) ho, hd⟩
    rw [z, tabS] at ho
    cases ho
    cases hd
  obtain ⟨its, rv, pl, hz⟩ := I.tuple hq
  have pl2 : IsTup t.heap fa its.toArray := by
    obtain ⟨o, ho, hcl', nn, hd⟩ := pl
    refine ⟨o, hkp fa o (fun z => ?_) ho, hcl', nn, hd⟩
    rw [z, tabS] at ho
    cases ho
    cases hd
  obtain ⟨jj, h1, h2, h3, h4, h5⟩ := atI_get hat
  obtain ⟨wv, ew, rw'⟩ := rv.get h2
  have hlen := rv.length
  have hn63 := line63
  have clf : (genEnv scope (cloFrom X.env.cells scope.names []) C code bi X.env).cells.lookup f = some c := by
    show (cloFrom X.env.cells scope.names []).lookup f = some c
    rw [hcl, hc]
    rfl
  refine Subscript_ (wpAny_Name (wpAny_loadName_free hk hf clf ic2 (wpAny_Name (wpAny_loadName_local hk hx hn hm ?_) hdx) hcf) hdf)
  exact subscriptTail_builtinR (x := wv) pl2.typeIs slot_tuple_getitem.lookup
    (getItem_tuple (j := jj) (Q := fun r s' => r = wv ∧ ((∃ y0, ys[i]? = some y0 ∧ RelV y0 r) ∧ Keeps t s')) pl2 (by omega) (by omega) (by rw [List.size_toArray, ← hlen]; exact h1) (by simpa using ew) ⟨rfl, ⟨y, hy, rw'⟩, GxR.keeps_refl _⟩) (by rfl)
end
end Gv

set_option Elab.async false
set_option linter.all false
set_option maxRecDepth 100000
set_option maxHeartbeats 4000000
/-! enumerate(t), t a tuple -/
namespace Et
open PySem PySem.Spec PyProof.Rows L2
theorem meets_one {v : Value} {o : Obj} {B : Heap → Prop} (hB : Begins v o B) :
    Meets (Builtin.«enumerate.__new__» ⟨[.type "enumerate", v], []⟩) (fun _ R s => B s.heap ∧
      R (.ok (.ret (.ref (s.heap.push o).objs.size))) { s with heap := (s.heap.push o).push { cls := .type "enumerate", data := .fields #[.none, .bool false, .ref s.heap.objs.size, rawInt 0, .none, .none] } }) :=
  .of_wp fun prog w A R s h => by
    obtain ⟨hp, g, d, tk, os⟩ := s
    obtain ⟨hb, h⟩ := h
    have hsub := sub_enumerate
    have begin1 : ∀ {A1 : Around} {E1 : Value → Shared → Prop} {Q1 : Value → Shared → Prop}, Q1 (.ref hp.objs.size) ⟨hp.push o, g, d, tk, os⟩ → wpAny (model prog w) A1 (pyIter v) Q1 E1 ⟨hp, g, d, tk, os⟩ := fun q => hB.iter prog w _ _ ⟨hp, g, d, tk, os⟩ _ hb q
    wp_walk using begin1
    refine wpAny_stack_any fun stk => wpAny_pure ?_
    split
    next c _ _ _ _ _ =>
      cases (c == Value.type "enumerate") <;> (wp_walk using begin1; exact ⟨_, rfl, h⟩)
    next => wp_walk using begin1; exact ⟨_, rfl, h⟩
theorem make {prog : Program} {w : World} {A : Around} {E : Value → Shared → Prop} {s : Shared} {v : Value} {o : Obj} {B : Heap → Prop} {Q : Value → Shared → Prop} (hB : Begins v o B) (hb : B s.heap)
    (k : ∀ h', IsEnum h' (s.heap.objs.size + 1) s.heap.objs.size 0 .none → h'.get? s.heap.objs.size = some o → (∀ b o, s.heap.get? b = some o → h'.get? b = some o) → Q (.ref (s.heap.objs.size + 1)) { s with heap := h' }) :
    wpAny (model prog w) A (call (.type "enumerate") [v]) Q E s := by
  refine callType_new F.called_enumerate (by decide) (F.typeCall_enumerate_1 _) (F.newCall_enumerate_1 _) (fun obj => F.args_object_init_2 obj _) F.entry_enumerate_new (meets_one hB) ⟨hb, ?_⟩
  have z : (s.heap.push o).objs.size = s.heap.objs.size + 1 := Heap.size_push ..
  generalize hn : ({ cls := .type "enumerate", data := .fields #[.none, .bool false, .ref s.heap.objs.size, rawInt 0, .none, .none] } : Obj) = en
  have e : ((s.heap.push o).push en).get? (s.heap.objs.size + 1) = some en := by
    have q := Heap.get?_push_size (s.heap.push o) (o := en) (by rw [← hn]; rfl)
    rw [z] at q
    exact q
  have ie : IsEnum ((s.heap.push o).push en) (s.heap.objs.size + 1) s.heap.objs.size 0 .none := by
    subst hn
    exact e
  show _ ∧ _
  rw [z]
  exact ⟨⟨_, e, by rw [← hn]⟩, k _ ie (Heap.get?_push_of_some _ (Heap.get?_push_size _ hB.free)) fun b u x => Heap.get?_push_of_some _ (Heap.get?_push_of_some _ x)⟩
/-- the tuple at a walked with its places -/
def ItE (K : PySem.W.Frag) (a : Addr) : It :=
  ⟨fun i H => ∃ (xs : List V) (x : V), SqT K H a xs ∧ xs[i]? = some x, fun i H v H' => ∃ T x, v = .ref T ∧ H T = none ∧ H' = upd H T (.tup [.int (i : Nat), x]) ∧ ∀ xs, SqT K H a xs → xs[i]? = some x,
    fun i H => ∃ xs : List V, SqT K H a xs ∧ xs.length = i⟩
theorem turn {P : Program} {w : World} {K : PySem.W.Frag} {elts : List Expr} {kk : Nat} {tpos : Pos} (a e it : Addr) (hei : e ≠ it) :
    Turn P w K (.Tuple elts kk tpos) (ItE K a) [e, it] e (fun i h => (∃ old, IsEnum h e it ((i : Nat) : Int) old) ∧ h.IsTupleIter it a i) where
  mem := List.mem_cons_self
  obj := fun i h st b hb => by
    obtain ⟨⟨old, he⟩, o, ho, _, hd⟩ := st
    rcases List.mem_cons.mp hb with z | z
    · rw [z]; exact ⟨_, he, fun v q => nomatch q⟩
    · rw [List.mem_singleton.mp z]; exact ⟨o, ho, fun v q => by rw [hd] at q; cases q⟩
  keep := fun i h h' st k => ⟨let ⟨old, he⟩ := st.1; ⟨old, k e (by simp) _ he⟩, st.2.at fun o q => k it (by simp) o q⟩
  item := by
    intro X hP hw hK hc i pins s σ H E I hf st hg
    subst hP hw hK
    obtain ⟨⟨old, he⟩, hit⟩ := st
    obtain ⟨xs, x, hq, hx⟩ := hg
    obtain ⟨its, rv, pl, hz⟩ := I.tuple hq
    obtain ⟨u, hu, ru⟩ := rv.get hx
    have le : e < s.heap.objs.size := Heap.lt_size he
    have li : it < s.heap.objs.size := by obtain ⟨_, q, _⟩ := hit; exact Heap.lt_size q
    have nai : a ≠ it := fun z => by
      obtain ⟨o, q, hcl, _⟩ := hit
      obtain ⟨o2, q2, hcl2, _⟩ := pl
      rw [z, q] at q2
      cases q2
      rw [hcl] at hcl2
      exact absurd (Value.type.inj hcl2) (by decide)
    have nea : e ≠ a := fun z => by
      obtain ⟨o2, q2, hcl2, _⟩ := pl
      rw [← z] at q2
      have q3 := Option.some.inj (he.symm.trans q2)
      rw [← q3] at hcl2
      exact absurd (Value.type.inj hcl2) (by decide)
    have D := Draws.tuple (prog := X.prog) (w := X.w) (A := X.A.in1) (I.ok.hd hc) it a nai its.toArray
    have hlt : i < its.toArray.size := by simpa using (List.getElem?_eq_some_iff.mp hu).1
    refine wpAny_pyNext_enum_itemD D he ⟨hit, pl⟩ hlt hei (by simp [hei, nea]) fun y h' tk hy ho st' hT hsz hk => ?_
    obtain rfl : y = u := by
      have q : its[i]? = some y := by simpa using hy
      exact Option.some.inj (q.symm.trans hu)
    refine ⟨_, rfl, wpAny_letOwnedTupleGo_enum (s := { s with heap := h', toks := tk + 1 }) ho fun h'' he' sb => ?_⟩
    have tT : h''.get? s.heap.objs.size = some { cls := .type "tuple", data := .seq #[.int i tk, y] } := (sb.2 _ (Nat.ne_of_gt le)).trans hT
    have J : Inv X pins σ (upd H s.heap.objs.size (.tup [.int (i : Nat), x])) { s with heap := h'', toks := tk + 1 } :=
      I.turnedNew (ch := [e, it]) (fun b ob nb q => (sb.2 b (fun z => nb (by simp [z]))).trans (hk b ob (fun z => nb (by simp [z])) (fun z => nb (by simp [z])) q)) hf (Nat.le_refl _)
        ⟨by show 2 ≤ sizeLine; decide, [.int i tk, y], .cons ⟨_, rfl⟩ (.cons ru .nil), ⟨_, tT, rfl, _, rfl⟩⟩
    refine ⟨.ref s.heap.objs.size, _, J, rfl, ⟨_, x, rfl, I.hok.fresh (Nat.le_refl _), rfl, fun ys hy => by rw [I.tuple_inj hy hq]; exact hx⟩, ⟨⟨y, ?_⟩, st'.1.at fun o q => (sb.2 it (Ne.symm hei)).trans q⟩, fun b hb => ?_⟩
    · have c1 : ((i + 1 : Nat) : Int) = (i : Int) + 1 := by omega
      rw [c1]; exact he'
    · have lb : b < s.heap.objs.size := by
        rcases List.mem_cons.mp hb with z | z
        · rw [z]; exact le
        · rw [List.mem_singleton.mp z]; exact li
      rw [upd_ne (Nat.ne_of_lt lb)]
      exact (hf b hb).1
  done := by
    intro X hP hw hK hc i pins s σ H E I hf st hg
    subst hP hw hK
    obtain ⟨⟨old, he⟩, hit⟩ := st
    obtain ⟨xs, hq, hx⟩ := hg
    obtain ⟨its, rv, pl, hz⟩ := I.tuple hq
    obtain ⟨f0, f1, f2, f3, f4, f5⟩ := hf it (by simp)
    have hl := rv.length
    have nai : a ≠ it := fun z => by
      obtain ⟨o, q, hcl, _⟩ := hit
      obtain ⟨o2, q2, hcl2, _⟩ := pl
      rw [z, q] at q2
      cases q2
      rw [hcl] at hcl2
      exact absurd (Value.type.inj hcl2) (by decide)
    have D := Draws.tuple (prog := X.prog) (w := X.w) (A := X.A.in1) (I.ok.hd hc) it a nai its.toArray
    have en : i = its.toArray.size := by rw [List.size_toArray, ← hl, hx]
    exact wpAny_pyNext_enum_endD D he (by rw [← en]; exact ⟨hit, pl⟩) fun h' eb => ⟨rfl, I.turned (t' := s.toks) (fun b o hb q => eb b o hb q) f0 f1 f3 f4 f5⟩
  self := fun A i s Q E st h => let ⟨⟨_, he⟩, _⟩ := st; wpAny_pyIter_enum he h
def iEnumT (K : PySem.W.Frag) (ta : TA) : TI := fun σ H R => ta σ H fun vs H1 => ∃ a xs, vs = [.ref a] ∧ SqT K H1 a xs ∧ R (ItE K a) H1
theorem pi_enumT {X : Cx} {e : Expr} {ta : TA} {p pos tpos : Pos} {elts : List Expr} {kk : Nat} (hg : Gl X "enumerate") (hm : X.mg "enumerate" = none) (ha : PA X [e] ta) (hs : starEach [e] X.env = [(false, eval e X.env)] := by rfl) :
    PI X (.Tuple elts kk tpos) (.Call (.Name "enumerate" p) [e] [] pos) (iEnumT X.K ta) := by
  refine ⟨fun pins s σ H R I h => ?_⟩
  refine Call_ (ld_blt I hg hm boot_enumerate (PyProof.Rows.callWith_type1 (thn (ha.run pos pins s σ H _ I h) fun us s1 ⟨vs, H1, I1, r1, q1⟩ => ?_) hs rfl))
  obtain ⟨a, xs, rfl, hq, q⟩ := q1
  obtain ⟨u, rfl, ru⟩ := vals1 r1
  cases (show u = Value.ref a from ru)
  obtain ⟨its, rv, pl, hz⟩ := I1.tuple hq
  refine make (begins_tuple a its.toArray) pl fun h' ie io kp => wpAny_pyIter_enum ie ?_
  refine ⟨s1.heap.objs.size + 1, [s1.heap.objs.size + 1, s1.heap.objs.size], _, _, H1, rfl, I1.kept (t' := s1.toks) kp, turn a (s1.heap.objs.size + 1) s1.heap.objs.size (Nat.succ_ne_self _), ⟨⟨.none, ie⟩, _, io, rfl, rfl⟩, fun b hb => ?_, q⟩
  have lb : s1.heap.objs.size ≤ b := by
    rcases List.mem_cons.mp hb with z | z
    · rw [z]; exact Nat.le_succ _
    · rw [List.mem_singleton.mp z]; exact Nat.le_refl _
  exact I1.fpOk lb (I1.hok.fresh lb)
/-- for (i, x) in enumerate(t): an invariant over the turns -/
theorem for_enumT {K : PySem.W.Frag} {a : Addr} {xs : List V} {g : TG} {tb : TS} {D : Ends} {σ : L2.St} {H : Hp} (Pv : Nat → L2.St → Hp → Prop) (h0 : Pv 0 σ H) (hl : ∀ i σ H, i ≤ xs.length → Pv i σ H → SqT K H a xs)
    (hs : ∀ i x σ H T, xs[i]? = some x → Pv i σ H → H T = none → g (.ref T) σ (upd H T (.tup [.int (i : Nat), x])) fun σ2 H2 => tb { D with nx := Pv (i + 1), ct := Pv (i + 1), bk := D.nx } σ2 H2) (hd : ∀ σ H, Pv xs.length σ H → D.nx σ H) :
    ∃ W : Nat → Nat → L2.St → Hp → Prop, (∃ m, W 0 m σ H) ∧ ∀ i m σ H, W i m σ H →
      ((ItE K a).stop i H ∧ D.nx σ H) ∨ ((ItE K a).go i H ∧ ∃ N : L2.St → Hp → Prop, (∀ σ' H', N σ' H' → ∃ m', m' < m ∧ W (i + 1) m' σ' H') ∧ ∀ x H', (ItE K a).yld i H x H' → g x σ H' fun σ2 H2 => tb { D with nx := N, ct := N, bk := D.nx } σ2 H2) := by
  refine ⟨fun i m σ H => i + m = xs.length ∧ Pv i σ H, ⟨xs.length, by omega, h0⟩, ?_⟩
  rintro i m σ H ⟨e, p⟩
  have q := hl i σ H (by omega) p
  by_cases c : i < xs.length
  · refine .inr ⟨⟨xs, xs[i], q, List.getElem?_eq_getElem c⟩, Pv (i + 1), fun σ' H' p' => ⟨m - 1, by omega, by omega, p'⟩, fun v H' hy => ?_⟩
    obtain ⟨T, x, rfl, nT, rfl, fx⟩ := hy
    exact hs i x σ H T (fx xs q) p nT
  · have e2 : i = xs.length := by omega
    subst e2
    exact .inl ⟨⟨xs, q, rfl⟩, hd σ H p⟩
theorem lc_enumT {K : PySem.W.Frag} {a : Addr} {xs : List V} {g : TG} {tt : TT} {te : TE} {vs : List Nat} {σ : L2.St} {H1 : Hp} {D : Addr} {Qd : Hp → Prop} (Pv : Nat → Hp → Prop) (h0 : Pv 0 (upd H1 D (.lst []))) (hl : ∀ i H, i ≤ xs.length → Pv i H → SqT K H a xs)
    (hs : ∀ i x H T, xs[i]? = some x → Pv i H → H T = none → g (.ref T) (wipe σ vs) (upd H T (.tup [.int (i : Nat), x])) fun σ2 H2 => wipe σ2 vs = wipe σ vs ∧ tt σ2 H2 fun b H3 =>
      if b = true then te σ2 H3 fun y H4 => ∃ acc, H4 D = some (.lst acc) ∧ acc.length < sizeLine ∧ Pv (i + 1) (upd H4 D (.lst (acc ++ [y]))) else Pv (i + 1) H3) (hd : ∀ H, Pv xs.length H → Qd H) :
    ∃ W : Nat → Nat → Hp → Prop, (∃ m, W 0 m (upd H1 D (.lst []))) ∧ ∀ i m H, W i m H →
      ((ItE K a).stop i H ∧ Qd H) ∨ ((ItE K a).go i H ∧ ∃ Nx : Hp → Prop, (∀ H', Nx H' → ∃ m', m' < m ∧ W (i + 1) m' H') ∧ ∀ x H', (ItE K a).yld i H x H' → g x (wipe σ vs) H' fun σ2 H2 => wipe σ2 vs = wipe σ vs ∧ tt σ2 H2 fun b H3 =>
        if b = true then te σ2 H3 fun y H4 => ∃ acc, H4 D = some (.lst acc) ∧ acc.length < sizeLine ∧ Nx (upd H4 D (.lst (acc ++ [y]))) else Nx H3) := by
  refine ⟨fun i m H => i + m = xs.length ∧ Pv i H, ⟨xs.length, by omega, h0⟩, ?_⟩
  rintro i m H ⟨e, p⟩
  have q := hl i H (by omega) p
  by_cases c : i < xs.length
  · refine .inr ⟨⟨xs, xs[i], q, List.getElem?_eq_getElem c⟩, Pv (i + 1), fun H' p' => ⟨m - 1, by omega, by omega, p'⟩, fun v H' hy => ?_⟩
    obtain ⟨T, x, rfl, nT, rfl, fx⟩ := hy
    exact hs i x H T (fx xs q) p nT
  · have e2 : i = xs.length := by omega
    subst e2
    exact .inl ⟨⟨xs, q, rfl⟩, hd H p⟩
end Et

set_option Elab.async false
set_option linter.all false
set_option maxRecDepth 100000
set_option maxHeartbeats 4000000
/-! riddles as they lie in the heap, their data, and what a filling breaks -/
namespace Dt
open PySem PySem.Spec PyProof.Rows L2
/-! ### in, of a tuple of data -/
def rInT (K : PySem.W.Frag) : R2 := fun x y H Q => ∃ d ds, Dp K H x d ∧ Dp K H y (.tuple ds) ∧ SeqAt.shaped d = true ∧ SeqAt.shaped (.tuple ds) = true ∧ Q (.bl (ds.any fun z => PyData.eqv z d)) H
theorem op_inT {X : Cx} (hu : X.A.units + 65 < cLine) : OpR X (compareOp .In) (rInT X.K) := by
  intro pins s σ H x y v u Q I rx ry h
  obtain ⟨d, ds, hd, he, sd, se, q⟩ := h
  obtain ⟨as, r1⟩ := Dp.reads I d x v hd rx
  obtain ⟨bs, r2⟩ := Dp.reads I (.tuple ds) y u he ry
  exact SeqAt.in_tuple_reads r2 r1 (SeqAt.canLay_of_shaped se) (SeqAt.canLay_of_shaped sd) (room_in_shaped sd hu) ⟨.bl _, H, I, rfl, q⟩
/-! ### wishes and riddles -/
abbrev Row := List Int
abbrev WD := List Int × List Row
def IsRow (H : Hp) (r : Addr) (row : Row) : Prop := H r = some (.tup (row.map V.int))
/-- a tuple of places whose object is known to have no dict -/
def IsPl (H : Hp) (a : Addr) (ns : List Int) : Prop := ∃ o : Obj, H a = some (.frz o (.tup (ns.map V.int))) ∧ o.cls = .type "tuple" ∧ o.dict = none
theorem IsPl.sq {K : PySem.W.Frag} {H : Hp} {a : Addr} {ns : List Int} (h : IsPl H a ns) : SqT K H a (ns.map V.int) := let ⟨o, e, _⟩ := h; .inl (.inr ⟨o, e⟩)
def IsWish (H : Hp) (wa : Addr) (wd : WD) : Prop := ∃ (pa ra : Addr) (rs : List Addr), H wa = some (.tup [.ref pa, .ref ra]) ∧ IsPl H pa wd.1 ∧ H ra = some (.tup (rs.map V.ref)) ∧ Paired (IsRow H) rs wd.2
def IsRid (H : Hp) (ri : Addr) (many hues : Int) (wds : List WD) : Prop := ∃ (wt : Addr) (was : List Addr), H ri = some (.tup [.int many, .int hues, .ref wt]) ∧ H wt = some (.tup (was.map V.ref)) ∧ Paired (IsWish H) was wds
/-- tuples stay -/
structure Tups (H H' : Hp) : Prop where
  tup : ∀ b xs, H b = some (.tup xs) → H' b = some (.tup xs)
  frz : ∀ b o xs, H b = some (.frz o (.tup xs)) → H' b = some (.frz o (.tup xs))
instance {H H' : Hp} : CoeFun (Tups H H') (fun _ => ∀ b xs, H b = some (.tup xs) → H' b = some (.tup xs)) := ⟨Tups.tup⟩
theorem Tups.refl (H : Hp) : Tups H H := ⟨fun _ _ e => e, fun _ _ _ e => e⟩
theorem Tups.trans {H H1 H2 : Hp} (a : Tups H H1) (b : Tups H1 H2) : Tups H H2 := ⟨fun c xs e => b.tup c xs (a.tup c xs e), fun c o xs e => b.frz c o xs (a.frz c o xs e)⟩
theorem tups_same {H H' : Hp} (s : Same H H') : Tups H H' := ⟨fun b xs e => s b _ e, fun b o xs e => s b _ e⟩
theorem tups_lst {H : Hp} {p : Addr} {ys : List V} {o : HO} (h : H p = some (.lst ys)) : Tups H (upd H p o) := ⟨fun b xs e => by
    rw [upd_ne (fun z => by rw [z, h] at e; cases e)]
    exact e, fun b o xs e => by
    rw [upd_ne (fun z => by rw [z, h] at e; cases e)]
    exact e⟩
theorem IsPl.mono {H H' : Hp} {a : Addr} {ns : List Int} (t : Tups H H') (h : IsPl H a ns) : IsPl H' a ns := let ⟨o, e, r⟩ := h; ⟨o, t.frz _ _ _ e, r⟩
theorem pairedMap {α β : Type} {F G : α → β → Prop} : ∀ {l : List α} {m : List β}, (∀ a b, F a b → G a b) → Paired F l m → Paired G l m
  | _, _, _, .nil => .nil
  | _, _, k, .cons h t => .cons (k _ _ h) (pairedMap k t)
theorem pairedLen {α β : Type} {F : α → β → Prop} : ∀ {l : List α} {m : List β}, Paired F l m → l.length = m.length
  | _, _, .nil => rfl
  | _, _, .cons _ t => by rw [List.length_cons, List.length_cons, pairedLen t]
theorem pairedGet {α β : Type} {F : α → β → Prop} : ∀ {l : List α} {m : List β} {i : Nat} {b : β}, Paired F l m → m[i]? = some b → ∃ a, l[i]? = some a ∧ F a b
  | _, _, _, _, .nil, h => by simp at h
  | _, _, 0, _, .cons h _, e => by cases e; exact ⟨_, rfl, h⟩
  | _, _, i + 1, b, .cons _ t, e => pairedGet (i := i) (b := b) t e
theorem pairedGetL {α β : Type} {F : α → β → Prop} : ∀ {l : List α} {m : List β} {i : Nat} {a : α}, Paired F l m → l[i]? = some a → ∃ b, m[i]? = some b ∧ F a b
  | _, _, _, _, .nil, h => by simp at h
  | _, _, 0, _, .cons h _, e => by cases e; exact ⟨_, rfl, h⟩
  | _, _, i + 1, a, .cons _ t, e => pairedGetL (i := i) (a := a) t e
theorem IsWish.mono {H H' : Hp} {wa : Addr} {wd : WD} (t : Tups H H') (h : IsWish H wa wd) : IsWish H' wa wd := by
  obtain ⟨pa, ra, rs, h1, h2, h3, h4⟩ := h
  exact ⟨pa, ra, rs, t _ _ h1, h2.mono t, t _ _ h3, pairedMap (fun a b e => t _ _ e) h4⟩
theorem IsRid.mono {H H' : Hp} {ri : Addr} {m h : Int} {wds : List WD} (t : Tups H H') (x : IsRid H ri m h wds) : IsRid H' ri m h wds := by
  obtain ⟨wt, was, h1, h2, h3⟩ := x
  exact ⟨wt, was, t _ _ h1, t _ _ h2, pairedMap (fun _ _ e => IsWish.mono t e) h3⟩
/-- what may come of the law's drawing -/
structure Good (many hues : Int) (wd : WD) : Prop where
  one : 1 ≤ wd.1.length
  three : wd.1.length ≤ 3
  pl : ∀ p ∈ wd.1, 0 ≤ p ∧ p < many
  some_ : 1 ≤ wd.2.length
  few : wd.2.length ≤ 64
  row : ∀ r ∈ wd.2, r.length = wd.1.length ∧ ∀ h ∈ r, 0 ≤ h ∧ h < hues
structure GoodR (many hues : Int) (wds : List WD) : Prop where
  m1 : 1 ≤ many
  m6 : many ≤ 6
  h2 : 2 ≤ hues
  h4 : hues ≤ 4
  eight : wds.length ≤ 8
  each : ∀ wd ∈ wds, Good many hues wd
structure GoodF (many hues : Int) (fs : List Int) : Prop where
  len : (fs.length : Int) = many
  hue : ∀ h ∈ fs, 0 ≤ h ∧ h < hues
/-! ### the data -/
def rowD (r : Row) : PyData := .tuple (r.map .int)
def wishD (wd : WD) : PyData := .tuple [rowD wd.1, .tuple (wd.2.map rowD)]
def ridD (many hues : Int) (wds : List WD) : PyData := .tuple [.int many, .int hues, .tuple (wds.map wishD)]
section
variable {K : PySem.W.Frag} {H : Hp}
theorem dpInts : ∀ ns : List Int, DpAll K H (ns.map V.int) (ns.map PyData.int)
  | [] => .nil
  | n :: r => .cons (.int n) (dpInts r)
theorem dpRow {r : Addr} {row : Row} (h : IsRow H r row) : Dp K H (.ref r) (rowD row) := .tup (.inl (.inl h)) (dpInts row)
theorem dpRows : ∀ {rs : List Addr} {rows : List Row}, Paired (IsRow H) rs rows → DpAll K H (rs.map V.ref) (rows.map rowD)
  | _, _, .nil => .nil
  | _, _, .cons h t => .cons (dpRow h) (dpRows t)
theorem dpWish {wa : Addr} {wd : WD} (h : IsWish H wa wd) : Dp K H (.ref wa) (wishD wd) := by
  obtain ⟨pa, ra, rs, h1, h2, h3, h4⟩ := h
  exact .tup (.inl (.inl h1)) (.cons (.tup h2.sq (dpInts _)) (.cons (.tup (.inl (.inl h3)) (dpRows h4)) .nil))
theorem dpWishes : ∀ {was : List Addr} {wds : List WD}, Paired (IsWish H) was wds → DpAll K H (was.map V.ref) (wds.map wishD)
  | _, _, .nil => .nil
  | _, _, .cons h t => .cons (dpWish h) (dpWishes t)
theorem dpRid {ri : Addr} {m h : Int} {wds : List WD} (x : IsRid H ri m h wds) : Dp K H (.ref ri) (ridD m h wds) := by
  obtain ⟨wt, was, h1, h2, h3⟩ := x
  exact .tup (.inl (.inl h1)) (.cons (.int m) (.cons (.int h) (.cons (.tup (.inl (.inl h2)) (dpWishes h3)) .nil)))
end
/-! ### data of this kind is laid, shallow, light and shown -/
/-- a measure of data: laid, at most so deep, at most so heavy, ints short, no dict -/
structure Fine (d : PyData) (n w : Nat) : Prop where
  lay : d.canLay0 = true
  dep : d.depth ≤ n
  wei : d.weight ≤ w
  sho : d.showable = true
  noD : d.hasDict = false
  sh13 : d.intsShort 13 = true
structure FineAll (ds : List PyData) (n w : Nat) : Prop where
  lay : PyData.canLayAll0 ds = true
  dep : PyData.depthAll ds ≤ n
  wei : PyData.weightAll ds ≤ w
  sho : PyData.showableAll ds = true
  noD : PyData.hasDictAll ds = false
  sh13 : PyData.intsShortAll 13 ds = true
theorem FineAll.nil (n : Nat) : FineAll [] n 0 := ⟨rfl, Nat.zero_le _, Nat.le_refl _, rfl, rfl, rfl⟩
theorem FineAll.cons {d : PyData} {ds : List PyData} {n w u : Nat} (h : Fine d n w) (t : FineAll ds n u) : FineAll (d :: ds) n (w + 1 + u) := by
  refine ⟨?_, ?_, ?_, ?_, ?_, ?_⟩
  · simp only [PyData.canLayAll0, h.lay, t.lay, Bool.and_self]
  · have a := h.dep
    have b := t.dep
    simp only [PyData.depthAll]
    omega
  · have a := h.wei
    have b := t.wei
    simp only [PyData.weightAll]
    omega
  · simp only [PyData.showableAll, h.sho, t.sho, Bool.and_self]
  · simp only [PyData.hasDictAll, h.noD, t.noD, Bool.or_self]
  · simp only [PyData.intsShortAll, h.sh13, t.sh13, Bool.and_self]
theorem Fine.tuple {ds : List PyData} {n w : Nat} (t : FineAll ds n w) : Fine (.tuple ds) (n + 1) w := by
  refine ⟨by simp only [PyData.canLay0]; exact t.lay, ?_, by simp only [PyData.weight]; exact t.wei, by simp only [PyData.showable]; exact t.sho, by simp only [PyData.hasDict]; exact t.noD, by simp only [PyData.intsShort]; exact t.sh13⟩
  have a := t.dep
  simp only [PyData.depth]
  omega
theorem Fine.list {ds : List PyData} {n w : Nat} (t : FineAll ds n w) : Fine (.list ds) (n + 1) w := by
  refine ⟨by simp only [PyData.canLay0]; exact t.lay, ?_, by simp only [PyData.weight]; exact t.wei, by simp only [PyData.showable]; exact t.sho, by simp only [PyData.hasDict]; exact t.noD, by simp only [PyData.intsShort]; exact t.sh13⟩
  have a := t.dep
  simp only [PyData.depth]
  omega
theorem Fine.mono {d : PyData} {n w n' w' : Nat} (h : Fine d n w) (a : n ≤ n') (b : w ≤ w') : Fine d n' w' := ⟨h.lay, Nat.le_trans h.dep a, Nat.le_trans h.wei b, h.sho, h.noD, h.sh13⟩
theorem FineAll.mono {d : List PyData} {n w n' w' : Nat} (h : FineAll d n w) (a : n ≤ n') (b : w ≤ w') : FineAll d n' w' := ⟨h.lay, Nat.le_trans h.dep a, Nat.le_trans h.wei b, h.sho, h.noD, h.sh13⟩
theorem fineAll_map {α : Type} {f : α → PyData} {n w : Nat} : ∀ (l : List α), (∀ x ∈ l, Fine (f x) n w) → FineAll (l.map f) n (l.length * (w + 1))
  | [], _ => FineAll.nil n |>.mono (Nat.le_refl _) (Nat.zero_le _)
  | x :: r, h => by
    have t := fineAll_map r fun y hy => h y (List.mem_cons_of_mem _ hy)
    refine (FineAll.cons (h x List.mem_cons_self) t).mono (Nat.le_refl _) ?_
    rw [List.length_cons, Nat.succ_mul]
    omega
theorem fine_int {i : Int} (h0 : 0 ≤ i) (h1 : i < 64) : Fine (.int i) 1 7 := by
  obtain ⟨n, rfl⟩ : ∃ n : Nat, i = n := ⟨i.toNat, by omega⟩
  have hn : n < 64 := by omega
  have hl : n.log2 ≤ 5 := by
    by_cases e : n = 0
    · subst e; decide
    · have := (Nat.log2_lt e).mpr (show n < 2 ^ 6 by omega)
      omega
  refine ⟨rfl, by simp [PyData.depth], ?_, ?_, rfl, ?_⟩
  · simp only [PyData.weight]
    split
    · omega
    · have e : ((n : Int)).natAbs = n := by omega
      rw [e]
      omega
  · simp only [PyData.showable]
    have e : ((n : Int)).natAbs = n := by omega
    rw [e]
    exact decide_eq_true (by omega)
  · have all : ∀ m : Nat, m < 64 → PyData.intsShort 13 (.int (m : Int)) = true := by decide +kernel
    exact all n hn
theorem Fine.shaped {d : PyData} {n w : Nat} (h : Fine d n w) (hn : n ≤ 64) : SeqAt.shaped d = true := by
  show (d.canLay0 && decide (d.depth ≤ 64)) = true
  rw [h.lay, decide_eq_true (Nat.le_trans h.dep hn)]
  rfl
theorem Fine.shows {d : PyData} {n w : Nat} (h : Fine d n w) (hn : n ≤ 64) (hw : w ≤ 1048576) : d.shown.length ≤ sizeLine := by
  have l : d.layable0 = true := by
    show (d.canLay0 && decide (d.depth ≤ 64) && decide (d.weight ≤ 2 ^ 20)) = true
    rw [h.lay, decide_eq_true (Nat.le_trans h.dep hn), decide_eq_true (show d.weight ≤ 2 ^ 20 from Nat.le_trans h.wei (Nat.le_trans hw (by decide)))]
    rfl
  exact Nat.le_trans (shown_le13 l h.sh13) (by decide)
/-! ### equality of rows -/
theorem eqvAll_ints : ∀ a b : List Int, PyData.eqvAll (a.map .int) (b.map .int) = decide (a = b)
  | [], [] => by simp [PyData.eqvAll]
  | [], _ :: _ => by simp [PyData.eqvAll]
  | _ :: _, [] => by simp [PyData.eqvAll]
  | x :: r, y :: q => by
    simp only [List.map_cons, PyData.eqvAll, PyData.eqv, eqvAll_ints r q]
    by_cases h : x = y
    · subst h; simp
    · simp [h]
theorem eqv_row (a b : Row) : PyData.eqv (rowD a) (rowD b) = decide (a = b) := by
  unfold rowD
  rw [PyData.eqv]
  exact eqvAll_ints a b
theorem anyRows (r : Row) : ∀ rows : List Row, ((rows.map rowD).any fun z => PyData.eqv z (rowD r)) = decide (r ∈ rows)
  | [] => by simp
  | x :: q => by
    rw [List.map_cons, List.any_cons, anyRows r q, eqv_row]
    by_cases h : x = r
    · subst h; simp
    · have h2 : ¬ r = x := fun e => h e.symm
      simp [h, h2]
/-! ### what is broken -/
def atF (fs : List Int) (p : Int) : Int := fs.getD p.toNat 0
def huesA (fs ps : List Int) : List Int := ps.map (atF fs)
def brk (fs : List Int) (wd : WD) : Bool := decide (huesA fs wd.1 ∈ wd.2)
def brkAt (fs : List Int) (wds : List WD) (k : Nat) : Bool := match wds[k]? with
  | some wd => brk fs wd
  | none => false
def broL (fs : List Int) (wds : List WD) (i : Nat) : List Int := ((List.range i).filter (brkAt fs wds)).map fun (k : Nat) => (k : Int)
theorem brkAt_of {fs : List Int} {wds : List WD} {k : Nat} {wd : WD} (h : wds[k]? = some wd) : brkAt fs wds k = brk fs wd := by
  unfold brkAt
  rw [h]
theorem broL_yes {fs : List Int} {wds : List WD} {i : Nat} (h : brkAt fs wds i = true) : broL fs wds (i + 1) = broL fs wds i ++ [(i : Int)] := by
  unfold broL
  rw [List.range_succ, List.filter_append, List.map_append]
  simp [h]
theorem broL_no {fs : List Int} {wds : List WD} {i : Nat} (h : brkAt fs wds i = false) : broL fs wds (i + 1) = broL fs wds i := by
  unfold broL
  rw [List.range_succ, List.filter_append, List.map_append]
  simp [h]
theorem broL_len (fs : List Int) (wds : List WD) (i : Nat) : (broL fs wds i).length ≤ i := by
  unfold broL
  rw [List.length_map]
  have q := List.length_filter_le (brkAt fs wds) (List.range i)
  rw [List.length_range] at q
  exact q
theorem broL_mem {fs : List Int} {wds : List WD} {i : Nat} {z : Int} (h : z ∈ broL fs wds i) : 0 ≤ z ∧ z < i := by
  unfold broL at h
  obtain ⟨k, hk, rfl⟩ := List.mem_map.mp h
  have := List.mem_range.mp (List.mem_filter.mp hk).1
  omega
theorem at_some {fs : List Int} {many hues : Int} {p : Int} (h : GoodF many hues fs) (h0 : 0 ≤ p) (h1 : p < many) : fs[p.toNat]? = some (atF fs p) := by
  have hl := h.len
  have hp : p.toNat < fs.length := by omega
  unfold atF
  rw [List.getD_eq_getElem?_getD, List.getElem?_eq_getElem hp]
  rfl
theorem atI_fs {fs : List Int} {many hues : Int} {p : Int} (h : GoodF many hues fs) (h0 : 0 ≤ p) (h1 : p < many) : atI (fs.map V.int) p = some (.int (atF fs p)) := by
  have e : p = ((p.toNat : Nat) : Int) := by omega
  have g : (fs.map V.int)[p.toNat]? = some (.int (atF fs p)) := by rw [List.getElem?_map, at_some h h0 h1]; rfl
  rw [e]
  rw [← e]
  have q := atI_nat g
  rw [← e] at q
  exact q
/-! ### riddles are fine data -/
theorem fine_row {r : Row} (h : ∀ z ∈ r, 0 ≤ z ∧ z < 64) (hl : r.length ≤ 8) : Fine (rowD r) 2 64 :=
  (Fine.tuple (fineAll_map r fun z hz => fine_int (h z hz).1 (h z hz).2)).mono (by omega) (by omega)
theorem fine_wish {many hues : Int} {wd : WD} (g : Good many hues wd) (hm : many ≤ 6) (hh : hues ≤ 4) : Fine (wishD wd) 4 5000 := by
  have a : Fine (rowD wd.1) 2 64 := fine_row (fun z hz => ⟨(g.pl z hz).1, by have := (g.pl z hz).2; omega⟩) (by have := g.three; omega)
  have b : Fine (.tuple (wd.2.map rowD)) 3 4200 := by
    refine (Fine.tuple (fineAll_map wd.2 fun r hr => fine_row (fun z hz => ⟨((g.row r hr).2 z hz).1, by have := ((g.row r hr).2 z hz).2; omega⟩) (by have := (g.row r hr).1; have := g.three; omega))).mono (Nat.le_refl _) ?_
    have := g.few
    omega
  exact (Fine.tuple (FineAll.cons (a.mono (by omega) (Nat.le_refl _)) (FineAll.cons b (FineAll.nil _)))).mono (Nat.le_refl _) (by omega)
theorem fine_rid {many hues : Int} {wds : List WD} (g : GoodR many hues wds) : Fine (ridD many hues wds) 6 50000 := by
  have c : Fine (.tuple (wds.map wishD)) 5 40100 := by
    refine (Fine.tuple (fineAll_map wds fun wd hw => fine_wish (g.each wd hw) g.m6 g.h4)).mono (Nat.le_refl _) ?_
    have := g.eight
    omega
  have m := fine_int (i := many) (by have := g.m1; omega) (by have := g.m6; omega)
  have h := fine_int (i := hues) (by have := g.h2; omega) (by have := g.h4; omega)
  exact (Fine.tuple (FineAll.cons (m.mono (by omega) (Nat.le_refl _)) (FineAll.cons (h.mono (by omega) (Nat.le_refl _)) (FineAll.cons c (FineAll.nil _))))).mono (Nat.le_refl _) (by omega)
theorem fine_fill {many hues : Int} {fs : List Int} (g : GoodF many hues fs) (hm : many ≤ 6) (hh : hues ≤ 4) : Fine (rowD fs) 2 64 :=
  fine_row (fun z hz => ⟨(g.hue z hz).1, by have := (g.hue z hz).2; omega⟩) (by have := g.len; omega)
theorem fine_bro (fs : List Int) (wds : List WD) {i : Nat} (h : i ≤ 8) : Fine (.list ((broL fs wds i).map .int)) 2 64 := by
  refine (Fine.list (fineAll_map (broL fs wds i) fun z hz => fine_int (broL_mem hz).1 (by have := (broL_mem hz).2; omega))).mono (by omega) ?_
  have := broL_len fs wds i
  omega
end Dt

set_option Elab.async false
set_option linter.all false
set_option maxRecDepth 100000
set_option maxHeartbeats 4000000
/-! sorted(xs) of tuples of small ints, any number of them -/
namespace Tt
open PySem PySem.Spec PyProof.Rows L2
def rk (h : Heap) (B : Int) (v : Value) : Int := TS.code B (TS.intsOf h v)
theorem swo_rk (f : Value → Int) : SrtO.Swo fun v u => decide (f v < f u) := by
  refine ⟨fun x y h => ?_, fun x y z h1 h2 => ?_⟩
  · have a := of_decide_eq_true h
    exact decide_eq_false (by omega)
  · have a := of_decide_eq_false h1
    have b := of_decide_eq_false h2
    exact decide_eq_false (by omega)
section
variable {prog : Program} {w : World} {A : Around} {E : Value → Shared → Prop} {s : Shared}
theorem cmp_tups {d : Nat} {B : Int} {vs : List Value} (x : TS.TupsOk s.heap d B vs) (r : Value → Int) (hr : ∀ v, v ∈ vs → ∀ ns, TS.TupInts s.heap v ns → r v = TS.code B ns) :
    SrtO.Cmp prog w A s (tuples' true) (fun p => p.1 ∈ vs) (SrtO.lt2 fun v u => decide (r v < r u)) := by
  intro p q hp hq
  obtain ⟨ns, tp, lp, bp⟩ := x _ hp
  obtain ⟨ms, tq, lq, bq⟩ := x _ hq
  show wpAny (model prog w) A (keyLt' (tuples' true) p.1 q.1) (fun b s' => s' = s ∧ b = decide (r p.1 < r q.1)) (fun _ _ => False) s
  rw [hr _ hp _ tp, hr _ hq _ tq]
  obtain ⟨a, xs, e1, ⟨o, ho, hc, n, hdt⟩, i⟩ := tp
  obtain ⟨a', ys, e2, ⟨o', ho', hc', n', hdt'⟩, i'⟩ := tq
  rw [e1, e2]
  refine PySem.W.kat_lt ho hdt ho' hdt' ?_
  have l1 := i.length
  have l2 := i'.length
  rw [Array.length_toList] at l1 l2
  rw [show decide (xs.size < ys.size) = false from decide_eq_false (by omega)]
  exact TS.lex_ints 0 i i' (by omega) bp bq ⟨rfl, rfl⟩
theorem sortable {a : Addr} {d : Nat} {B : Int} {vs : List Value} (hd : 1 ≤ d) (h2 : 2 ≤ vs.length) (x : TS.TupsOk s.heap d B vs) (ha : ∀ o, s.heap.get? a = some o → o.cls ≠ .type "tuple") (r : Value → Int) (hr : ∀ v, v ∈ vs → ∀ ns, TS.TupInts s.heap v ns → r v = TS.code B ns) :
    SrtO.SortableO prog w A s a vs fun v u => decide (r v < r u) := by
  intro h' keep
  have k2 : ∀ b o, s.heap.get? b = some o → o.cls = .type "tuple" → h'.get? b = some o := fun b o e c => keep b o (fun z => by subst z; exact ha o e c) e
  have x' := x.keeps k2
  obtain ⟨fs, kt, hl, hi⟩ := TS.firsts_of hd vs x'
  refine ⟨tuples' true, fun Q E hq => ?_, cmp_tups (s := { s with heap := h' }) x' r fun v hv ns t => ?_⟩
  · refine PySem.W.kat_kind (T := .type "int") kt (by omega) (fun f hm => ?_) (by rfl) ?_
    · obtain ⟨n, t, rfl⟩ := hi f hm
      exact PySem.W.Looks.of_pure rfl
    · rw [show (Value.type "int" != Value.type "tuple") = true by decide +kernel]
      exact hq
  · obtain ⟨n0, t0, _⟩ := x v hv
    rw [show ns = n0 from t.ints.symm.trans (t0.keeps k2).ints]
    exact hr v hv n0 t0
end
/-- sorted(xs): ts the tuples' places, k what stands at each -/
def rSortedT (K : PySem.W.Frag) : List V → Hp → VK → Prop := fun vs H Q => ∃ (a : Addr) (ts : List Addr) (k : Addr → List Int) (d : Nat) (B : Int), vs = [.ref a] ∧ SqL K H a (ts.map V.ref) ∧ 1 ≤ d ∧ (∀ t ∈ ts, H t = some (.tup ((k t).map V.int)) ∧ (k t).length = d ∧ TS.Bd B (k t)) ∧
  ∀ (ts' : List Addr) (p : Addr), ts'.Perm ts → ts'.Pairwise (fun u v => TS.code B (k u) ≤ TS.code B (k v)) → H p = none → Q (.ref p) (upd H p (.lst (ts'.map V.ref)))
theorem vals_refs : ∀ {ts : List Addr} {us : List Value}, Vals (ts.map V.ref) us → us = ts.map Value.ref
  | [], _, .nil => rfl
  | t :: r, _, .cons h q => by
    cases h
    rw [vals_refs q]
    rfl
theorem refs_vals : ∀ ts : List Addr, Vals (ts.map V.ref) (ts.map Value.ref)
  | [] => .nil
  | t :: r => .cons rfl (refs_vals r)
theorem cr_sortedT {X : Cx} : CallR X (.builtin "sorted") (rSortedT X.K) := by
  intro pins s σ H vs us Q I r h
  obtain ⟨a, ts, k, d, B, rfl, hs, hd, ht, q⟩ := h
  obtain ⟨its, rv, hl, hz⟩ := I.list hs
  obtain ⟨u, rfl, ru⟩ := vals1 r
  cases (show u = Value.ref a from ru)
  obtain rfl := vals_refs rv
  have tup : ∀ t ∈ ts, TS.TupInts s.heap (.ref t) (k t) := fun t hm => by
    obtain ⟨_, its, rr, hT⟩ := I.hok t _ (ht t hm).1
    exact ⟨t, its.toArray, rfl, hT, by simpa using rr.ints⟩
  have ok : TS.TupsOk s.heap d B (ts.map Value.ref) := fun v hv => by
    obtain ⟨t, hm, rfl⟩ := List.mem_map.mp hv
    exact ⟨k t, tup t hm, (ht t hm).2.1, (ht t hm).2.2⟩
  have rk_at : ∀ v ∈ ts.map Value.ref, ∀ ns, TS.TupInts s.heap v ns → rk s.heap B v = TS.code B ns := fun v _ ns t => by
    unfold rk
    rw [t.ints]
  refine SrtO.sorted_ord (swo_rk (rk s.heap B)) hl.isList (by rw [← rv.length]; exact hz) (fun h2 h₁ a' ha' kk => ?_) fun out so sb => ?_
  · have keep : ∀ b o, s.heap.get? b = some o → o.cls = .type "tuple" → h₁.get? b = some o := fun b o e _ => (kk b o e).2
    refine sortable (s := { s with heap := h₁ }) hd h2 (ok.keeps keep) (fun o e c => ?_) (rk s.heap B) fun v hv ns t => ?_
    · have e' := Option.some.inj (e.symm.trans ha')
      rw [e'] at c
      exact absurd (Value.type.inj c) (by decide)
    · obtain ⟨n0, t0, _⟩ := ok v hv
      rw [show ns = n0 from t.ints.symm.trans (t0.keeps keep).ints]
      exact rk_at v hv n0 t0
  · obtain ⟨ep, he⟩ := PyProof.Rows.sortedAll_at s.heap (ts.map Value.ref) out.toArray
    have pm := sb.perm
    obtain ⟨ts', rfl, pt⟩ : ∃ ts' : List Addr, out = ts'.map Value.ref ∧ ts'.Perm ts := by
      have back : ∀ v ∈ out, ∃ t, v = Value.ref t := fun v hv => by
        obtain ⟨t, _, e⟩ := List.mem_map.mp (pm.mem_iff.mp hv)
        exact ⟨t, e.symm⟩
      have g : ∀ l : List Value, (∀ v ∈ l, ∃ t, v = Value.ref t) → ∃ m : List Addr, l = m.map Value.ref := by
        intro l
        induction l with
        | nil => intro _; exact ⟨[], rfl⟩
        | cons v r ih =>
          intro hv
          obtain ⟨t, rfl⟩ := hv v List.mem_cons_self
          obtain ⟨m, rfl⟩ := ih fun z hz => hv z (List.mem_cons_of_mem _ hz)
          exact ⟨t :: m, rfl⟩
      obtain ⟨m, rfl⟩ := g out back
      let f : Value → Addr := fun v => match v with | .ref t => t | _ => 0
      have q2 := pm.map f
      rw [List.map_map, List.map_map] at q2
      have e1 : (f ∘ Value.ref) = id := by funext z; rfl
      rw [e1, List.map_id, List.map_id] at q2
      exact ⟨m, rfl, q2⟩
    refine ⟨.ref (s.heap.objs.size + 1), _, I.laid (t' := s.toks) (o := .lst (ts'.map V.ref)) (fun _ _ => PyProof.Rows.sortedAll_old) (Nat.le_succ _) ⟨?_, ts'.map Value.ref, ep, refs_vals ts', he⟩, rfl, q ts' _ pt ?_ (I.hok.fresh (Nat.le_succ _))⟩
    · rw [List.length_map, pt.length_eq]
      rw [List.length_map] at hz
      exact hz
    · have so2 := List.pairwise_map.mp so
      refine List.Pairwise.imp_of_mem (fun {x y} hx hy h => ?_) so2
      have h2 := of_decide_eq_false h
      unfold rk at h2
      rw [(tup x (pt.mem_iff.mp hx)).ints, (tup y (pt.mem_iff.mp hy)).ints] at h2
      omega
end Tt

set_option Elab.async false
set_option linter.all false
set_option maxRecDepth 100000
set_option maxHeartbeats 4000000
/-! the law's own call: tables of code objects tracked, and no repr under way around it -/
namespace Lg
open PySem PySem.Spec PyProof.Rows L2
/-- the def's body, run where A stands -/
theorem run_at {P : Program} {w : World} {K : PySem.W.Frag} {mg : Str → Option Value} {base : Heap} {k : Nat} {f : Addr} {x qual : Str} {st : Stmt} {fd : FuncData} {N ps : List Str} {A : Around} {outer : List Env} {s : Shared} {H : Hp} {args : Args} {us : List Value} {vs : List V} {Q : VK} {E : XK}
    (F : Fun K x qual st f fd) (S : FnScope N ps (defScope st)) (hr : Room (k + 1) A) (e0 : Env0 P w K mg base A outer s H) (hb : BindsTo s fd args (ps.zip us)) (r : Vals vs us) (hl : vs.length = ps.length)
    (body : ∀ cdv : Value, Room k (A.deeper (envOfC qual (defScope st) s.heap.objs.size f cdv)) → ∃ t, PSs (cxOf CX0 P w K mg base N qual (defScope st) f cdv A outer s H E).nox (defBody st) t ∧ t { nx := fun _ H' => Q .non H', rt := Q } (start N vs) H) :
    codeAny (model P w) A (.call (.ref f) args) (CR CX0 outer P w H s Q E) s := by
  obtain ⟨oc, od, kV, doc, pm, an, cdv, ct, osl, rfl, lk, hcd⟩ := F.ex
  have old : ∀ b o, base.get? b = some o → s.heap.get? b = some o := fun b o e => (e0.bs b o e).1
  have KX := e0.mod.kin.keeps old
  have lim := e0.mod.nolimit.keeps old
  obtain ⟨t, pt, ht⟩ := body cdv (hr.deeper _)
  refine codeAny_call_function hr.depth (KX _ _ lk) rfl S.co S.gen rfl (PySem.W.codeRec_of KX hcd) (hb _ _ _ _ (wpAny_newFunctionEnv_cells S.kind (fun y hy => ?_) fun env he s1 ic => ?_))
  · rcases S.par y.1 (List.of_mem_zip (show (y.1, y.2) ∈ ps.zip us from hy)).1 with z | z
    · exact .inl z
    · exact .inr ⟨z, PySem.W.cellsFrom_some _ _ _ (.inl z)⟩
  · subst he
    refine ⟨lim.keeps ic.toInCall.keep, codeAny_func (wpAny_mono (pt.nox.run [] s1 (start N vs) H _ (inv_start S hr.hd e0 hl r ic) ht) (fun fl s' q => ?_) fun _ _ q => q)⟩
    cases fl with
    | ret u => obtain ⟨v, σ', H', J, rv, q⟩ := q; exact ⟨v, H', J.os, J.bare, J.base, J.hok, rv, q⟩
    | next => obtain ⟨σ', H', J, q⟩ := q; exact ⟨.non, H', J.os, J.bare, J.base, J.hok, rfl, q⟩
    | brk => obtain ⟨_, _, _, q⟩ := q; exact q.elim
    | cont => obtain ⟨_, _, _, q⟩ := q; exact q.elim
/-- the abstract heap at the law's call: the tables, and the script where the top didn't write it -/
def H0 (K : PySem.W.Frag) (T : List Addr) (a : Addr) (o : Obj) (xs : List V) : Hp := fun b => if b ∈ T then some (.tbl #[]) else if b = a ∧ K.lookup a = none then some (.frz o (.lst xs)) else none
theorem H0_three (K : PySem.W.Frag) (T : List Addr) (a : Addr) (o : Obj) (xs : List V) (b : Addr) : (b ∈ T ∧ H0 K T a o xs b = some (.tbl #[])) ∨ (b = a ∧ K.lookup a = none ∧ H0 K T a o xs b = some (.frz o (.lst xs))) ∨ (H0 K T a o xs b = none ∧ b ∉ T) := by
  unfold H0
  by_cases h : b ∈ T
  · exact .inl ⟨h, if_pos h⟩
  · by_cases h2 : b = a ∧ K.lookup a = none
    · exact .inr (.inl ⟨h2.1, h2.2, by rw [if_neg h, if_pos h2]⟩)
    · exact .inr (.inr ⟨by rw [if_neg h, if_neg h2], h⟩)
theorem law_at {P : Program} {w : World} {K : PySem.W.Frag} {mg mb : Str → Option Value} {k : Nat} {fa a : Addr} {cs : List (Addr × Addr)} {x qual : Str} {st : Stmt} {fd : FuncData} {N : List Str} {par : Str} {s : Shared} {vs : List Value} {ns : List Int}
    (KX : K.In s.heap) (hns : s.heap.Ns mainGlobals mg) (hbl : s.heap.Ns builtinsNs mb) (hbb : ∀ x : Str, x ≠ "__name__" → mb x = bootBuiltins x) (hlim : s.heap.NoLimit) (hg : s.gens = #[])
    (hT : ∀ p ∈ cs, s.heap.get? p.2 = some { cls := .none, data := .fields #[] }) (nT : ∀ p ∈ cs, K.lookup p.2 = none) (hC : ∀ p ∈ cs, PySem.W.CodeHd s.heap p.1 p.2)
    (hbm : ∃ (bm : Addr) (ob : Obj), mg "__builtins__" = some (.ref bm) ∧ bm ≠ builtinsNs ∧ s.heap.get? bm = some ob ∧ ob.cls = .type "module" ∧ ob.dict = some builtinsNs ∧ ob.data = .plain)
    (ha : s.heap.get? a = some { cls := .type "list", data := .seq vs.toArray }) (hi : IntsAre vs ns) (hlen : ns.length ≤ sizeLine) (hr : Room (k + 1) callerA)
    (F : Fun K x qual st fa fd) (S : FnScope N [par] (defScope st)) (hb : ∀ (s : Shared) (u : Value), BindsTo s fd ⟨[u], []⟩ [(par, u)])
    (body : ∀ (base : Heap) (H : Hp) (cdv : Value), K.In base → base.Ns mainGlobals mg → (∀ p ∈ cs, GxR.TabB base mg p.1 p.2) → (∀ p ∈ cs, H p.2 = some (.tbl #[])) → SqL K H a (ns.map V.int) → Room k (callerA.deeper (envOfC qual (defScope st) s.heap.objs.size fa cdv)) →
      ∃ t, PSs (cxOf CX0 P w K mg base N qual (defScope st) fa cdv callerA [] s H (fun _ _ _ => False)).nox (defBody st) t ∧ t { nx := fun _ _ => False, rt := fun v _ => v = .bl true } (start N [.ref a]) H) :
    codeAny (model P w) callerA (.call (.ref fa) ⟨[.ref a], []⟩) (fun r s' => r = .ok (.ret (.bool true)) ∧ OldK s.heap s'.heap ∧ s'.os = s.os ∧ AllBare s'.gens) s := by
  have rv := vals_ints hi
  have lv := hi.length
  generalize hso : ({ cls := .type "list", data := .seq vs.toArray } : Obj) = so at ha
  have inT : ∀ b, b ∈ cs.map (·.2) → s.heap.get? b = some { cls := .none, data := .fields #[] } ∧ K.lookup b = none := fun b h => by
    obtain ⟨p, hp, rfl⟩ := List.mem_map.mp h
    exact ⟨hT p hp, nT p hp⟩
  generalize hH : H0 K (cs.map (·.2)) a so (ns.map V.int) = H
  have three := H0_three K (cs.map (·.2)) a so (ns.map V.int)
  rw [hH] at three
  -- an object of another kind isn't tracked
  have clean : ∀ b o, s.heap.get? b = some o → o.data ≠ .fields #[] → (∀ v n, o.data ≠ .seq v n) → H b = none := fun b o e h1 h2 => by
    rcases three b with ⟨z, _⟩ | ⟨z, _, _⟩ | ⟨z, _⟩
    · rw [(inT b z).1] at e; cases e; exact absurd rfl h1
    · rw [z, ha, ← hso] at e; cases e; exact absurd rfl (h2 _ _)
    · exact z
  have low : ∀ b o, s.heap.get? b = some o → o.data ≠ .fields #[] → (∀ v n, o.data ≠ .seq v n) → (hidT s.heap H).get? b = some o := fun b o e h1 h2 => hidT_get e (clean b o e h1 h2)
  have lowNs : ∀ b m, s.heap.Ns b m → (hidT s.heap H).Ns b m := fun b m ⟨o, es, ep, e, d, q⟩ => ⟨o, es, ep, low b o e (by rw [d]; exact fun z => nomatch z) (by rw [d]; exact fun _ _ z => nomatch z), d, q⟩
  have kb : K.In (hidT s.heap H) := fun b o e => hidT_get (KX b o e) (by
    rcases three b with ⟨z, _⟩ | ⟨z, q, _⟩ | ⟨z, _⟩
    · rw [(inT b z).2] at e; cases e
    · rw [z, q] at e; cases e
    · exact z)
  have hok : HOk P w H s.heap := fun b u e => by
    rcases three b with ⟨z, q⟩ | ⟨z, _, q⟩ | ⟨q, _⟩
    · rw [e] at q; cases q; exact (inT b z).1
    · rw [e] at q; cases q; rw [z]; exact ⟨ha, by rw [List.length_map]; exact hlen, vs, 0, rv, by rw [ha, ← hso]⟩
    · rw [e] at q; cases q
  have tb : ∀ p ∈ cs, GxR.TabB (hidT s.heap H) mg p.1 p.2 := fun p hp => by
    refine ⟨?_, ?_, fun z => ?_⟩
    · obtain ⟨o, us, fl, t1, fg, t2, b1, tx, t3, e1, e2, e3, e4, rest⟩ := hC p hp
      exact ⟨o, us, fl, t1, fg, t2, b1, tx, t3, low _ _ e1 (by rw [e3]; intro z; cases z; simp at e4) (by rw [e3]; exact fun _ _ z => nomatch z), e2, e3, e4, rest⟩
    · obtain ⟨bm, ob, m1, m2, m3, m4, m5, m6⟩ := hbm
      refine ⟨bm, ob, m1, m2, fun z => ?_, fun z => ?_, low _ _ m3 (by rw [m6]; exact fun z => nomatch z) (by rw [m6]; exact fun _ _ z => nomatch z), m4, m5, m6⟩
      · obtain ⟨o, es, ep, e, d, _⟩ := hns
        rw [z, e] at m3; cases m3; rw [d] at m6; cases m6
      · rw [z, hT p hp] at m3; cases m3; cases m6
    · obtain ⟨o, es, ep, e, d, _⟩ := hns
      rw [z, hT p hp] at e; cases e; cases d
  have tabH : ∀ p ∈ cs, H p.2 = some (.tbl #[]) := fun p hp => by
    have hm : p.2 ∈ cs.map (·.2) := List.mem_map.mpr ⟨p, hp, rfl⟩
    rcases three p.2 with ⟨_, q⟩ | ⟨z, _, _⟩ | ⟨_, q⟩
    · exact q
    · have e := (inT _ hm).1
      rw [z, ha, ← hso] at e; cases e
    · exact absurd hm q
  have hS : SqL K H a (ns.map V.int) := by
    rcases three a with ⟨z, _⟩ | ⟨_, _, q⟩ | ⟨q, nt⟩
    · have e := (inT a z).1
      rw [ha, ← hso] at e; cases e
    · exact .inl (.inr ⟨so, q⟩)
    · cases e : K.lookup a with
      | none => rw [← hH] at q; unfold H0 at q; rw [if_neg nt, if_pos ⟨rfl, e⟩] at q; cases q
      | some o =>
        have e2 := KX a o e
        rw [ha, ← hso] at e2; cases e2
        exact .inr ⟨_, vs.toArray, _, e, rfl, rfl, rfl, by rw [List.size_toArray, lv]; exact hlen, by simpa using rv⟩
  have e0 : Env0 P w K mg (hidT s.heap H) callerA [] s H := ⟨rfl, ⟨kb, lowNs _ _ hns, ⟨mb, lowNs _ _ hbl, hbb⟩, let ⟨mc, q1, q2⟩ := hlim; ⟨mc, lowNs _ _ q1, q2⟩⟩, fun b o e => of_hidT e, Nat.le_of_eq (hidT_size _ _), trivial, (fun b z => nomatch z), hok, .of_eq hg⟩
  refine codeAny_mono (run_at (vs := [.ref a]) (us := [.ref a]) (Q := fun v _ => v = .bl true) (E := fun _ _ _ => False) F S hr e0 (hb s (.ref a)) (.cons rfl .nil) rfl fun cdv hrm => ?_) fun r s' h => ?_
  · obtain ⟨t, p1, p2⟩ := body _ H cdv kb (lowNs _ _ hns) tb tabH hS hrm
    refine ⟨t, p1, ?_⟩
    have e : (fun (_ : L2.St) (H' : Hp) => (fun (v : V) (_ : Hp) => v = V.bl true) V.non H') = fun _ _ => False := by
      funext _ _
      exact propext ⟨(fun z => nomatch z), fun z => z.elim⟩
    rw [e]
    exact p2
  · match r, h with
    | .ok (.ret u), h =>
      obtain ⟨v, H', os, bare, un, hok', r', q⟩ := h
      obtain rfl : v = .bl true := q
      obtain rfl : u = Value.bool true := r'
      have grown : ∀ p ∈ cs, ∃ more : Array Value, s'.heap.get? p.2 = some { cls := .none, data := .fields more } := fun p hp => by
        obtain ⟨more, z⟩ := un.tbls p.2 #[] (tabH p hp)
        exact ⟨_, hok' p.2 _ z⟩
      have kept : ∀ b o, b ∉ cs.map (·.2) → s.heap.get? b = some o → s'.heap.get? b = some o := fun b o nb e => by
        rcases three b with ⟨z, _⟩ | ⟨z, _, q⟩ | ⟨q, _⟩
        · exact absurd z nb
        · have z2 := hok' b _ (un.frzs b so _ q)
          rw [z, ha] at e
          cases e
          exact z2.1
        · exact un.keep b o e q (by intro z; cases z) (by intro z; cases z)
      refine ⟨rfl, ⟨fun b o e => ?_, fun b o e => ?_⟩, os, bare⟩
      · by_cases hm : b ∈ cs.map (·.2)
        · obtain ⟨p, hp, rfl⟩ := List.mem_map.mp hm
          obtain ⟨more, z⟩ := grown p hp
          rw [hT p hp] at e
          cases e
          exact .inr (.inl ⟨((hC p hp).tab (hT p hp)).isCodeTable, rfl, #[], more, rfl, by rw [Array.empty_append]; exact z⟩)
        · exact .inl (kept b o hm e)
      · by_cases hm : b ∈ cs.map (·.2)
        · obtain ⟨p, hp, rfl⟩ := List.mem_map.mp hm
          obtain ⟨more, z⟩ := grown p hp
          exact ⟨_, z⟩
        · exact ⟨o, kept b o hm e⟩
/-! ### repr of data -/
/-- repr(x), x data -/
theorem call_repr {X : Cx} (hg : X.A.guards = some []) (hu : X.A.units + 64 < cLine) : CallR X (.builtin "repr") (fun xs H Q => ∃ (a : Addr) (d : PyData), xs = [.ref a] ∧ Dp X.K H (.ref a) d ∧ d.showable = true ∧ d.hasDict = false ∧ d.depth < 63 ∧ d.shown.length ≤ sizeLine ∧ Q (.str d.shown) H) := by
  intro pins s σ H xs us Q I r h
  obtain ⟨a, d, rfl, hd, h1, h2, h3, h4, q⟩ := h
  obtain ⟨u, rfl, ru⟩ := vals1 r
  obtain ⟨as, rd⟩ := Dp.reads I d _ u hd ru
  cases (show u = Value.ref a from ru)
  refine repr_of_reads' rd h1 (fun e => by rw [h2] at e; cases e) hg (by omega) (fun _ _ e => e) (fun h' u tk hk => ?_) h4
  exact ⟨.str d.shown, H, I.kept (t' := _) hk, ⟨_, rfl⟩, q⟩
end Lg

set_option Elab.async false
set_option linter.all false
set_option maxRecDepth 100000
set_option maxHeartbeats 4000000
namespace Lg
open PySem PySem.Spec PyProof.Rows L2
/-- the code object and the table of the def named x -/
def TabOf (mg : Str → Option Value) (h : Heap) (x : Str) (p : Addr × Addr) : Prop :=
  ∃ (a : Addr) (o : Obj) (fd : FuncData), mg x = some (.ref a) ∧ h.get? a = some o ∧ o.data = .func fd ∧ fd.code = .ref p.1 ∧ PySem.W.CodeHd h p.1 p.2 ∧ h.get? p.2 = some { cls := .none, data := .fields #[] }
theorem TabOf.code {K : PySem.W.Frag} {mg : Str → Option Value} {h : Heap} {x : Str} {p : Addr × Addr} {f : Addr} {cl : Value} {dd : Option Addr} {fd : FuncData} {sl : Array (Option Value)} (T : TabOf mg h x p) (X : K.In h) (hf : mg x = some (.ref f)) (l : K.lookup f = some ⟨cl, dd, .func fd, sl⟩) : fd.code = .ref p.1 := by
  obtain ⟨a, o, fd', h1, h2, h3, h4, _⟩ := T
  rw [hf] at h1
  cases h1
  rw [X _ _ l] at h2
  cases h2
  cases h3
  exact h4
theorem no_tab {K : PySem.W.Frag} {h : Heap} {P : Addr} (X : K.In h) (hK : PySem.W.noTabs K = true) (e : h.get? P = some { cls := .none, data := .fields #[] }) : K.lookup P = none := by
  cases z : K.lookup P with
  | none => rfl
  | some o =>
    have z2 := X _ _ z
    rw [e] at z2
    cases z2
    exact absurd (show false = true from List.all_eq_true.mp hK (P, _) (PySem.W.mem_of_lookupK z)) Bool.false_ne_true
theorem walk_of {l : PySem.W.OpenLaw} {n k : Nat} {q : Program} {loose : List Str} {XP : (Str → Option Value) → Heap → Prop} {YP : World → Heap → Prop} {d : DefRec} {K : Params → PySem.W.Frag} {x qual par : Str} {st : Stmt} {N : List Str} (names : List Str)
    (hn : l.most = some n) (hn2 : n ≤ sizeLine) (hdf : d.params.defaults = []) (hr : Room (k + 1) callerA) (hrec : (names.all fun y => (recsOf q).any fun e => e.name == y) = true) (hK : ∀ w : World, PySem.W.noTabs (K w.params) = true) (hY : ∀ (w : World) (h : Heap), YP w h → (K w.params).In h) (S : FnScope N [par] (defScope st))
    (F : ∀ (w : World) (mg : Str → Option Value) (fa : Addr) (h : Heap) (tb : Str → Addr × Addr), (K w.params).In h → h.Ns mainGlobals mg → mg d.name = some (.ref fa) → (∀ y ∈ names, TabOf mg h y (tb y)) →
      ∃ fd : FuncData, Fun (K w.params) x qual st fa fd ∧ (∀ (s : Shared) (u : Value), BindsTo s fd ⟨[u], []⟩ [(par, u)]) ∧ ∀ (base : Heap) (H : Hp) (cdv : Value) (a : Addr) (ns : List Int) (s : Shared), (K w.params).In base → base.Ns mainGlobals mg → (∀ y ∈ names, GxR.TabB base mg (tb y).1 (tb y).2) → (∀ y ∈ names, H (tb y).2 = some (.tbl #[])) → ns.length ≤ n → (∀ z ∈ ns, Builtin.Int.intBits z ≤ 1048576) → SqL (K w.params) H a (ns.map V.int) → Room k (callerA.deeper (envOfC qual (defScope st) s.heap.objs.size fa cdv)) →
        ∃ t, PSs (cxOf CX0 l.prog w (K w.params) mg base N qual (defScope st) fa cdv callerA [] s H (fun _ _ _ => False)).nox (defBody st) t ∧ t { nx := fun _ _ => False, rt := fun v _ => v = .bl true } (start N [.ref a]) H) :
    PySem.W.WalkO q loose XP YP l.row.toRowW d [] (fun f vs => PySem.call f vs) := by
  refine Att.attach_callB hn hdf fun w s₀ s₁ mg mb fa o pm cd doc a vs ns G Y ho hd hcd hmg hobj hints hlen hbits hg => ?_
  have KX := hY w _ Y
  have ex : ∀ y : Str, ∃ p : Addr × Addr, y ∈ names → TabOf mg s₁.heap y p := fun y => by
    by_cases hy : y ∈ names
    · obtain ⟨dL, hm, hn1⟩ := List.any_eq_true.mp (List.all_eq_true.mp hrec y hy)
      have hn2 : dL.name = y := beq_iff_eq.mp hn1
      obtain ⟨a', o', fd', c', P', h1, h2, h3, h4, h5, h6⟩ := G.T.tab dL hm
      rw [hn2] at h1
      exact ⟨(c', P'), fun _ => ⟨a', o', fd', h1, h2, h3, h4, PySem.W.CodeHd.of h5 h6, h6.2⟩⟩
    · exact ⟨(0, 0), fun z => absurd z hy⟩
  have tbx : ∃ tb : Str → Addr × Addr, ∀ y ∈ names, TabOf mg s₁.heap y (tb y) := ⟨fun y => Classical.choose (ex y), fun y => Classical.choose_spec (ex y)⟩
  obtain ⟨tb, ht⟩ := tbx
  obtain ⟨fd, hF, hb, body⟩ := F w mg fa _ tb KX G.T.g hmg ht
  have cm : ∀ p ∈ names.map tb, ∃ y ∈ names, tb y = p := fun p hp => List.mem_map.mp hp
  refine law_at (cs := names.map tb) KX G.T.g G.T.b G.T.builtins G.T.nolimit hg (fun p hp => ?_) (fun p hp => ?_) (fun p hp => ?_) G.T.bmain hobj hints (Nat.le_trans hlen hn2) hr hF S hb fun base H cdv kb gn tB tH hS hrm => body base H cdv a ns s₁ kb gn (fun y hy => tB _ (List.mem_map_of_mem hy)) (fun y hy => tH _ (List.mem_map_of_mem hy)) hlen hbits hS hrm
  · obtain ⟨y, hy, rfl⟩ := cm p hp
    obtain ⟨_, _, _, _, _, _, _, _, z⟩ := ht y hy
    exact z
  · obtain ⟨y, hy, rfl⟩ := cm p hp
    obtain ⟨_, _, _, _, _, _, _, _, z⟩ := ht y hy
    exact no_tab KX (hK w) z
  · obtain ⟨y, hy, rfl⟩ := cm p hp
    obtain ⟨_, _, _, _, _, _, _, z, _⟩ := ht y hy
    exact z
end Lg

set_option Elab.async false
set_option linter.all false
set_option maxRecDepth 100000
set_option maxHeartbeats 4000000
/-! fillings, counts, clashes: the data -/
namespace Dt
open PySem PySem.Spec PyProof.Rows L2
def longer (hues : Nat) (f : List Int) : List (List Int) := (List.range hues).map fun (h : Nat) => f ++ [(h : Int)]
def fillL (hues : Nat) : Nat → List (List Int)
  | 0 => [[]]
  | n + 1 => (fillL hues n).flatMap (longer hues)
theorem fill_good {hues : Nat} : ∀ {n : Nat} {f : List Int}, f ∈ fillL hues n → f.length = n ∧ ∀ h ∈ f, 0 ≤ h ∧ h < (hues : Int)
  | 0, f, h => by
    cases List.mem_singleton.mp h
    exact ⟨rfl, fun _ z => nomatch z⟩
  | n + 1, f, h => by
    obtain ⟨g, hg, hf⟩ := List.mem_flatMap.mp h
    obtain ⟨k, hk, rfl⟩ := List.mem_map.mp hf
    obtain ⟨l, a⟩ := fill_good hg
    have hk := List.mem_range.mp hk
    refine ⟨by simp [l], fun z hz => ?_⟩
    rcases List.mem_append.mp hz with q | q
    · exact a z q
    · cases List.mem_singleton.mp q
      omega
theorem longer_len (hues : Nat) (f : List Int) : (longer hues f).length = hues := by simp [longer]
theorem flat_len {hues : Nat} : ∀ l : List (List Int), (l.flatMap (longer hues)).length = l.length * hues
  | [] => by simp
  | f :: r => by rw [List.flatMap_cons, List.length_append, longer_len, flat_len r, List.length_cons, Nat.succ_mul, Nat.add_comm]
theorem fill_len (hues : Nat) : ∀ n : Nat, (fillL hues n).length = hues ^ n
  | 0 => by simp [fillL]
  | n + 1 => by rw [fillL, flat_len, fill_len hues n, Nat.pow_succ]
theorem fill_goodF {many hues : Int} (m0 : 0 ≤ many) (h0 : 0 ≤ hues) {f : List Int} (h : f ∈ fillL hues.toNat many.toNat) : GoodF many hues f := by
  obtain ⟨a, b⟩ := fill_good h
  exact ⟨by omega, fun z hz => by have := b z hz; omega⟩
theorem pow_le_4096 {h n : Nat} (hh : h ≤ 4) (hn : n ≤ 6) : h ^ n ≤ 4096 := by
  have a : h ^ n ≤ 4 ^ n := Nat.pow_le_pow_left hh n
  have b : 4 ^ n ≤ 4 ^ 6 := Nat.pow_le_pow_right (by decide) hn
  have c : (4 : Nat) ^ 6 = 4096 := by decide
  omega
/-! ### counts -/
def bump (ns : List Int) (i : Nat) : List Int := ns.set i (ns.getD i 0 + 1)
def cnt0 (wds : List WD) : List Int := List.replicate (wds.length + 1) 0
def cntL (wds : List WD) (fss : List (List Int)) : List Int := fss.foldl (fun ns f => bump ns (broL f wds wds.length).length) (cnt0 wds)
theorem cnt_snoc (wds : List WD) (fss : List (List Int)) (f : List Int) : cntL wds (fss ++ [f]) = bump (cntL wds fss) (broL f wds wds.length).length := by
  unfold cntL
  rw [List.foldl_append]
  rfl
theorem bump_len (ns : List Int) (i : Nat) : (bump ns i).length = ns.length := by simp [bump]
theorem foldl_len (wds : List WD) : ∀ (fss : List (List Int)) (ns : List Int), (fss.foldl (fun ns f => bump ns (broL f wds wds.length).length) ns).length = ns.length
  | [], _ => rfl
  | f :: r, ns => by rw [List.foldl_cons, foldl_len wds r, bump_len]
theorem cnt_len (wds : List WD) (fss : List (List Int)) : (cntL wds fss).length = wds.length + 1 := by
  unfold cntL
  rw [foldl_len]
  simp [cnt0]
theorem bump_mem {ns : List Int} {i : Nat} {b : Int} (h : ∀ z ∈ ns, 0 ≤ z ∧ z ≤ b) (hb : 0 ≤ b) : ∀ z ∈ bump ns i, 0 ≤ z ∧ z ≤ b + 1 := fun z hz => by
  unfold bump at hz
  rcases List.mem_or_eq_of_mem_set hz with q | q
  · have := h z q; omega
  · subst q
    rw [List.getD_eq_getElem?_getD]
    cases e : ns[i]? with
    | none => simp; omega
    | some x => have := h x (List.mem_of_getElem? e); simp; omega
theorem foldl_mem (wds : List WD) : ∀ (fss : List (List Int)) (ns : List Int) (b : Int), 0 ≤ b → (∀ z ∈ ns, 0 ≤ z ∧ z ≤ b) → ∀ z ∈ fss.foldl (fun ns f => bump ns (broL f wds wds.length).length) ns, 0 ≤ z ∧ z ≤ b + fss.length
  | [], _, b, _, h => fun z hz => by have := h z hz; simp; omega
  | f :: r, ns, b, hb, h => fun z hz => by
    have := foldl_mem wds r (bump ns (broL f wds wds.length).length) (b + 1) (by omega) (bump_mem h hb) z hz
    rw [List.length_cons]
    omega
theorem cnt_mem (wds : List WD) (fss : List (List Int)) : ∀ z ∈ cntL wds fss, 0 ≤ z ∧ z ≤ fss.length := fun z hz => by
  have := foldl_mem wds fss (cnt0 wds) 0 (by omega) (fun z hz => by
    have := List.eq_of_mem_replicate hz
    omega) z hz
  omega
theorem bump_eq {ns : List Int} {i : Nat} {x : Int} (h : ns[i]? = some x) : bump ns i = ns.set i (x + 1) := by
  unfold bump
  rw [List.getD_eq_getElem?_getD, h]
  rfl
/-! ### clashes -/
def clB (a b : WD) : Bool := a.1.any fun p => decide (p ∈ b.1)
theorem clB_comm (a b : WD) : clB a b = clB b a := by
  rw [Bool.eq_iff_iff]
  unfold clB
  simp only [List.any_eq_true, decide_eq_true_eq]
  exact ⟨fun ⟨x, h1, h2⟩ => ⟨x, h2, h1⟩, fun ⟨x, h1, h2⟩ => ⟨x, h2, h1⟩⟩
def clAt (wds : List WD) (a : WD) (k : Nat) : Bool := match wds[k]? with
  | some wd => clB a wd
  | none => false
def clsL (wds : List WD) (a : WD) (i : Nat) : List Int := ((List.range i).filter (clAt wds a)).map fun (k : Nat) => (k : Int)
theorem clAt_of {wds : List WD} {a wd : WD} {k : Nat} (h : wds[k]? = some wd) : clAt wds a k = clB a wd := by
  unfold clAt
  rw [h]
theorem clsL_yes {wds : List WD} {a : WD} {i : Nat} (h : clAt wds a i = true) : clsL wds a (i + 1) = clsL wds a i ++ [(i : Int)] := by
  unfold clsL
  rw [List.range_succ, List.filter_append, List.map_append]
  simp [h]
theorem clsL_no {wds : List WD} {a : WD} {i : Nat} (h : clAt wds a i = false) : clsL wds a (i + 1) = clsL wds a i := by
  unfold clsL
  rw [List.range_succ, List.filter_append, List.map_append]
  simp [h]
theorem clsL_len (wds : List WD) (a : WD) (i : Nat) : (clsL wds a i).length ≤ i := by
  unfold clsL
  rw [List.length_map]
  have q := List.length_filter_le (clAt wds a) (List.range i)
  rw [List.length_range] at q
  exact q
theorem clsL_mem {wds : List WD} {a : WD} {i : Nat} {z : Int} (h : z ∈ clsL wds a i) : 0 ≤ z ∧ z < i := by
  unfold clsL at h
  obtain ⟨k, hk, rfl⟩ := List.mem_map.mp h
  have := List.mem_range.mp (List.mem_filter.mp hk).1
  omega
def clsAll (wds : List WD) : List (List Int) := wds.map fun wd => clsL wds wd wds.length
/-! ### fine data -/
theorem short_int (m : Nat) (h : m < 10 ^ 10) : PyData.intsShort 13 (.int (m : Int)) = true := by
  have e := (Nat.length_repr_le_iff (n := m) (by decide : 0 < 10)).mpr h
  show decide ((Str.ofString (Nat.repr m)).length ≤ 13) = true
  rw [decide_eq_true_eq, Str.ofString_eq_toList]
  have z : (Str.mk ((Nat.repr m).toList.map Char.toNat).toArray).length = (Nat.repr m).length := by
    show ((Nat.repr m).toList.map Char.toNat).toArray.size = _
    rw [List.size_toArray, List.length_map, String.length_toList]
  omega
theorem fine_intM {i : Int} (h0 : 0 ≤ i) (h1 : i < 5000) : Fine (.int i) 1 14 := by
  obtain ⟨n, rfl⟩ : ∃ n : Nat, i = n := ⟨i.toNat, by omega⟩
  have hn : n < 5000 := by omega
  have hl : n.log2 ≤ 12 := by
    by_cases e : n = 0
    · subst e; decide
    · have := (Nat.log2_lt e).mpr (show n < 2 ^ 13 by omega)
      omega
  refine ⟨rfl, by simp [PyData.depth], ?_, ?_, rfl, short_int n (by omega)⟩
  · simp only [PyData.weight]
    split
    · omega
    · have e : ((n : Int)).natAbs = n := by omega
      rw [e]
      omega
  · simp only [PyData.showable]
    have e : ((n : Int)).natAbs = n := by omega
    rw [e]
    exact decide_eq_true (by omega)
theorem fine_ints {ns : List Int} (h : ∀ z ∈ ns, 0 ≤ z ∧ z < 5000) : Fine (.list (ns.map .int)) 2 (ns.length * 15) :=
  (Fine.list (fineAll_map ns fun z hz => fine_intM (h z hz).1 (h z hz).2)).mono (by omega) (by omega)
def listsD (ls : List (List Int)) : PyData := .list (ls.map fun l => .list (l.map .int))
theorem fine_lists {ls : List (List Int)} (hl : ls.length ≤ 300) (h : ∀ l ∈ ls, l.length ≤ 20 ∧ ∀ z ∈ l, 0 ≤ z ∧ z < 5000) : Fine (listsD ls) 3 100000 := by
  refine (Fine.list (fineAll_map (n := 2) (w := 300) ls fun l hl => (fine_ints (h l hl).2).mono (Nat.le_refl _) (by have := (h l hl).1; omega))).mono (by omega) (by omega)
end Dt

set_option Elab.async false
set_option linter.all false
set_option maxRecDepth 100000
set_option maxHeartbeats 4000000
/-! elements of generator expressions: x in f[0] -/
namespace Gv
open PySem PySem.Spec PyProof.Rows L2
variable {X : Cx} {pins : List (Addr × Obj)} {σ : L2.St}
theorem reads_ints (h : Heap) : ∀ (ns : List Int) (us : List Value), Vals (ns.map V.int) us → ∃ as, ReadsAll h us (ns.map PyData.int) as
  | [], _, r => by cases r; exact ⟨_, .nil⟩
  | n :: q, _, r => by
    cases r with
    | cons r1 r2 =>
      obtain ⟨as, z⟩ := reads_ints h q _ r2
      obtain ⟨t, rfl⟩ := r1
      exact ⟨_, .cons (.int n t) z⟩
theorem canAll_ints : ∀ ns : List Int, PyData.canLayAll0 (ns.map PyData.int) = true
  | [] => rfl
  | n :: q => by simp only [List.map_cons, PyData.canLayAll0, PyData.canLay0, canAll_ints q, Bool.and_self]
theorem any_ints (n : Int) : ∀ ns : List Int, ((ns.map PyData.int).any fun y => PyData.eqv y (.int n)) = decide (n ∈ ns)
  | [] => by simp
  | m :: q => by
    rw [List.map_cons, List.any_cons, any_ints n q]
    by_cases e : m = n
    · subst e; simp [PyData.eqv]
    · have e2 : ¬ n = m := fun z => e z.symm
      simp [PyData.eqv, e, e2]
theorem elt_in0 {f x : Str} {scope : Scope} {P fa pa : Addr} {H1 : Hp} {xs ys zs : List V} {ns : List Int} {j jj : Nat} {p1 p2 p3 p4 p5 : Pos} (hk : scope.kind = .function) (hx : scope.names.lookup x = some .local) (hf : scope.names.lookup f = some .free)
    (hcl : (cloFrom X.env.cells scope.names []).lookup f = some ((X.env.cells.lookup f).getD 0)) (hj : X.N[j]? = some f) (hkf : X.env.kindOf f = some .cell) (hσ : σ[j]? = some (some (.ref fa))) (hq : SqT X.K H1 fa (.ref pa :: zs)) (hp : SqT X.K H1 pa (ns.map V.int)) (hT : GxR.TabG H1 P) (hu : X.A.units + 64 < cLine)
    (hv : ∀ (i : Nat) x0, xs[i]? = some x0 → ∃ (n : Int), x0 = .int n ∧ ys[i]? = some (.bl (decide (n ∈ ns)))) (hdf : (f == ("__debug__" : Str)) = false := by decide) (hdx : (x == ("__debug__" : Str)) = false := by decide) (hcf : (f == ("__classdict__" : Str)) = false := by decide) :
    EltV X pins σ scope x (.Compare (.Name x p1) [.In] [.Subscript (.Name f p2) (.Constant (.int 0) jj p3) p4] p5) P H1 xs ys := by
  intro s1 t C code bi A' E' i x0 u m I hA hU hx0 ru hn hm hkp
  obtain ⟨n, rfl, hy⟩ := hv i x0 hx0
  obtain ⟨tk, rfl⟩ := (show ∃ t, u = Value.int n t from ru)
  obtain ⟨ps, hP, _⟩ := hT
  have tabS : s1.heap.get? P = some { cls := .none, data := .fields ps } := I.hok P _ hP
  obtain ⟨m1, _, hl⟩ := I.loc
  obtain ⟨uf, rf, lk⟩ := hl j f _ hj hσ (.inr (.inl hkf))
  cases (show uf = Value.ref fa from rf)
  obtain ⟨c, hc, ic⟩ : ∃ c, X.env.cells.lookup f = some c ∧ s1.heap.IsCell c (some (.ref fa)) := by
    rcases lk with ⟨z, _⟩ | ⟨_, c, hc, ic⟩
    · rw [hkf] at z; cases z
    · exact ⟨c, hc, ic⟩
  have ic2 : t.heap.IsCell c (some (.ref fa)) := by
    obtain ⟨o, ho, hd⟩ := ic
    refine ⟨o, hkp c o (fun z => ?_) ho, hd⟩
    rw [z, tabS] at ho
    cases ho
    cases hd
  have tup2 : ∀ {a : Addr} {its : Array Value}, IsTup s1.heap a its → IsTup t.heap a its := fun {a its} pl => by
    obtain ⟨o, ho, hcl', nn, hd⟩ := pl
    refine ⟨o, hkp a o (fun z => ?_) ho, hcl', nn, hd⟩
    rw [z, tabS] at ho
    cases ho
    cases hd
  obtain ⟨its, rv, pl, hz⟩ := I.tuple hq
  have pl2 := tup2 pl
  obtain ⟨its2, rv2, plb, hz2⟩ := I.tuple hp
  have plb2 := tup2 plb
  have clf : (genEnv scope (cloFrom X.env.cells scope.names []) C code bi X.env).cells.lookup f = some c := by
    show (cloFrom X.env.cells scope.names []).lookup f = some c
    rw [hcl, hc]
    rfl
  have hat0 : atI (.ref pa :: zs) 0 = some (.ref pa) := atI_nat (j := 0) rfl
  obtain ⟨j2, h1, h2, h3, h4, h5⟩ := atI_get hat0
  obtain ⟨wv, ew, rw'⟩ := rv.get h2
  cases (show wv = Value.ref pa from rw')
  have hlen := rv.length
  refine wpAny_Compare1 ?_
  refine wpAny_Name (wpAny_loadName_local hk hx hn hm ?_) hdx
  refine Subscript_ (wpAny_Name (wpAny_loadName_free hk hf clf ic2 ?_ hcf) hdf)
  refine wpAny_Constant_int ?_
  refine subscriptTail_builtinR (x := Value.ref pa) (show IsTup { t with toks := t.toks + 1 }.heap fa its.toArray from pl2).typeIs slot_tuple_getitem.lookup
    (getItem_tuple (j := j2) (show IsTup { t with toks := t.toks + 1 }.heap fa its.toArray from pl2) (by decide) (by decide) (by rw [List.size_toArray, ← hlen]; exact h1) (by simpa using ew) ⟨rfl, ?_⟩) (by rfl)
  obtain ⟨as, ra⟩ := reads_ints t.heap ns its2 rv2
  obtain ⟨o, ho, hcl', nn, hd⟩ := plb2
  refine PySem.SeqAt.in_tuple_reads (xs := ns.map PyData.int) (d := .int n) (.tuple (h := t.heap) ho hcl' hd (by simpa using ra)) (.int n tk) (canAll_ints ns) rfl ?_ ⟨⟨_, hy, ?_⟩, GxR.keeps_tok _ _⟩
  · have : min (PyData.depthAll (ns.map PyData.int)) (PyData.int n).depth ≤ 1 := Nat.le_trans (Nat.min_le_right _ _) (by simp [PyData.depth])
    omega
  · rw [any_ints]
    rfl
end Gv

set_option Elab.async false
set_option linter.all false
set_option maxRecDepth 100000
set_option maxHeartbeats 4000000
/-! comprehensions with two fors: the loops; an item of a list, by values -/
namespace Cp
open PySem PySem.Spec PyProof.Rows L2
theorem lc2_list {K : PySem.W.Frag} {a : Addr} {xs : List V} {g : TG} {tt : TT} {B : L2.St → Hp → (Hp → Prop) → Prop} {vs : List Nat} {σ : L2.St} {H1 : Hp} {D : Addr} {Qd : Hp → Prop} (Pv : Nat → Hp → Prop) (h0 : Pv 0 (upd H1 D (.lst []))) (hl : ∀ i H, i ≤ xs.length → Pv i H → SqL K H a xs)
    (hs : ∀ i x H, xs[i]? = some x → Pv i H → g x (wipe σ vs) H fun σ2 H2 => wipe σ2 vs = wipe σ vs ∧ tt σ2 H2 fun b H3 => if b = true then B σ2 H3 (Pv (i + 1)) else Pv (i + 1) H3) (hd : ∀ H, Pv xs.length H → Qd H) :
    ∃ W : Nat → Nat → Hp → Prop, (∃ m, W 0 m (upd H1 D (.lst []))) ∧ ∀ i m H, W i m H →
      ((Itl K a).stop i H ∧ Qd H) ∨ ((Itl K a).go i H ∧ ∃ Nx : Hp → Prop, (∀ H', Nx H' → ∃ m', m' < m ∧ W (i + 1) m' H') ∧ ∀ x H', (Itl K a).yld i H x H' → g x (wipe σ vs) H' fun σ2 H2 => wipe σ2 vs = wipe σ vs ∧ tt σ2 H2 fun b H3 => if b = true then B σ2 H3 Nx else Nx H3) := by
  refine ⟨fun i m H => m = xs.length - i ∧ i ≤ xs.length ∧ Pv i H, ⟨xs.length, by simp, Nat.zero_le _, h0⟩, ?_⟩
  rintro i m H ⟨rfl, hi, p⟩
  have q := hl i H hi p
  by_cases hlt : i < xs.length
  · refine .inr ⟨⟨xs, xs[i], q, by simp [hlt]⟩, Pv (i + 1), fun H' p' => ⟨xs.length - (i + 1), by omega, rfl, hlt, p'⟩, fun x H' y => ?_⟩
    obtain ⟨e, y⟩ := y
    subst e
    exact hs i x _ (y xs q) p
  · have e : i = xs.length := by omega
    subst e
    exact .inl ⟨⟨xs, q, by simp⟩, hd H p⟩
theorem lcin_range {lo : Int} {n : Nat} {g : TG} {tt : TT} {te : TE} {vs : List Nat} {σ : L2.St} {H4 : Hp} {D : Addr} {Qd : Hp → Prop} (Pv : Nat → Hp → Prop) (h0 : Pv 0 H4)
    (hs : ∀ i H, i < n → Pv i H → g (.int (lo + i)) (wipe σ vs) H fun σ2 H2 => wipe σ2 vs = wipe σ vs ∧ tt σ2 H2 fun b H3 =>
      if b = true then te σ2 H3 fun y H4 => ∃ acc, H4 D = some (.lst acc) ∧ acc.length < sizeLine ∧ Pv (i + 1) (upd H4 D (.lst (acc ++ [y]))) else Pv (i + 1) H3) (hd : ∀ H, Pv n H → Qd H) :
    ∃ W : Nat → Nat → Hp → Prop, (∃ m, W 0 m H4) ∧ ∀ i m H, W i m H →
      ((Itr lo n).stop i H ∧ Qd H) ∨ ((Itr lo n).go i H ∧ ∃ Nx : Hp → Prop, (∀ H', Nx H' → ∃ m', m' < m ∧ W (i + 1) m' H') ∧ ∀ x H', (Itr lo n).yld i H x H' → g x (wipe σ vs) H' fun σ2 H2 => wipe σ2 vs = wipe σ vs ∧ tt σ2 H2 fun b H3 =>
        if b = true then te σ2 H3 fun y H4 => ∃ acc, H4 D = some (.lst acc) ∧ acc.length < sizeLine ∧ Nx (upd H4 D (.lst (acc ++ [y]))) else Nx H3) := by
  refine ⟨fun i m H => m = n - i ∧ i ≤ n ∧ Pv i H, ⟨n, by simp, Nat.zero_le _, h0⟩, ?_⟩
  rintro i m H ⟨rfl, hi, p⟩
  by_cases hlt : i < n
  · refine .inr ⟨hlt, Pv (i + 1), fun H' p' => ⟨n - (i + 1), by omega, rfl, hlt, p'⟩, fun x H' y => ?_⟩
    obtain ⟨e, y⟩ := y
    subst e y
    exact hs i _ hlt p
  · have e : i = n := by omega
    subst e
    exact .inl ⟨Nat.le_refl _, hd H p⟩
/-- xs[k], k from 0 on -/
def rIxN (K : PySem.W.Frag) : V → V → Hp → VK → Prop := fun x y H Q => ∃ (p : Addr) (xs : List V) (k : Nat) (v : V), x = .ref p ∧ y = .int k ∧ SqL K H p xs ∧ xs[k]? = some v ∧ Q v H
theorem pget_list {X : Cx} : PGet X (rIxN X.K) := by
  intro pins s σ H o i ov iv Q I ro ri h
  obtain ⟨p, xs, k, z, rfl, rfl, hq, he, q⟩ := h
  cases ro
  obtain ⟨t, rfl⟩ := ri
  obtain ⟨its, r, pl, hz⟩ := I.list hq
  obtain ⟨w, ew, rw'⟩ := r.get he
  have hl := r.length
  have hn := line63
  have hk := (List.getElem?_eq_some_iff.mp he).1
  exact wpAny_getItem_list pl.isList (by omega) (by omega) (by simpa using ew) ⟨z, H, I, rw', q⟩
end Cp

set_option Elab.async false
set_option linter.all false
set_option maxRecDepth 100000
set_option maxHeartbeats 4000000
/-! all(..) and any(..) of a generator expression: any source, any target, any element -/
namespace Gx
open PySem PySem.Spec PyProof.Rows L2 GenW
/-- the element's context: a frame of its own over the def's -/
abbrev gcx (X : Cx) (A : Around) (s : Shared) (H : Hp) (cenv : Env) (fp : List Addr) : Cx :=
  { X with A := A, s_0 := s, H_0 := H, env := cenv, outer := X.stack, stack := cenv :: X.stack, ex := fp, fn := fun _ => false, pn := [], xe := fun _ _ => False }
structure GenK (scope : Scope) : Prop where
  co : scope.isCoroutine = false
  cell : ∀ y ∈ scope.names, y.2 ≠ .cell
  dot : scope.names.lookup (".0" : Str) = some NameKind.local
/-- nothing but the generators' own table has turned -/
structure Kept (s s' : Shared) : Prop where
  os : s'.os = s.os
  bare : AllBare s'.gens
  keep : ∀ b o, s.heap.get? b = some o → s'.heap.get? b = some o
theorem Inv.keptS {X : Cx} {pins : List (Addr × Obj)} {σ : L2.St} {H : Hp} {s s' : Shared} (I : Inv X pins σ H s) (k : Kept s s') : Inv X pins σ H s' :=
  I.call' (ch := []) k.os (Un.kept k.keep) (I.hok.kept k.keep) k.bare fun b z => by simp at z
section
variable {X : Cx} {pins : List (Addr × Obj)} {σ : L2.St} {H : Hp} {s : Shared}
theorem gen_start {scope : Scope} {own : List (Str × Nat)} {fp : List Addr} {code : Value} {A : Around} {s' : Shared} {m : Str → Option Value} (I : Inv X pins σ H s) (ok : BlkOk X.N X.env.scope scope own) (S : GenK scope) (hN : X.N.Nodup) (hfp : ∀ b ∈ fp, FpOk X pins H b ∧ b < s.heap.objs.size)
    (hA : A.handled = none) (hfr : A.frames = some (genEnv scope (cloFrom X.env.cells scope.names []) s.heap.objs.size code builtinsNs X.env :: X.stack))
    (k : Kept s s') (hns : s'.heap.Ns s.heap.objs.size m) :
    Inv (gcx X A s H (genEnv scope (cloFrom X.env.cells scope.names []) s.heap.objs.size code builtinsNs X.env) fp) [] (wipe σ (own.map (·.2))) H s' := by
  have hfree : ∀ y ∈ scope.names, y.2 = .free → ∃ c, X.env.cells.lookup y.1 = some c := fun y hy e => by
    rcases ok.free y hy e with k | k
    · exact I.ok.has _ (.inl k)
    · exact I.ok.has _ (.inr k)
  generalize hcenv : genEnv scope (cloFrom X.env.cells scope.names []) s.heap.objs.size code builtinsNs X.env = cenv at hfr
  have hL : cenv.locals = s.heap.objs.size := by rw [← hcenv]; rfl
  have hcl : cenv.cells = cloFrom X.env.cells scope.names [] := by rw [← hcenv]; rfl
  have hsc : cenv.scope = scope := by rw [← hcenv]; rfl
  have mem : ∀ {y c}, cenv.cells.lookup y = some c → X.env.cells.lookup y = some c ∧ c < s.heap.objs.size := fun {y c} e => by
    rw [hcl] at e
    rcases cloFrom_mem (PySem.mem_of_lookup e) with hm | ⟨h1, rfl⟩
    · cases hm
    · obtain ⟨c, hc⟩ := hfree _ h1 rfl
      rw [hc]
      obtain ⟨w, z⟩ := I.cell _ _ hc
      exact ⟨rfl, z.lt⟩
  have look : ∀ {y}, scope.names.lookup y = some .free → ∃ c, cenv.cells.lookup y = some c ∧ X.env.cells.lookup y = some c := fun {y} hl => by
    have hy : (y, NameKind.free) ∈ scope.names := PySem.mem_of_lookup hl
    obtain ⟨c', e'⟩ := mem_lookup (cloFrom_has (cells := X.env.cells) (acc := []) hy)
    rw [← hcl] at e'
    exact ⟨c', e', (mem e').1⟩
  have okB : (gcx X A s H cenv fp).Ok := by
    refine ⟨I.ok.mod, by show cenv.scope.kind = _; rw [hsc]; exact ok.kind, by show cenv.globals = _; rw [← hcenv]; exact I.ok.glob, by show cenv.builtins = _; rw [← hcenv]; rfl, by show s.heap.objs.size ≤ cenv.locals; rw [hL]; exact Nat.le_refl _,
      fun y z c e1 e2 => I.ok.inj y z c (mem e1).1 (mem e2).1, fun y hy => ?_, (fun y c z e => nomatch z), fun _ => hA, hfr, .inr ⟨rfl, ?_⟩, fun b hb => ⟨?_, fun y c e z => ?_⟩, I.bs, Nat.le_trans I.ok.bsz I.sz, fun b o e hb => ?_, fun b hb z => ?_, I.stack, I.stkFree⟩
    · show ∃ c, cenv.cells.lookup y = some c
      rcases hy with hy | hy
      · have e : scope.names.lookup y = some .cell := by rw [← hsc]; exact hy
        exact absurd rfl (S.cell _ (PySem.mem_of_lookup e))
      · have e : scope.names.lookup y = some .free := by rw [← hsc]; exact hy
        obtain ⟨c, h1, _⟩ := look e
        exact ⟨c, h1⟩
    · show cenv.frame = some cenv.locals
      rw [← hcenv]
      rfl
    · show b ≠ cenv.locals
      rw [hL]; exact Nat.ne_of_lt (hfp b hb).2
    · exact (hfp b hb).1.2.2.2.2.1 y c (mem e).1 z
    · rcases (hfp b hb).1.2.2.2.1 with z | z
      · exact I.ok.noex b o e z
      · exact absurd (Nat.lt_of_lt_of_le (Heap.lt_size e) (Nat.le_trans I.ok.bsz z)) (Nat.lt_irrefl _)
    · rcases List.mem_cons.mp (I.stkSub b z) with z | z
      · exact (hfp b hb).1.2.1 z
      · exact (hfp b hb).1.2.2.1 z
  refine ⟨okB, k.os, k.bare, Un.kept k.keep, ⟨m, ?_, fun i y av e1 e2 e3 => ?_⟩, fun y c e => ?_, ?_, fun y c e => I.freeC y c (mem e).1, fun p hp => ?_, I.hok.kept k.keep, by rw [wipe_length]; exact I.len⟩
  · show Heap.Ns _ cenv.locals _
    rw [hL]
    exact hns
  · obtain ⟨e2, hne⟩ := wipe_some e2
    have hfr : scope.names.lookup y = some .free := by
      have key : ∀ k, scope.names.lookup y = some k → k = .local ∨ k = .cell ∨ k = .free → scope.names.lookup y = some .free := fun k e hk' => by
        have no : ¬ (k = .local ∨ k = .cell) := fun hh => by
          rcases ok.own _ (PySem.mem_of_lookup e) hh with e' | e'
          · obtain ⟨p, hp, hpy⟩ := List.mem_map.mp e'
            have e3 := ok.ix p hp
            have : p.1 = y := hpy
            rw [this] at e3
            exact hne (List.mem_map.mpr ⟨p, hp, nodup_ix hN e3 e1⟩)
          · exact e' (List.mem_of_getElem? e1)
        rcases hk' with rfl | rfl | rfl
        · exact absurd (.inl rfl) no
        · exact absurd (.inr rfl) no
        · exact e
      have e3 : Vis cenv.scope y := e3
      rw [hsc] at e3
      rcases e3 with e3 | e3 | e3
      · exact key _ e3 (.inl rfl)
      · exact key _ e3 (.inr (.inl rfl))
      · exact key _ e3 (.inr (.inr rfl))
    obtain ⟨m2, hn, hl⟩ := I.loc
    have hvis : Vis X.env.scope y := (ok.free _ (PySem.mem_of_lookup hfr) rfl).elim (fun k => .inr (.inl k)) (fun k => .inr (.inr k))
    obtain ⟨w, r, q⟩ := hl i y av e1 e2 hvis
    refine ⟨w, r, .inr ⟨.inr (by show cenv.scope.names.lookup y = _; rw [hsc]; exact hfr), ?_⟩⟩
    obtain ⟨c, h1, h2⟩ := look hfr
    rcases q with ⟨k, _⟩ | ⟨_, c', e', z⟩
    · have k : X.env.scope.names.lookup y = some .local := k
      rcases ok.free _ (PySem.mem_of_lookup hfr) rfl with k' | k' <;> rw [show X.env.scope.names.lookup y = _ from k'] at k <;> cases k
    · rw [h2] at e'; cases e'
      exact ⟨c, h1, z.keeps k.keep⟩
  · obtain ⟨w, z⟩ := I.cell y c (mem e).1
    exact ⟨w, z.keeps k.keep⟩
  · show H cenv.locals = none
    rw [hL]; exact I.hok.fresh (Nat.le_refl _)
  · exact absurd (show p ∈ ([] : List (Addr × Obj)) ++ [] from hp) (by simp)
end
end Gx

set_option Elab.async false
set_option linter.all false
set_option maxRecDepth 100000
set_option maxHeartbeats 4000000
namespace Gx
open PySem PySem.Spec PyProof.Rows L2 GenW
/-- the end of the walk -/
def RG (X : Cx) (pz : List (Addr × Obj)) (σ0 : L2.St) (QT : Hp → Prop) : GenEnd := fun _ _ r s₁ => ((r = .ok (.ret .none) ∨ r = .ok .next) ∧ ∃ H', Inv X pz σ0 H' s₁ ∧ QT H') ∨ ∃ e, r = .error e ∧ False
/-- a truth is handed out: by d it goes on -/
def YG (X : Cx) (pz : List (Addr × Obj)) (d : Bool) (QF : Hp → Prop) : Protocol := fun _ _ v s kap => ∃ (c : Bool) (σ' : L2.St) (H' : Hp), v = .bool c ∧ Inv X pz σ' H' s ∧ (if c = d then ∀ s', Kept s s' → kap (.send .none) s' else QF H')
/-- the source's turns, the target, the tests, the element -/
def Turns (J : It) (g : TG) (tt : TT) (te : TE) (vs : List Nat) (σ : L2.St) (d : Bool) (QT QF : Hp → Prop) (W : Nat → Nat → Hp → Prop) : Prop := ∀ i m H, W i m H →
  (J.stop i H ∧ QT H) ∨ (J.go i H ∧ ∃ Nx : Hp → Prop, (∀ H', Nx H' → ∃ m', m' < m ∧ W (i + 1) m' H') ∧ ∀ x H', J.yld i H x H' → g x (wipe σ vs) H' fun σ2 H2 => wipe σ2 vs = wipe σ vs ∧ tt σ2 H2 fun b H3 =>
    if b = true then te σ2 H3 fun y H4 => ∃ c, y = .bl c ∧ (if c = d then Nx H4 else QF H4) else Nx H3)
section
variable {X : Cx} {A B : Around} {s3 : Shared} {H3 : Hp} {cenv : Env} {fp : List Addr} {σ : L2.St}
theorem seg_loop {elt tg iter : Expr} {ifs : List Expr} {scope : Scope} {pos : Pos} {it : Addr} {J : It} {tn : Nat → Heap → Prop} {g : TG} {tt : TT} {te : TE} {vs : List Nat} {d : Bool} {QT QF : Hp → Prop} {W : Nat → Nat → Hp → Prop} {pz : List (Addr × Obj)}
    (T : Turn X.prog X.w X.K tg J fp it tn) (hc : X.calm = true) (hov : B.over (.compLoop (.GeneratorExp elt [⟨tg, iter, ifs, 0⟩] scope pos) 0 (.ref it) .none cenv) [] = A) (hco : cenv.scope.isCoroutine = false) (hpz : ∀ p ∈ pz, p.1 ∉ fp)
    (pg : PG (gcx X A s3 H3 cenv fp) tg g) (pt : PTs (gcx X A s3 H3 cenv fp) ifs tt) (pe : PE (gcx X A s3 H3 cenv fp) elt te) (turn : Turns J g tt te vs σ d QT QF W) :
    ∀ (m n i : Nat) (s₀ s : Shared) (H : Hp), m < n → Inv (gcx X A s3 H3 cenv fp) pz (wipe σ vs) H s → tn i s.heap → (∀ b ∈ fp, H b = none) → W i m H →
      Seg (model X.prog X.w) B (RG (gcx X A s3 H3 cenv fp) pz (wipe σ vs) QT) (YG (gcx X A s3 H3 cenv fp) pz d QF) n s₀
        (.compLoop (.GeneratorExp elt [⟨tg, iter, ifs, 0⟩] scope pos) 0 (.ref it) .none cenv)
        ((model X.prog X.w).den (.compLoop (.GeneratorExp elt [⟨tg, iter, ifs, 0⟩] scope pos) 0 (.ref it) .none cenv)) [] s := by
  have stat : ∀ {σ' : L2.St} {H' : Hp} {s' : Shared}, Inv (gcx X A s3 H3 cenv fp) pz σ' H' s' → (∀ b ∈ fp, H' b = none) → ∀ b ∈ fp, FpOk (gcx X A s3 H3 cenv fp) pz H' b := fun {σ' H' s'} I' hn b hb =>
    ⟨hn b hb, (I'.ok.exf b hb).1, I'.ok.exfs b hb, .inl hb, fun x c e => (I'.ok.exf b hb).2 x c e, fun p hp z => hpz p (by simpa using hp) (by rw [z]; exact hb)⟩
  intro m
  induction m using Nat.strongRecOn with
  | ind m ih =>
    intro n i s₀ s H hmn I st nf w
    show Seg _ B _ _ _ s₀ _ ((compTurn (.GeneratorExp elt [⟨tg, iter, ifs, 0⟩] scope pos) 0 (.ref it) .none cenv).onRaise (leaving cenv)) [] s
    rw [compTurn_gen, Sem.onRaise_eq_wrap]
    refine seg_bind_wrap (wpAny_standAt ?_)
    rcases turn i m H w with ⟨stop, qq⟩ | ⟨go, Nx, hNx, step⟩
    · refine seg_bind_wrap ?_
      rw [hov]
      refine wpAny_mono (T.done (gcx X A s3 H3 cenv fp) rfl rfl rfl hc i pz s _ H (fun _ _ => False) I (stat I nf) st stop) (fun r s6 hx => ?_) fun _ _ e => e.elim
      obtain ⟨rfl, I6⟩ := hx
      exact seg_end (.ok .next) (.inl ⟨.inr rfl, H, I6, qq⟩)
    · refine seg_bind_wrap ?_
      rw [hov]
      refine wpAny_mono (T.item (gcx X A s3 H3 cenv fp) rfl rfl rfl hc i pz s _ H (fun _ _ => False) I (stat I nf) st go) (fun r s6 hx => ?_) fun _ _ e => e.elim
      obtain ⟨u, rfl, h6⟩ := hx
      refine seg_bind_wrap ?_
      rw [hov]
      refine wpAny_mono h6 (fun _ s7 hx => ?_) fun _ _ e => e.elim
      obtain ⟨x, H7, I7, r7, y7, st7, n7⟩ := hx
      have I7' := I7.pinned (stat I7 n7) (T.obj _ _ st7)
      refine seg_bind_wrap ?_
      rw [hov]
      refine wpAny_mono (pg.run _ s7 _ H7 x u _ I7' r7 (step x H7 y7)) (fun _ s8 hx => ?_) fun _ _ e => e.elim
      obtain ⟨σ8, H8, I8, hw8, q8⟩ := hx
      refine seg_bind_wrap ?_
      rw [hov]
      refine wpAny_mono (pt.run _ s8 σ8 H8 _ I8 q8) (fun b s9 hx => ?_) fun _ _ e => e.elim
      obtain ⟨H9, I9, q9⟩ := hx
      -- the turn's end
      have fin : ∀ {s' : Shared} {H' : Hp} {m' : Nat}, Inv (gcx X A s3 H3 cenv fp) (pz ++ pinsAt fp s7.heap) σ8 H' s' → Inv (gcx X A s3 H3 cenv fp) pz (wipe σ vs) H' s' ∧ tn (i + 1) s'.heap ∧ ∀ b ∈ fp, H' b = none := fun {s' H' m'} I' => by
        have pin' : ∀ b ∈ fp, ∀ o, s7.heap.get? b = some o → s'.heap.get? b = some o ∧ H' b = none := fun b hb o e =>
          let z := I'.pin (b, o) (List.mem_append_right _ (List.mem_append_right _ (mem_pinsAt hb e)))
          ⟨z.1, z.2.1⟩
        have hl : (wipe σ vs).length = σ8.length := by rw [← hw8, wipe_length]
        refine ⟨(I'.unpinned (pins := pz)).weak hl (fun j v e => ?_), T.keep _ _ _ st7 fun b hb o e => (pin' b hb o e).1, fun b hb => ?_⟩
        · rw [← hw8] at e
          exact (wipe_some e).1
        · obtain ⟨o, e, _⟩ := T.obj _ _ st7 b hb
          exact (pin' b hb o e).2
      cases b with
      | false =>
        simp only [Bool.false_eq_true, if_false] at q9 ⊢
        obtain ⟨m', hm, w'⟩ := hNx H9 q9
        obtain ⟨f1, f2, f3⟩ := fin (m' := m') I9
        exact seg_again rfl (ih m' hm n (i + 1) s₀ _ H9 (by omega) f1 f2 f3 w')
      | true =>
        simp only [if_true] at q9 ⊢
        have hy : ∀ v, yieldOut cenv v = yieldValue v := fun v => by simp only [yieldOut, hco, Bool.false_eq_true, if_false]
        simp only [hy]
        rw [Sem.bind_eq_wrap', Sem.bind_eq_wrap', Sem.wrap_wrap, Sem.wrap_wrap]
        refine seg_wrap ?_
        rw [hov]
        refine wpAny_mono (pe.run _ s9 σ8 H9 _ I9 q9) (fun z s10 hx => ?_) fun _ _ e => e.elim
        obtain ⟨yv, H10, I10, r10, c, rfl, nx⟩ := hx
        cases (show z = Value.bool c from r10)
        obtain ⟨n, rfl⟩ : ∃ n', n = n' + 1 := ⟨n - 1, by omega⟩
        refine seg_at (seg_yield rfl rfl rfl ⟨c, σ8, H10, rfl, I10.unpinned, ?_⟩)
        by_cases hcd : c = d
        · rw [if_pos hcd] at nx ⊢
          intro s'' hk
          obtain ⟨m', hm, w'⟩ := hNx H10 nx
          obtain ⟨f1, f2, f3⟩ := fin (m' := m') (Inv.keptS I10 hk)
          exact seg_again rfl (ih m' hm n (i + 1) s'' s'' H10 (by omega) f1 f2 f3 w')
        · rw [if_neg hcd] at nx ⊢
          exact nx
theorem seg_start {elt tg iter : Expr} {ifs : List Expr} {scope : Scope} {pos : Pos} {it : Addr} {J : It} {tn : Nat → Heap → Prop} {R : GenEnd} {Y : Protocol} {n : Nat} {s₀ s : Shared}
    (T : Turn X.prog X.w X.K tg J fp it tn) (st : tn 0 s.heap)
    (loop : Seg (model X.prog X.w) B R Y n s₀ (.compLoop (.GeneratorExp elt [⟨tg, iter, ifs, 0⟩] scope pos) 0 (.ref it) .none cenv) ((model X.prog X.w).den (.compLoop (.GeneratorExp elt [⟨tg, iter, ifs, 0⟩] scope pos) 0 (.ref it) .none cenv)) [] s) :
    Seg (model X.prog X.w) B R Y n s₀ (.compStart (.GeneratorExp elt [⟨tg, iter, ifs, 0⟩] scope pos) 0 (.ref it) .none cenv) ((model X.prog X.w).den (.compStart (.GeneratorExp elt [⟨tg, iter, ifs, 0⟩] scope pos) 0 (.ref it) .none cenv)) [] s := by
  show Seg _ B _ _ _ s₀ _ ((compStart (.GeneratorExp elt [⟨tg, iter, ifs, 0⟩] scope pos) 0 (.ref it) .none cenv).onRaise (leaving cenv)) [] s
  unfold compStart
  rw [Sem.onRaise_eq_wrap]
  show Seg _ B _ _ _ s₀ _ ((ask >>= _).wrap _ _ _ _) [] s
  refine seg_bind_wrap (wpAny_askSetting ?_)
  split
  · exact seg_again rfl loop
  · first
      | exact seg_bind_wrap (wpAny_rule (seg_bind_wrap (wpAny_standAt (seg_bind_wrap (T.self _ 0 s _ _ st (seg_again rfl loop))))))
      | (refine seg_bind_wrap (wpAny_rule ?_); show Seg _ B _ _ _ s₀ _ ((standAt iter.pos >>= _).wrap _ _ _ _) [] s; exact seg_bind_wrap (wpAny_standAt (seg_bind_wrap (T.self _ 0 s _ _ st (seg_again rfl loop)))))
end
/-- the consumer: all's loop by d = true, any's by d = false -/
def loopId (d : Bool) : String := if d then "all.loop" else "any.loop"
theorem walk_loop {X : Cx} {pz : List (Addr × Obj)} {σ0 : L2.St} {QT QF : Hp → Prop} {A : Around} {a : Addr} {g : Nat} {go : Obj} (d : Bool) {R : Result → Shared → Prop} (hpz : (a, go) ∈ pz) (hgo : ∀ h : Heap, h.get? a = some go → h.IsGen a g)
    (hh : A.handled = none) (hd : A.depth < recursionLimit)
    (hT : ∀ H' s1 s', Inv X pz σ0 H' s1 → QT H' → Kept s1 s' → R (.ok (.ret (.bool d))) s') (hF : ∀ σ' H' s1 s', Inv X pz σ' H' s1 → QF H' → Kept s1 s' → R (.ok (.ret (.bool (!d)))) s') :
    ∀ (n : Nat) (s : Shared), s.heap.IsGen a g → s.heap.NoLimit →
      (∃ gs, s.gens[g]? = some gs ∧ gs.Goes (model X.prog X.w) A.in1.in1 (RG X pz σ0 QT) (YG X pz d QF) n (.send .none) (s.setGen g .running)) →
      codeAny (model X.prog X.w) A (.builtin (loopId d) ⟨[.ref a], []⟩) R s := by
  intro n
  induction n with
  | zero =>
    intro s hg hl ⟨gs, hgs, hgo'⟩
    cases d
    · show codeAny (model X.prog X.w) A (.builtin "any.loop" ⟨[.ref a], []⟩) R s
      refine codeAny_builtin F.entry_any_loop ?_
      rw [Around.under_plainId F.plain_any_loop _]
      show wpAny _ A.in1 (pyNext (.ref a) >>= _) _ _ s
      refine wpAny_bind (next_genG (A := A.in1) (Er := fun _ _ => False) hh hl hd hg hgs hgo' (fun v s₁ gs' hbare hv => ?_) (fun s₁ hp h' hk => ?_) fun e s₁ he => he.elim)
      · obtain ⟨c, σ', H', rfl, I, hq⟩ := hv
        by_cases hcd : c = false
        · rw [if_pos hcd] at hq
          exact (hq s₁ ⟨rfl, I.bare, fun _ _ e => e⟩).elim
        · rw [if_neg hcd] at hq
          have hc : c = true := by cases c <;> simp at hcd ⊢
          subst hc
          refine wpAny_bind (wpAny_holding (wpAny_truthy_bool ?_))
          refine wpAny_bind (wpAny_letGo ?_)
          simp only [if_true]
          refine wpAny_bind (wpAny_rule (wpAny_pure ?_))
          exact hF σ' H' s₁ _ I hq ⟨rfl, allBare_setGen I.bare hbare, fun _ _ e => e⟩
      · obtain ⟨H', I, q⟩ := hp
        refine wpAny_bind (wpAny_rule (wpAny_pure ?_))
        exact hT H' s₁ _ I q ⟨rfl, allBare_setGen I.bare rfl, hk⟩
    · show codeAny (model X.prog X.w) A (.builtin "all.loop" ⟨[.ref a], []⟩) R s
      refine codeAny_builtin F.entry_all_loop ?_
      rw [Around.under_plainId F.plain_all_loop _]
      show wpAny _ A.in1 (pyNext (.ref a) >>= _) _ _ s
      refine wpAny_bind (next_genG (A := A.in1) (Er := fun _ _ => False) hh hl hd hg hgs hgo' (fun v s₁ gs' hbare hv => ?_) (fun s₁ hp h' hk => ?_) fun e s₁ he => he.elim)
      · obtain ⟨c, σ', H', rfl, I, hq⟩ := hv
        by_cases hcd : c = true
        · rw [if_pos hcd] at hq
          exact (hq s₁ ⟨rfl, I.bare, fun _ _ e => e⟩).elim
        · rw [if_neg hcd] at hq
          have hc : c = false := by cases c <;> simp at hcd ⊢
          subst hc
          refine wpAny_bind (wpAny_holding (wpAny_truthy_bool ?_))
          refine wpAny_bind (wpAny_letGo ?_)
          simp only [Bool.false_eq_true, if_false]
          refine wpAny_bind (wpAny_rule (wpAny_pure ?_))
          exact hF σ' H' s₁ _ I hq ⟨rfl, allBare_setGen I.bare hbare, fun _ _ e => e⟩
      · obtain ⟨H', I, q⟩ := hp
        refine wpAny_bind (wpAny_rule (wpAny_pure ?_))
        exact hT H' s₁ _ I q ⟨rfl, allBare_setGen I.bare rfl, hk⟩
  | succ n ih =>
    intro s hg hl ⟨gs, hgs, hgo'⟩
    have hgl : g < s.gens.size := (Array.getElem?_eq_some_iff.mp hgs).1
    have again : ∀ (σ' : L2.St) (H' : Hp) (s₁ : Shared) (gs' : GenState), gs'.bare = true → Inv X pz σ' H' s₁ → g + 1 ≤ (s₁.setGen g gs').gens.size → (∀ s', Kept s₁ s' → gs'.Goes (model X.prog X.w) A.in1.in1 (RG X pz σ0 QT) (YG X pz d QF) n (.send .none) s') →
        codeAny (model X.prog X.w) A (.builtin (loopId d) ⟨[.ref a], []⟩) R (s₁.setGen g gs') := fun σ' H' s₁ gs' hbare I hsz hq => by
      have hsz1 : g < s₁.gens.size := by
        have q : (s₁.setGen g gs').gens.size = s₁.gens.size := setGen_size _ _ _
        omega
      refine ih (s₁.setGen g gs') (hgo _ (I.pin (a, go) (List.mem_append_right _ hpz)).1) I.nolimit ⟨gs', setGen_at hsz1, hq _ ⟨rfl, allBare_setGen (s := s₁.setGen g gs') (allBare_setGen I.bare hbare) rfl, fun _ _ e => e⟩⟩
    cases d
    · show codeAny (model X.prog X.w) A (.builtin "any.loop" ⟨[.ref a], []⟩) R s
      refine codeAny_builtin F.entry_any_loop ?_
      rw [Around.under_plainId F.plain_any_loop _]
      show wpAny _ A.in1 (pyNext (.ref a) >>= _) _ _ s
      refine wpAny_bind (wpAny_gsz (n := g + 1) hgl (next_genG (A := A.in1) (Er := fun _ _ => False) hh hl hd hg hgs hgo' (fun v s₁ gs' hbare hv => ?_) (fun s₁ hp h' hk => ?_) fun e s₁ he => he.elim))
      · intro hsz
        obtain ⟨c, σ', H', rfl, I, hq⟩ := hv
        refine wpAny_bind (wpAny_holding (wpAny_truthy_bool ?_))
        refine wpAny_bind (wpAny_letGo ?_)
        cases c with
        | false =>
          rw [if_pos rfl] at hq
          simp only [Bool.false_eq_true, if_false]
          exact wpAny_pure ⟨plainId_quiet F.plain_any_loop _, again σ' H' s₁ gs' hbare I hsz hq⟩
        | true =>
          rw [if_neg (by decide)] at hq
          simp only [if_true]
          refine wpAny_bind (wpAny_rule (wpAny_pure ?_))
          exact hF σ' H' s₁ _ I hq ⟨rfl, allBare_setGen I.bare hbare, fun _ _ e => e⟩
      · intro hsz
        obtain ⟨H', I, q⟩ := hp
        refine wpAny_bind (wpAny_rule (wpAny_pure ?_))
        exact hT H' s₁ _ I q ⟨rfl, allBare_setGen I.bare rfl, hk⟩
    · show codeAny (model X.prog X.w) A (.builtin "all.loop" ⟨[.ref a], []⟩) R s
      refine codeAny_builtin F.entry_all_loop ?_
      rw [Around.under_plainId F.plain_all_loop _]
      show wpAny _ A.in1 (pyNext (.ref a) >>= _) _ _ s
      refine wpAny_bind (wpAny_gsz (n := g + 1) hgl (next_genG (A := A.in1) (Er := fun _ _ => False) hh hl hd hg hgs hgo' (fun v s₁ gs' hbare hv => ?_) (fun s₁ hp h' hk => ?_) fun e s₁ he => he.elim))
      · intro hsz
        obtain ⟨c, σ', H', rfl, I, hq⟩ := hv
        refine wpAny_bind (wpAny_holding (wpAny_truthy_bool ?_))
        refine wpAny_bind (wpAny_letGo ?_)
        cases c with
        | true =>
          rw [if_pos rfl] at hq
          simp only [if_true]
          exact wpAny_pure ⟨plainId_quiet F.plain_all_loop _, again σ' H' s₁ gs' hbare I hsz hq⟩
        | false =>
          rw [if_neg (by decide)] at hq
          simp only [Bool.false_eq_true, if_false]
          refine wpAny_bind (wpAny_rule (wpAny_pure ?_))
          exact hF σ' H' s₁ _ I hq ⟨rfl, allBare_setGen I.bare hbare, fun _ _ e => e⟩
      · intro hsz
        obtain ⟨H', I, q⟩ := hp
        refine wpAny_bind (wpAny_rule (wpAny_pure ?_))
        exact hT H' s₁ _ I q ⟨rfl, allBare_setGen I.bare rfl, hk⟩
end Gx

set_option Elab.async false
set_option linter.all false
set_option maxRecDepth 100000
set_option maxHeartbeats 4000000
namespace Gx
open PySem PySem.Spec PyProof.Rows L2 GenW
theorem over_gen {B : Around} {elt : Expr} {gens : List Comprehension} {scope : Scope} {pos : Pos} {it acc : Value} {env : Env} {st : List Env} (h : B.frames = some st) :
    (B.over (.compLoop (.GeneratorExp elt gens scope pos) 0 it acc env) []).frames = some (env :: st) := by
  have e1 : (B.over (.compLoop (.GeneratorExp elt gens scope pos) 0 it acc env) []).frames = pushEnvs (Code.envs (.compLoop (.GeneratorExp elt gens scope pos) 0 it acc env)) (pushEnvs (envsOf (([] : List Frame).map Frame.where_)) B.frames) := rfl
  rw [e1, h]
  rfl
/-- the reading: by d the walk goes on -/
def tQX (d : Bool) (wi : TI) (g : TG) (tt : TT) (te : TE) (vs : List Nat) (P : Addr) : TE := fun σ H Q => wi σ H fun J H1 => GxR.TabG H1 P ∧ ∀ H2, GxR.Tabbed P H1 H2 → ∃ W : Nat → Nat → Hp → Prop, (∃ m, W 0 m H2) ∧
  Turns J g tt te vs σ d (fun H => Q (.bl d) H) (fun H => Q (.bl (!d)) H) W
section
variable {X : Cx} {pins : List (Addr × Obj)} {σ : L2.St} {H : Hp} {s : Shared}
theorem gen_core {c P : Addr} {elt tg iter : Expr} {ifs : List Expr} {gpos : Pos} {scope : Scope} {own : List (Str × Nat)} {wi : TI} {g : TG} {tt : TT} {te : TE} {k : Nat} {d : Bool} {Q : VK}
    (hr : Room (k + 1) X.A) (hc : X.calm = true) (hN : X.N.Nodup) (TB : GxR.TabB X.base X.mg c P) (hcode : X.env.code = .ref c) (ok : BlkOk X.N X.env.scope scope own) (S : GenK scope) (hi : PI X tg iter wi) (hs : ∀ v, genFold iter X.env v = pure v)
    (hg : ∀ (A : Around) (s : Shared) (H : Hp) (C : Addr) (code : Value) (fp : List Addr), Room k A → PG (gcx X A s H (genEnv scope (cloFrom X.env.cells scope.names []) C code builtinsNs X.env) fp) tg g)
    (ht : ∀ (A : Around) (s : Shared) (H : Hp) (C : Addr) (code : Value) (fp : List Addr), Room k A → PTs (gcx X A s H (genEnv scope (cloFrom X.env.cells scope.names []) C code builtinsNs X.env) fp) ifs tt)
    (he : ∀ (A : Around) (s : Shared) (H : Hp) (C : Addr) (code : Value) (fp : List Addr), Room k A → PE (gcx X A s H (genEnv scope (cloFrom X.env.cells scope.names []) C code builtinsNs X.env) fp) elt te)
    (I : Inv X pins σ H s) (h : tQX d wi g tt te (own.map (·.2)) P σ H Q) :
    wpAny (model X.prog X.w) X.A (eval (.GeneratorExp elt [⟨tg, iter, ifs, 0⟩] scope gpos) X.env) (fun v s5 => ∃ (a : Addr) (gn : Nat), v = .ref a ∧ s5.heap.IsGen a gn ∧
      codeAny (model X.prog X.w) X.A (.builtin (loopId d) ⟨[.ref a], []⟩) (fun r s' => ∃ b, r = .ok (.ret (.bool b)) ∧ EP X pins σ Q (.bool b) s') s5) X.xe s := by
  have hfree : ∀ y ∈ scope.names, y.2 = .free → ∃ c, X.env.cells.lookup y.1 = some c := fun y hy e => by
    rcases ok.free y hy e with k | k
    · exact I.ok.has _ (.inl k)
    · exact I.ok.has _ (.inr k)
  refine wpAny_GeneratorExp_make S.co (closure_ok hfree) S.cell S.dot ok.kind hr.depth (wpAny_mono (hi.run pins s σ H _ I h) (fun xv s1 h1 => wpAny_mono h1 (fun itv s2 h2 => ?_) fun _ _ e => e) fun _ _ e => e) hs
  obtain ⟨it, fp, tn, J, H1, rfl, I2, T, st2, f2, ⟨ps, hP, htr⟩, hW⟩ := h2
  refine ⟨I2.nolimit, ?_⟩
  have tabS : s2.heap.get? P = some { cls := .none, data := .fields ps } := I2.hok P _ hP
  have hd : PySem.W.CodeHd s2.heap c P := TB.code.keeps fun b u e => I2.bk b u e
  have key : ∀ (REST : Value → Shared → Prop), (∀ (cv : Value) (h3 : Heap) (tk : Nat) (more : Array Value), Heap.ExtBut P s2.heap h3 → s2.heap.objs.size ≤ h3.objs.size → h3.get? P = some { cls := .none, data := .fields (ps ++ more) } → TriplesOk (ps ++ more).toList → REST cv { s2 with heap := h3, toks := tk }) →
      wpAny (model X.prog X.w) X.A (genexprCode X.env gpos (X.env.qual ++ "<genexpr>") scope) REST X.xe s2 := fun REST fin => by
    cases hf : codeAmong gpos ps.toList with
    | some cv =>
      have e : ps = ps ++ #[] := by simp
      exact wpAny_genexprCode_hit hcode (hd.code tabS htr) hf (fin cv _ s2.toks #[] (Heap.ExtBut.refl _ _) (Nat.le_refl _) (e ▸ tabS) (e ▸ htr))
    | none =>
      refine wpAny_genexprCodeX hcode (hd.code tabS htr) (hd.tab tabS) hf fun c' h3 tk ex ge lt ic _ ta _ => ?_
      obtain ⟨_, _, _, _, _, _, _, _, _, _, _, _, _, _, _, _, _, _, _, tr, _⟩ := ic
      exact fin _ h3 tk _ ex (Nat.le_trans ge (Nat.le_of_lt lt)) ta.2 tr
  refine key _ fun cv h3 tk more ex ge tab3 tr3 => ?_
  obtain ⟨bm, ob, b1, b2, b3, b4, b5, b6, b7, b8⟩ := TB.bm
  refine wpAny_builtinsFor (m := X.mg) (by rw [I2.ok.glob]; exact (I2.mod.glob.keeps I2.bk).extBut ex TB.gP) b1 b2 (ex _ _ b4 (I2.bk _ _ b5)) b6 b7 b8 ?_
  intro h' hn' hs'
  generalize hs3 : ({ s2 with heap := h3, toks := tk } : Shared) = s3 at hn' hs' ⊢
  have e3 : s3.heap = h3 := by rw [← hs3]
  have I3 : Inv X pins σ (upd H1 P (.tbl (ps ++ more))) s3 := by
    rw [← hs3]
    exact GxR.inv_tab (more := more) (h' := h3) (g' := s2.gens) (d' := s2.drawn) (t' := tk) I2 hP (fun b o n e => ex b o n e) tab3 I2.bare
  obtain ⟨W, ⟨m0, w0⟩, turn⟩ := hW _ ⟨⟨ps ++ more, upd_same, tr3⟩, fun b hb => upd_ne hb⟩
  have neP : ∀ b ∈ fp, b ≠ P := fun b hb z => by
    have := (f2 b hb).1
    rw [z, hP] at this
    cases this
  have f3 : ∀ b ∈ fp, FpOk X pins (upd H1 P (.tbl (ps ++ more))) b ∧ b < s3.heap.objs.size := fun b hb => by
    obtain ⟨o, e, _⟩ := T.obj _ _ st2 b hb
    refine ⟨⟨?_, (f2 b hb).2⟩, by rw [e3]; exact Nat.lt_of_lt_of_le (Heap.lt_size e) ge⟩
    rw [upd_ne (neP b hb)]
    exact (f2 b hb).1
  have st3 : tn 0 s3.heap := T.keep _ _ _ st2 fun b hb o e => by rw [e3]; exact ex b o (neP b hb) e
  generalize hH3 : upd H1 P (.tbl (ps ++ more)) = H3 at I3 w0 f3
  have nf : ∀ b ∈ fp, H3 b = none := fun b hb => (f3 b hb).1.1
  -- the generator's object
  generalize hgo : ({ cls := .type "generator", data := .fields #[.int s3.gens.size 0, .str "<genexpr>" (s3.toks + 1), .str (X.env.qual ++ "<genexpr>") (s3.toks + 1 + 1)] } : Obj) = go
  have sz' : h'.objs.size = s3.heap.objs.size + 1 := by rw [hs'.1, Heap.size_push]
  generalize hs5 : ({ s3 with gens := s3.gens.push (.fresh (.compStart (.GeneratorExp elt [⟨tg, iter, ifs, 0⟩] scope gpos) 0 (.ref it) .none (genEnv scope (cloFrom X.env.cells scope.names []) s3.heap.objs.size cv builtinsNs X.env))), toks := s3.toks + 1 + 1 + 1, heap := h'.push go } : Shared) = s5
  have h5 : s5.heap = h'.push go := by rw [← hs5]
  have kp : Kept s3 s5 := by
    refine ⟨by rw [← hs5], by rw [← hs5]; exact AllBare.push I3.bare rfl, fun b o e => ?_⟩
    rw [h5]
    exact Heap.get?_push_of_some _ (hs'.extBut b o (Nat.ne_of_lt (Heap.lt_size e)) (Heap.get?_push_of_some _ e))
  have hga : s5.heap.get? h'.objs.size = some go := by rw [h5, ← hgo]; exact Heap.get?_push_size _ rfl
  have isg : ∀ h : Heap, h.get? h'.objs.size = some go → h.IsGen h'.objs.size s3.gens.size := fun h e => ⟨go, _, _, e, by rw [← hgo], by rw [← hgo], by rw [← hgo]⟩
  have hgs : s5.gens[s3.gens.size]? = some (.fresh (.compStart (.GeneratorExp elt [⟨tg, iter, ifs, 0⟩] scope gpos) 0 (.ref it) .none (genEnv scope (cloFrom X.env.cells scope.names []) s3.heap.objs.size cv builtinsNs X.env))) := by
    rw [← hs5]
    exact Array.getElem?_push_size ..
  have hns : s5.heap.Ns s3.heap.objs.size (fun y => if y = ".0" then some (.ref it) else none) := by rw [h5]; exact hn'.push _
  have hfrX : X.A.frames = some X.stack := I3.ok.frames
  have rm : Room k (X.A.in1.in1.over (.compLoop (.GeneratorExp elt [⟨tg, iter, ifs, 0⟩] scope gpos) 0 (.ref it) .none (genEnv scope (cloFrom X.env.cells scope.names []) s3.heap.objs.size cv builtinsNs X.env)) []) := by
    have h1 := hr.dp
    have h2 := hr.un
    refine ⟨hr.hd, ?_, ?_⟩
    · show X.A.depth + 0 + 1 + 3 * k + 5 < _
      omega
    · show X.A.units + 1 + 1 + 0 + 3 + 16 * k + 200 < _
      omega
  have Ig := gen_start I3 ok S hN f3 rm.hd (over_gen (show X.A.in1.in1.frames = some X.stack from hfrX)) kp hns
  have aC : h'.objs.size ≠ s3.heap.objs.size := by omega
  have Ig2 : Inv (gcx X (X.A.in1.in1.over (.compLoop (.GeneratorExp elt [⟨tg, iter, ifs, 0⟩] scope gpos) 0 (.ref it) .none (genEnv scope (cloFrom X.env.cells scope.names []) s3.heap.objs.size cv builtinsNs X.env)) []) s3 H3 (genEnv scope (cloFrom X.env.cells scope.names []) s3.heap.objs.size cv builtinsNs X.env) fp) [(h'.objs.size, go)] (wipe σ (own.map (·.2))) H3 s5 := by
    refine Ig.pins_of fun p hp => ?_
    rw [List.mem_singleton.mp hp]
    refine ⟨hga, I3.hok.fresh (by omega), aC, fun z => ?_, fun v q => by rw [← hgo] at q; cases q⟩
    rcases List.mem_cons.mp (I3.stkSub _ z) with z | z
    · have z : h'.objs.size = X.env.locals := z
      have q : h'.objs.size < s3.heap.objs.size := by rw [z]; exact I3.lt
      omega
    · exact I3.nofs (by omega) z
  have hpz : ∀ p ∈ [(h'.objs.size, go)], p.1 ∉ fp := fun p hp z => by
    rw [List.mem_singleton.mp hp] at z
    have q : h'.objs.size < s3.heap.objs.size := (f3 _ z).2
    omega
  have back : ∀ (σ' : L2.St) (H' : Hp) (s1 s' : Shared), Inv (gcx X (X.A.in1.in1.over (.compLoop (.GeneratorExp elt [⟨tg, iter, ifs, 0⟩] scope gpos) 0 (.ref it) .none (genEnv scope (cloFrom X.env.cells scope.names []) s3.heap.objs.size cv builtinsNs X.env)) []) s3 H3 (genEnv scope (cloFrom X.env.cells scope.names []) s3.heap.objs.size cv builtinsNs X.env) fp) [(h'.objs.size, go)] σ' H' s1 → Kept s1 s' → Inv X pins σ H' s' := fun σ' H' s1 s' J1 k1 => by
    have J := Inv.keptS J1 k1
    exact I3.call' (ch := fp) J.os J.base J.hok J.bare fun b hb => ⟨(f3 b hb).1.2.2.2.1, (f3 b hb).1.2.1, (f3 b hb).1.2.2.2.2.1, (f3 b hb).1.2.2.2.2.2⟩
  refine ⟨_, s3.gens.size, rfl, isg _ hga, walk_loop (X := gcx X (X.A.in1.in1.over (.compLoop (.GeneratorExp elt [⟨tg, iter, ifs, 0⟩] scope gpos) 0 (.ref it) .none (genEnv scope (cloFrom X.env.cells scope.names []) s3.heap.objs.size cv builtinsNs X.env)) []) s3 H3 (genEnv scope (cloFrom X.env.cells scope.names []) s3.heap.objs.size cv builtinsNs X.env) fp) (pz := [(h'.objs.size, go)]) (σ0 := wipe σ (own.map (·.2))) (QT := fun H => Q (.bl d) H) (QF := fun H => Q (.bl (!d)) H) d (List.mem_singleton.mpr rfl) isg hr.hd hr.depth (fun H' s1 s' J1 q k1 => ⟨d, rfl, .bl d, H', back _ H' s1 s' J1 k1, rfl, q⟩) (fun σ' H' s1 s' J1 q k1 => ⟨!d, rfl, .bl (!d), H', back σ' H' s1 s' J1 k1, rfl, q⟩) (m0 + 1) s5 (isg _ hga) Ig2.nolimit ⟨_, hgs, rfl, ?_⟩⟩
  have k6 : Kept s5 (s5.setGen s3.gens.size .running) := ⟨rfl, allBare_setGen kp.bare rfl, fun _ _ e => e⟩
  have st5 : tn 0 (s5.setGen s3.gens.size .running).heap := T.keep _ _ _ st3 fun b hb o e => kp.keep b o e
  exact seg_start T st5 (seg_loop T hc rfl S.co hpz (hg _ _ _ _ _ _ rm) (ht _ _ _ _ _ _ rm) (he _ _ _ _ _ _ rm) turn m0 (m0 + 1) 0 _ _ H3 (Nat.lt_succ_self _) (Inv.keptS Ig2 k6) st5 nf w0)
theorem pe_allX {c P : Addr} {elt tg iter : Expr} {ifs : List Expr} {gpos p pos : Pos} {scope : Scope} {own : List (Str × Nat)} {wi : TI} {g : TG} {tt : TT} {te : TE} {k : Nat}
    (hr : Room (k + 1) X.A) (hgl : Gl X "all") (hm : X.mg "all" = none) (hc : X.calm = true) (hN : X.N.Nodup) (TB : GxR.TabB X.base X.mg c P) (hcode : X.env.code = .ref c) (ok : BlkOk X.N X.env.scope scope own) (S : GenK scope) (hi : PI X tg iter wi)
    (hg : ∀ (A : Around) (s : Shared) (H : Hp) (C : Addr) (code : Value) (fp : List Addr), Room k A → PG (gcx X A s H (genEnv scope (cloFrom X.env.cells scope.names []) C code builtinsNs X.env) fp) tg g)
    (ht : ∀ (A : Around) (s : Shared) (H : Hp) (C : Addr) (code : Value) (fp : List Addr), Room k A → PTs (gcx X A s H (genEnv scope (cloFrom X.env.cells scope.names []) C code builtinsNs X.env) fp) ifs tt)
    (he : ∀ (A : Around) (s : Shared) (H : Hp) (C : Addr) (code : Value) (fp : List Addr), Room k A → PE (gcx X A s H (genEnv scope (cloFrom X.env.cells scope.names []) C code builtinsNs X.env) fp) elt te)
    (hs : ∀ v, genFold iter X.env v = pure v := by intro _; rfl)
    (hst : starEach [.GeneratorExp elt [⟨tg, iter, ifs, 0⟩] scope gpos] X.env = (false, eval (.GeneratorExp elt [⟨tg, iter, ifs, 0⟩] scope gpos) X.env) :: starEach [] X.env := by rfl) :
    PE X (.Call (.Name "all" p) [.GeneratorExp elt [⟨tg, iter, ifs, 0⟩] scope gpos] [] pos) (tQX true wi g tt te (own.map (·.2)) P) := by
  refine ⟨fun pins s σ H Q I h => ?_⟩
  refine wpAny_Call_Name_kw (ld_blt I hgl hm boot_all (PyProof.Rows.callWith_builtin1 ?_ hst (by rfl)))
  rw [hst]
  show wpAny _ _ (spliced ((false, _) :: backTo pos (starEach [] X.env))) _ _ s
  refine Calls.spliced_cons (wpAny_mono (gen_core hr hc hN TB hcode ok S hi hs hg ht he I h) (fun v s5 hx => ?_) fun _ _ e => e)
  obtain ⟨a, gn, rfl, hgn, hcd⟩ := hx
  refine Calls.spliced_nil ?_
  refine call_function_tree F.kind_all F.plain_all F.entry_all (F.args_all1 _) ?_
  unfold Builtin.«all»
  refine wpAny_bind (m := oneArg "all" _) (wpAny_pure ?_)
  refine wpAny_bind (wpAny_pyIter_gen hgn ?_)
  exact wpAny_pure ⟨plainId_quiet F.plain_all_loop _, codeAny_mono hcd fun r s' hx => by obtain ⟨b, rfl, q⟩ := hx; exact q⟩
theorem pe_anyX {c P : Addr} {elt tg iter : Expr} {ifs : List Expr} {gpos p pos : Pos} {scope : Scope} {own : List (Str × Nat)} {wi : TI} {g : TG} {tt : TT} {te : TE} {k : Nat}
    (hr : Room (k + 1) X.A) (hgl : Gl X "any") (hm : X.mg "any" = none) (hc : X.calm = true) (hN : X.N.Nodup) (TB : GxR.TabB X.base X.mg c P) (hcode : X.env.code = .ref c) (ok : BlkOk X.N X.env.scope scope own) (S : GenK scope) (hi : PI X tg iter wi)
    (hg : ∀ (A : Around) (s : Shared) (H : Hp) (C : Addr) (code : Value) (fp : List Addr), Room k A → PG (gcx X A s H (genEnv scope (cloFrom X.env.cells scope.names []) C code builtinsNs X.env) fp) tg g)
    (ht : ∀ (A : Around) (s : Shared) (H : Hp) (C : Addr) (code : Value) (fp : List Addr), Room k A → PTs (gcx X A s H (genEnv scope (cloFrom X.env.cells scope.names []) C code builtinsNs X.env) fp) ifs tt)
    (he : ∀ (A : Around) (s : Shared) (H : Hp) (C : Addr) (code : Value) (fp : List Addr), Room k A → PE (gcx X A s H (genEnv scope (cloFrom X.env.cells scope.names []) C code builtinsNs X.env) fp) elt te)
    (hs : ∀ v, genFold iter X.env v = pure v := by intro _; rfl)
    (hst : starEach [.GeneratorExp elt [⟨tg, iter, ifs, 0⟩] scope gpos] X.env = (false, eval (.GeneratorExp elt [⟨tg, iter, ifs, 0⟩] scope gpos) X.env) :: starEach [] X.env := by rfl) :
    PE X (.Call (.Name "any" p) [.GeneratorExp elt [⟨tg, iter, ifs, 0⟩] scope gpos] [] pos) (tQX false wi g tt te (own.map (·.2)) P) := by
  refine ⟨fun pins s σ H Q I h => ?_⟩
  refine wpAny_Call_Name_kw (ld_blt I hgl hm boot_any (PyProof.Rows.callWith_builtin1 ?_ hst (by rfl)))
  rw [hst]
  show wpAny _ _ (spliced ((false, _) :: backTo pos (starEach [] X.env))) _ _ s
  refine Calls.spliced_cons (wpAny_mono (gen_core hr hc hN TB hcode ok S hi hs hg ht he I h) (fun v s5 hx => ?_) fun _ _ e => e)
  obtain ⟨a, gn, rfl, hgn, hcd⟩ := hx
  refine Calls.spliced_nil ?_
  refine call_function_tree F.kind_any F.plain_any F.entry_any (F.args_any1 _) ?_
  unfold Builtin.«any»
  refine wpAny_bind (m := oneArg "any" _) (wpAny_pure ?_)
  refine wpAny_bind (wpAny_pyIter_gen hgn ?_)
  exact wpAny_pure ⟨plainId_quiet F.plain_any_loop _, codeAny_mono hcd fun r s' hx => by obtain ⟨b, rfl, q⟩ := hx; exact q⟩
end
end Gx

set_option Elab.async false
set_option linter.all false
set_option maxRecDepth 100000
set_option maxHeartbeats 4000000
/-! the turns, by source -/
namespace Gx
open PySem PySem.Spec PyProof.Rows L2
theorem all_range {lo : Int} {n : Nat} {g : TG} {tt : TT} {te : TE} {vs : List Nat} {σ : L2.St} {d : Bool} {QT QF : Hp → Prop} {H2 : Hp} (Pv : Nat → Hp → Prop) (h0 : Pv 0 H2)
    (hs : ∀ i H, i < n → Pv i H → g (.int (lo + i)) (wipe σ vs) H fun σ2 H2 => wipe σ2 vs = wipe σ vs ∧ tt σ2 H2 fun b H3 => if b = true then te σ2 H3 fun y H4 => ∃ c, y = .bl c ∧ (if c = d then Pv (i + 1) H4 else QF H4) else Pv (i + 1) H3) (hd : ∀ H, Pv n H → QT H) :
    ∃ W : Nat → Nat → Hp → Prop, (∃ m, W 0 m H2) ∧ Turns (Itr lo n) g tt te vs σ d QT QF W := by
  refine ⟨fun i m H => m = n - i ∧ i ≤ n ∧ Pv i H, ⟨n, by simp, Nat.zero_le _, h0⟩, ?_⟩
  rintro i m H ⟨rfl, hi, p⟩
  by_cases hlt : i < n
  · refine .inr ⟨hlt, Pv (i + 1), fun H' p' => ⟨n - (i + 1), by omega, rfl, hlt, p'⟩, fun x H' y => ?_⟩
    obtain ⟨e, y⟩ := y
    subst e y
    exact hs i _ hlt p
  · have e : i = n := by omega
    subst e
    exact .inl ⟨Nat.le_refl _, hd H p⟩
theorem all_tup {K : PySem.W.Frag} {a : Addr} {xs : List V} {g : TG} {tt : TT} {te : TE} {vs : List Nat} {σ : L2.St} {d : Bool} {QT QF : Hp → Prop} {H2 : Hp} (Pv : Nat → Hp → Prop) (h0 : Pv 0 H2) (hl : ∀ i H, i ≤ xs.length → Pv i H → SqT K H a xs)
    (hs : ∀ i x H, xs[i]? = some x → Pv i H → g x (wipe σ vs) H fun σ2 H2 => wipe σ2 vs = wipe σ vs ∧ tt σ2 H2 fun b H3 => if b = true then te σ2 H3 fun y H4 => ∃ c, y = .bl c ∧ (if c = d then Pv (i + 1) H4 else QF H4) else Pv (i + 1) H3) (hd : ∀ H, Pv xs.length H → QT H) :
    ∃ W : Nat → Nat → Hp → Prop, (∃ m, W 0 m H2) ∧ Turns (Itt K a) g tt te vs σ d QT QF W := by
  refine ⟨fun i m H => m = xs.length - i ∧ i ≤ xs.length ∧ Pv i H, ⟨xs.length, by simp, Nat.zero_le _, h0⟩, ?_⟩
  rintro i m H ⟨rfl, hi, p⟩
  have q := hl i H hi p
  by_cases hlt : i < xs.length
  · refine .inr ⟨⟨xs, xs[i], q, by simp [hlt]⟩, Pv (i + 1), fun H' p' => ⟨xs.length - (i + 1), by omega, rfl, hlt, p'⟩, fun x H' y => ?_⟩
    obtain ⟨e, y⟩ := y
    subst e
    exact hs i x _ (y xs q) p
  · have e : i = xs.length := by omega
    subst e
    exact .inl ⟨⟨xs, q, Nat.le_refl _⟩, hd H p⟩
theorem all_list {K : PySem.W.Frag} {a : Addr} {xs : List V} {g : TG} {tt : TT} {te : TE} {vs : List Nat} {σ : L2.St} {d : Bool} {QT QF : Hp → Prop} {H2 : Hp} (Pv : Nat → Hp → Prop) (h0 : Pv 0 H2) (hl : ∀ i H, i ≤ xs.length → Pv i H → SqL K H a xs)
    (hs : ∀ i x H, xs[i]? = some x → Pv i H → g x (wipe σ vs) H fun σ2 H2 => wipe σ2 vs = wipe σ vs ∧ tt σ2 H2 fun b H3 => if b = true then te σ2 H3 fun y H4 => ∃ c, y = .bl c ∧ (if c = d then Pv (i + 1) H4 else QF H4) else Pv (i + 1) H3) (hd : ∀ H, Pv xs.length H → QT H) :
    ∃ W : Nat → Nat → Hp → Prop, (∃ m, W 0 m H2) ∧ Turns (Itl K a) g tt te vs σ d QT QF W := by
  refine ⟨fun i m H => m = xs.length - i ∧ i ≤ xs.length ∧ Pv i H, ⟨xs.length, by simp, Nat.zero_le _, h0⟩, ?_⟩
  rintro i m H ⟨rfl, hi, p⟩
  have q := hl i H hi p
  by_cases hlt : i < xs.length
  · refine .inr ⟨⟨xs, xs[i], q, by simp [hlt]⟩, Pv (i + 1), fun H' p' => ⟨xs.length - (i + 1), by omega, rfl, hlt, p'⟩, fun x H' y => ?_⟩
    obtain ⟨e, y⟩ := y
    subst e
    exact hs i x _ (y xs q) p
  · have e : i = xs.length := by omega
    subst e
    exact .inl ⟨⟨xs, q, by simp⟩, hd H p⟩
end Gx

set_option Elab.async false
set_option linter.all false
set_option maxRecDepth 100000
set_option maxHeartbeats 4000000
/-! tuple(..) of a generator expression: any source, any target, any element -/
namespace Gx
open PySem PySem.Spec PyProof.Rows L2 GenW
def TurnsC (J : It) (g : TG) (tt : TT) (te : TE) (vs : List Nat) (σ : L2.St) (Q : List V → Hp → Prop) (W : Nat → Nat → List V → Hp → Prop) : Prop := ∀ i m ys H, W i m ys H →
  (J.stop i H ∧ Q ys H) ∨ (J.go i H ∧ ys.length < sizeLine ∧ ∃ Nx : List V → Hp → Prop, (∀ ys' H', Nx ys' H' → ∃ m', m' < m ∧ W (i + 1) m' ys' H') ∧ ∀ x H', J.yld i H x H' → g x (wipe σ vs) H' fun σ2 H2 => wipe σ2 vs = wipe σ vs ∧ tt σ2 H2 fun b H3 =>
    if b = true then te σ2 H3 fun y H4 => Nx (ys ++ [y]) H4 else Nx ys H3)
section
variable {X : Cx} {A B : Around} {s3 : Shared} {H3 : Hp} {cenv : Env} {fp : List Addr} {σ : L2.St}
theorem seg_loopC {elt tg iter : Expr} {ifs : List Expr} {scope : Scope} {pos : Pos} {it a : Addr} {gn : Nat} {go : Obj} {J : It} {tn : Nat → Heap → Prop} {g : TG} {tt : TT} {te : TE} {vs : List Nat} {Q : List V → Hp → Prop} {W : Nat → Nat → List V → Hp → Prop} {S : Addr} {E : XK}
    (T : Turn X.prog X.w X.K tg J fp it tn) (hc : X.calm = true) (hov : B.over (.compLoop (.GeneratorExp elt [⟨tg, iter, ifs, 0⟩] scope pos) 0 (.ref it) .none cenv) [] = A) (hco : cenv.scope.isCoroutine = false) (haf : a ∉ fp) (hSf : S ∉ fp) (haS : a ≠ S) (hAp : Apart (gcx X A s3 H3 cenv fp) S)
    (hgo : ∀ h : Heap, h.get? a = some go → h.IsGen a gn)
    (pg : PG (gcx X A s3 H3 cenv fp) tg g) (pt : PTs (gcx X A s3 H3 cenv fp) ifs tt) (pe : PE (gcx X A s3 H3 cenv fp) elt te) (turn : TurnsC J g tt te vs σ Q W) :
    ∀ (m n i : Nat) (ys : List V) (s₀ s : Shared) (H : Hp), n + ys.length = sizeLine → GI (gcx X A s3 H3 cenv fp) S [(a, go)] ys (wipe σ vs) H s → tn i s.heap → (∀ b ∈ fp, H b = none) → W i m ys H →
      Seg (model X.prog X.w) B (REnd X.prog X.w X.stack H3 s3 fp S a gn Q E) (YItem s3 S a gn) n s₀
        (.compLoop (.GeneratorExp elt [⟨tg, iter, ifs, 0⟩] scope pos) 0 (.ref it) .none cenv)
        ((model X.prog X.w).den (.compLoop (.GeneratorExp elt [⟨tg, iter, ifs, 0⟩] scope pos) 0 (.ref it) .none cenv)) [] s := by
  have stat : ∀ {σ' : L2.St} {H' : Hp} {s' : Shared} {acc : Array Value} {c : Nat}, Inv (gcx X A s3 H3 cenv fp) ((S, lstObj acc c) :: [(a, go)]) σ' H' s' → (∀ b ∈ fp, H' b = none) → ∀ b ∈ fp, FpOk (gcx X A s3 H3 cenv fp) ((S, lstObj acc c) :: [(a, go)]) H' b := fun {σ' H' s' acc c} I' hn b hb =>
    ⟨hn b hb, (I'.ok.exf b hb).1, I'.ok.exfs b hb, .inl hb, fun x c e => (I'.ok.exf b hb).2 x c e, fun p hp z => by
      have hp : p ∈ (S, lstObj acc c) :: [(a, go)] := by simpa using hp
      rcases List.mem_cons.mp hp with q | q
      · rw [q] at z; exact hSf (by have z : S = b := z; rw [z]; exact hb)
      · rw [List.mem_singleton.mp q] at z; exact haf (by have z : a = b := z; rw [z]; exact hb)⟩
  intro m
  induction m using Nat.strongRecOn with
  | ind m ih =>
    intro n i ys s₀ s H hmn hG st nf w
    obtain ⟨acc, cc, rv, I⟩ := hG
    show Seg _ B _ _ _ s₀ _ ((compTurn (.GeneratorExp elt [⟨tg, iter, ifs, 0⟩] scope pos) 0 (.ref it) .none cenv).onRaise (leaving cenv)) [] s
    rw [compTurn_gen, Sem.onRaise_eq_wrap]
    refine seg_bind_wrap (wpAny_standAt ?_)
    rcases turn i m ys H w with ⟨stop, qq⟩ | ⟨go', hys, Nx, hNx, step⟩
    · refine seg_bind_wrap ?_
      rw [hov]
      refine wpAny_mono (T.done (gcx X A s3 H3 cenv fp) rfl rfl rfl hc i _ s _ H (fun _ _ => False) I (stat I nf) st stop) (fun r s6 hx => ?_) fun _ _ e => e.elim
      obtain ⟨rfl, I6⟩ := hx
      obtain ⟨z1, z2, z3, z4, _⟩ := I6.pin (S, lstObj acc cc) (List.mem_append_right _ List.mem_cons_self)
      exact seg_end (.ok .next) (.inl ⟨.inr rfl, H, ys, acc, cc, I6.os, I6.bare, I6.base, I6.hok, z2, z1, rv, by omega, qq⟩)
    · refine seg_bind_wrap ?_
      rw [hov]
      refine wpAny_mono (T.item (gcx X A s3 H3 cenv fp) rfl rfl rfl hc i _ s _ H (fun _ _ => False) I (stat I nf) st go') (fun r s6 hx => ?_) fun _ _ e => e.elim
      obtain ⟨u, rfl, h6⟩ := hx
      refine seg_bind_wrap ?_
      rw [hov]
      refine wpAny_mono h6 (fun _ s7 hx => ?_) fun _ _ e => e.elim
      obtain ⟨x, H7, I7, r7, y7, st7, n7⟩ := hx
      have I7' := I7.pinned (stat I7 n7) (T.obj _ _ st7)
      refine seg_bind_wrap ?_
      rw [hov]
      refine wpAny_mono (pg.run _ s7 _ H7 x u _ I7' r7 (step x H7 y7)) (fun _ s8 hx => ?_) fun _ _ e => e.elim
      obtain ⟨σ8, H8, I8, hw8, q8⟩ := hx
      refine seg_bind_wrap ?_
      rw [hov]
      refine wpAny_mono (pt.run _ s8 σ8 H8 _ I8 q8) (fun b s9 hx => ?_) fun _ _ e => e.elim
      obtain ⟨H9, I9, q9⟩ := hx
      have fin : ∀ {s' : Shared} {H' : Hp} {ys' : List V}, GI (gcx X A s3 H3 cenv fp) S ([(a, go)] ++ pinsAt fp s7.heap) ys' σ8 H' s' → GI (gcx X A s3 H3 cenv fp) S [(a, go)] ys' (wipe σ vs) H' s' ∧ tn (i + 1) s'.heap ∧ ∀ b ∈ fp, H' b = none := fun {s' H' ys'} hG' => by
        obtain ⟨acc', cc', rv', I'⟩ := hG'
        have I' : Inv (gcx X A s3 H3 cenv fp) (((S, lstObj acc' cc') :: [(a, go)]) ++ pinsAt fp s7.heap) σ8 H' s' := I'
        have pin' : ∀ b ∈ fp, ∀ o, s7.heap.get? b = some o → s'.heap.get? b = some o ∧ H' b = none := fun b hb o e =>
          let z := I'.pin (b, o) (List.mem_append_right _ (List.mem_append_right _ (mem_pinsAt hb e)))
          ⟨z.1, z.2.1⟩
        have hl : (wipe σ vs).length = σ8.length := by rw [← hw8, wipe_length]
        refine ⟨⟨acc', cc', rv', I'.unpinned.weak hl (fun j v e => ?_)⟩, T.keep _ _ _ st7 fun b hb o e => (pin' b hb o e).1, fun b hb => ?_⟩
        · rw [← hw8] at e
          exact (wipe_some e).1
        · obtain ⟨o, e, _⟩ := T.obj _ _ st7 b hb
          exact (pin' b hb o e).2
      cases b with
      | false =>
        simp only [Bool.false_eq_true, if_false] at q9 ⊢
        obtain ⟨m', hm, w'⟩ := hNx ys H9 q9
        obtain ⟨f1, f2, f3⟩ := fin (ys' := ys) ⟨acc, cc, rv, I9⟩
        exact seg_again rfl (ih m' hm n (i + 1) ys s₀ _ H9 hmn f1 f2 f3 w')
      | true =>
        simp only [if_true] at q9 ⊢
        have hy : ∀ v, yieldOut cenv v = yieldValue v := fun v => by simp only [yieldOut, hco, Bool.false_eq_true, if_false]
        simp only [hy]
        rw [Sem.bind_eq_wrap', Sem.bind_eq_wrap', Sem.wrap_wrap, Sem.wrap_wrap]
        refine seg_wrap ?_
        rw [hov]
        refine wpAny_mono (pe.run _ s9 σ8 H9 _ I9 q9) (fun z s10 hx => ?_) fun _ _ e => e.elim
        obtain ⟨yv, H10, I10, r10, nx⟩ := hx
        obtain ⟨n, rfl⟩ : ∃ n', n = n' + 1 := ⟨n - 1, by omega⟩
        have hasz : acc.size = ys.length := by
          have e1 := rv.length
          have e2 : acc.toList.length = acc.size := by simp
          omega
        have pS := I10.pin (S, lstObj acc cc) (List.mem_append_right _ List.mem_cons_self)
        have pA := I10.pin (a, go) (List.mem_append_right _ (List.mem_append_left _ (List.mem_cons_of_mem _ (List.mem_singleton.mpr rfl))))
        refine seg_at (seg_yield rfl rfl rfl ⟨I10.os, I10.bare, I10.nolimit, hgo _ pA.1, ⟨acc, cc, pS.1, by rw [hasz]; omega⟩, fun s'' hk => ?_⟩)
        obtain ⟨m', hm, w'⟩ := hNx (ys ++ [yv]) H10 nx
        have hG10 : GI (gcx X A s3 H3 cenv fp) S ([(a, go)] ++ pinsAt fp s7.heap) ys σ8 H10 s10 := ⟨acc, cc, rv, I10⟩
        have wk := hG10.woken (x := yv) (fun p hp => by simp at hp) (fun p hp z => by
          rcases List.mem_append.mp hp with q | q
          · rw [List.mem_singleton.mp q] at z; exact haS z
          · obtain ⟨hb, _⟩ := of_pinsAt q
            exact hSf (by rw [← z]; exact hb)) hAp r10 hk
        obtain ⟨f1, f2, f3⟩ := fin wk
        exact seg_again rfl (ih m' hm n (i + 1) (ys ++ [yv]) s'' s'' H10 (by rw [List.length_append, List.length_singleton]; omega) f1 f2 f3 w')
end
/-- tuple(g), g a generator that has not begun -/
theorem call_tuple_new {P : Program} {w : World} {outer : List Env} {H : Hp} {sc s : Shared} {ex : List Addr} {Q : List V → Hp → Prop} {A : Around} {k : Nat} {u : Value} {Q' : Value → Shared → Prop} {E : Value → Shared → Prop}
    (hr : Room (k + 1) A) (hfr : A.frames = some outer) (h : GMade P w k outer H sc ex Q (fun _ _ _ => False) u s)
    (hQ : ∀ (s' : Shared) (acc : Array Value) (H' : Hp) (ys : List V), Vals ys acc.toList → ys.length ≤ sizeLine → s'.os = sc.os → AllBare s'.gens → Un (frs outer) ex H H' sc.heap s'.heap → HOk P w H' s'.heap → Q ys H' → Q' (.ref s'.heap.objs.size) { s' with heap := s'.heap.push { cls := .type "tuple", data := .seq acc } }) :
    wpAny (model P w) A (call (.type "tuple") [u]) Q' E s := by
  obtain ⟨a, g, c, rfl, ha1, ha2, hg, hgs, hos, hb, hl, hkp, wake⟩ := h
  have hSa : s.heap.objs.size ≠ a := Nat.ne_of_gt ha2
  have hcl : cStatics < s.heap.objs.size := let ⟨_, hn, _⟩ := hl; hn.lt
  have hSc : s.heap.objs.size ≠ cStatics := Nat.ne_of_gt hcl
  refine callType_codes (Q₁ := fun obj s₁ => s₁.TypeIs obj "tuple" ∧ Q' obj s₁) F.called_tuple (F.typeCall_tuple_1 _) F.entry_object_init ?_ fun obj s₁ h₁ =>
    ⟨h₁.1, F.args_object_init_2 obj _, object_init_meets F.called_tuple.init.lookup F.called_tuple.made (by decide) P w A.in1 _ s₁ ⟨h₁.1, rfl, h₁.2⟩⟩
  refine codeAny_of_tree ?_
  show wpAny _ A.in1.in1 (do checkBuiltinCall "tuple.__new__" ⟨[.type "tuple", .ref a], []⟩; again (.builtin "tuple.__new__" ⟨[.type "tuple", .ref a], []⟩)) _ _ s
  refine wpAny_bind (wpAny_of_eq (F.newCall_tuple_1 _) (wpAny_pure ⟨plainId_quiet F.plain_tuple_new _, codeAny_builtin F.entry_tuple_new ?_⟩))
  rw [Around.under_plainId F.plain_tuple_new _]
  have hsub := sub_tuple_self
  have hinit := init_tuple_lookup
  have hmh := madeHere_tuple
  have hTI := hg.typeIs (s := s)
  have coll : ∀ {A2 : Around} {QC : List Value → Shared → Prop} {EC : Value → Shared → Prop}, A2.handled = none → A2.depth = A.depth → A2.units ≤ A.units + 8 → A2.frames = some outer →
      (∀ (s' : Shared) (acc : Array Value) (H' : Hp) (ys : List V), Vals ys acc.toList → ys.length ≤ sizeLine → s'.os = sc.os → AllBare s'.gens → Un (frs outer) ex H H' sc.heap s'.heap → HOk P w H' s'.heap → Q ys H' → QC acc.toList s') → wpAny (model P w) A2 (collect (.ref a)) QC EC s := fun {A2 QC EC} h1 h2 h3 h4 hq => by
    unfold collect
    refine wpAny_bind (wpAny_runValue (codeAny_builtin F.entry_proto_collect ?_))
    rw [Around.under_plainId F.plain_proto_collect _]
    show wpAny _ A2.in1 (newList [] >>= fun l => again (.builtin "list.__iadd__" ⟨[l, .ref a], []⟩)) _ _ s
    refine wpAny_bind (wpAny_newObj_type ?_)
    refine wpAny_pure ⟨plainId_quiet F.plain_list_iadd _, codeAny_builtin F.entry_list_iadd ?_⟩
    rw [Around.under_plainId F.plain_list_iadd _]
    show wpAny _ A2.in1 (Builtin.List.listExtendWith (.ref s.heap.objs.size) (.ref a) (.ref s.heap.objs.size)) _ _ _
    unfold Builtin.List.listExtendWith
    have up : ∀ (h : Heap) (f : Obj → Obj), (∀ b o, s.heap.get? b = some o → h.get? b = some o) → ∀ b o, s.heap.get? b = some o → (h.update s.heap.objs.size f).get? b = some o := fun h f q b o e =>
      (Heap.get?_update_other _ _ (Ne.symm (Nat.ne_of_lt (Heap.lt_size e)))).trans (q b o e)
    have k1 : ∀ b o, s.heap.get? b = some o → (s.heap.push { cls := .type "list", data := .seq ([] : List Value).toArray }).get? b = some o := fun b o e => Heap.get?_push_of_some _ e
    have gty : ∀ {h : Heap}, (∀ b o, s.heap.get? b = some o → h.get? b = some o) → h.IsGen a g := fun {h} q => hg.keeps q
    refine wpAny_bind (wpAny_typeOf (Heap.IsGen.typeIs (s := { s with heap := _ }) (gty k1)) ?_)
    have e1 : Builtin.List.listSameRef (.ref s.heap.objs.size) (.ref a) = false := by simp [Builtin.List.listSameRef, hSa]
    have e2 : (Value.type "generator" == Value.type "list") = false := by decide
    have e3 : (Value.type "generator" == Value.type "tuple") = false := by decide
    simp only [e1, e2, e3, Bool.or_false, Bool.false_eq_true, if_false]
    refine wpAny_bind (wpAny_pyIter_gen (s := { s with heap := _ }) (gty k1) ?_)
    refine wpAny_bind (wpAny_holding ?_)
    unfold Builtin.List.listLengthHint
    refine wpAny_bind (wpAny_specialOf (Heap.IsGen.typeIs (s := { s with heap := _ }) (gty k1)) F.gen_no_len ?_)
    show wpAny _ A2.in1 (specialOf (Value.ref a) (Str.ofString "__length_hint__") >>= _) _ _ _
    refine wpAny_bind (wpAny_specialOf (Heap.IsGen.typeIs (s := { s with heap := _ }) (gty k1)) F.gen_no_hint ?_)
    refine wpAny_pure ?_
    show wpAny _ A2.in1 (rule "list.extend.makes-room" >>= fun _ => Builtin.List.listTouch (.ref s.heap.objs.size) >>= fun _ =>
      again (.builtin "list.extend.loop" ⟨[.ref s.heap.objs.size, .ref a, .ref s.heap.objs.size], []⟩)) _ _ _
    refine wpAny_bind (wpAny_rule ?_)
    have hS₁ : (s.heap.push { cls := .type "list", data := .seq ([] : List Value).toArray }).get? s.heap.objs.size = some { cls := .type "list", data := .seq ([] : List Value).toArray } := Heap.get?_push_size _ rfl
    refine wpAny_bind ?_
    show wpAny _ A2.in1 (updateSeq s.heap.objs.size (·.push .none) >>= fun _ => updateSeq s.heap.objs.size (·.pop)) _ _ _
    refine wpAny_bind (wpAny_updateSeq hS₁ rfl ?_)
    have hS₂ := Heap.get?_update_self (Obj.mapSeq (·.push Value.none)) hS₁ rfl
    refine wpAny_updateSeq hS₂ rfl ?_
    have hS₃ := Heap.get?_update_self (Obj.mapSeq (·.pop)) hS₂ rfl
    have k4 := up _ (Obj.mapSeq (·.pop)) (up _ (Obj.mapSeq (·.push Value.none)) k1)
    refine wpAny_pure ⟨plainId_quiet F.plain_extend_loop _, ?_⟩
    refine drain (P := P) (w := w) (outer := outer) (H := H) (sc := sc) (ex := ex) (Q := Q) (EX := fun _ _ _ => False) (A := A2) (g := g) h1 (by have := hr.dp; omega) hSa hSc
      (fun s' acc c H' ys q1 q2 q3 q4 q5 q6 q7 q8 q9 => ?_) (fun e s' hc => by obtain ⟨_, _, _, _, _, _, _, _, _, _, _, _, hf⟩ := hc; exact hf.elim)
      sizeLine _ (gty k4) (hl.keeps k4) ⟨_, hgs, rfl, ?_⟩
    · show wpAny _ A2 (load s.heap.objs.size >>= _) _ _ s'
      refine wpAny_bind (wpAny_load q1 ?_)
      exact wpAny_pure (hq s' acc H' ys q2 q3 q4 q5 q6 q7 q9)
    · refine wake _ _ _ ⟨h1, ?_, ?_⟩ h4 (Nat.le_refl _) k4 ⟨_, hS₃⟩ hos (allBare_setGen (s := { s with heap := _ }) hb rfl)
      · have := hr.dp
        show A2.depth + 3 * k + 5 < _
        omega
      · have := hr.un
        show A2.units + 1 + 1 + 16 * k + 200 < _
        omega
  wp_walk using wpAny_typeOf hTI, coll (A2 := A.in1.in1) hr.hd rfl (by show A.units + 1 + 1 ≤ A.units + 8; omega) hfr
  intro s' acc H' ys q1 q2 q3 q4 q5 q6 q7
  show wpAny _ _ (Builtin.Tuple.tupleExact acc.toList.toArray >>= fun v => ret v) _ _ _
  unfold Builtin.Tuple.tupleExact
  have hz : acc.size ≤ sizeLine := by
    have e1 := q1.length
    have e2 : acc.toList.length = acc.size := by simp
    omega
  refine wpAny_bind (wpAny_newObj_type ?_ (by show acc.toList.toArray.size ≤ sizeLine; simp only [Array.toArray_toList]; exact hz))
  refine wpAny_pure ?_
  have e : acc.toList.toArray = acc := by simp
  rw [e]
  exact ⟨⟨_, Heap.get?_push_size _ rfl, rfl⟩, hQ s' acc H' ys q1 q2 q3 q4 q5 q6 q7⟩
end Gx

set_option Elab.async false
set_option linter.all false
set_option maxRecDepth 100000
set_option maxHeartbeats 4000000
namespace Gx
open PySem PySem.Spec PyProof.Rows L2 GenW
def tCX (wi : TI) (g : TG) (tt : TT) (te : TE) (vs : List Nat) (P : Addr) : TE := fun σ H Q => wi σ H fun J H1 => GxR.TabG H1 P ∧ ∀ H2, GxR.Tabbed P H1 H2 → ∃ W : Nat → Nat → List V → Hp → Prop, (∃ m, W 0 m [] H2) ∧
  TurnsC J g tt te vs σ (fun ys H => ∀ p, H p = none → Q (.ref p) (upd H p (.tup ys))) W
section
variable {X : Cx} {pins : List (Addr × Obj)} {σ : L2.St} {H : Hp} {s : Shared}
theorem gen_made {c P : Addr} {elt tg iter : Expr} {ifs : List Expr} {gpos : Pos} {scope : Scope} {own : List (Str × Nat)} {wi : TI} {g : TG} {tt : TT} {te : TE} {k : Nat} {QQ : List V → Hp → Prop}
    (hr : Room (k + 1) X.A) (hc : X.calm = true) (hN : X.N.Nodup) (TB : GxR.TabB X.base X.mg c P) (hcode : X.env.code = .ref c) (ok : BlkOk X.N X.env.scope scope own) (S : GenK scope) (hi : PI X tg iter wi) (hs : ∀ v, genFold iter X.env v = pure v)
    (hg : ∀ (A : Around) (s : Shared) (H : Hp) (C : Addr) (code : Value) (fp : List Addr), Room k A → PG (gcx X A s H (genEnv scope (cloFrom X.env.cells scope.names []) C code builtinsNs X.env) fp) tg g)
    (ht : ∀ (A : Around) (s : Shared) (H : Hp) (C : Addr) (code : Value) (fp : List Addr), Room k A → PTs (gcx X A s H (genEnv scope (cloFrom X.env.cells scope.names []) C code builtinsNs X.env) fp) ifs tt)
    (he : ∀ (A : Around) (s : Shared) (H : Hp) (C : Addr) (code : Value) (fp : List Addr), Room k A → PE (gcx X A s H (genEnv scope (cloFrom X.env.cells scope.names []) C code builtinsNs X.env) fp) elt te)
    (I : Inv X pins σ H s) (h : wi σ H fun J H1 => GxR.TabG H1 P ∧ ∀ H2, GxR.Tabbed P H1 H2 → ∃ W : Nat → Nat → List V → Hp → Prop, (∃ m, W 0 m [] H2) ∧ TurnsC J g tt te (own.map (·.2)) σ QQ W) :
    wpAny (model X.prog X.w) X.A (eval (.GeneratorExp elt [⟨tg, iter, ifs, 0⟩] scope gpos) X.env) (fun v s5 => ∃ (s3 : Shared) (H3 : Hp) (fp : List Addr), GMade X.prog X.w (k + 1) X.stack H3 s3 fp QQ (fun _ _ _ => False) v s5 ∧
      ∀ (H' : Hp) (s' : Shared), s'.os = s3.os → AllBare s'.gens → Un (frs X.stack) fp H3 H' s3.heap s'.heap → HOk X.prog X.w H' s'.heap → Inv X pins σ H' s') X.xe s := by
  have hfree : ∀ y ∈ scope.names, y.2 = .free → ∃ c, X.env.cells.lookup y.1 = some c := fun y hy e => by
    rcases ok.free y hy e with k | k
    · exact I.ok.has _ (.inl k)
    · exact I.ok.has _ (.inr k)
  refine wpAny_GeneratorExp_make S.co (closure_ok hfree) S.cell S.dot ok.kind hr.depth (wpAny_mono (hi.run pins s σ H _ I h) (fun xv s1 h1 => wpAny_mono h1 (fun itv s2 h2 => ?_) fun _ _ e => e) fun _ _ e => e) hs
  obtain ⟨it, fp, tn, J, H1, rfl, I2, T, st2, f2, ⟨ps, hP, htr⟩, hW⟩ := h2
  refine ⟨I2.nolimit, ?_⟩
  have tabS : s2.heap.get? P = some { cls := .none, data := .fields ps } := I2.hok P _ hP
  have hd : PySem.W.CodeHd s2.heap c P := TB.code.keeps fun b u e => I2.bk b u e
  have key : ∀ (REST : Value → Shared → Prop), (∀ (cv : Value) (h3 : Heap) (tk : Nat) (more : Array Value), Heap.ExtBut P s2.heap h3 → s2.heap.objs.size ≤ h3.objs.size → h3.get? P = some { cls := .none, data := .fields (ps ++ more) } → TriplesOk (ps ++ more).toList → REST cv { s2 with heap := h3, toks := tk }) →
      wpAny (model X.prog X.w) X.A (genexprCode X.env gpos (X.env.qual ++ "<genexpr>") scope) REST X.xe s2 := fun REST fin => by
    cases hf : codeAmong gpos ps.toList with
    | some cv =>
      have e : ps = ps ++ #[] := by simp
      exact wpAny_genexprCode_hit hcode (hd.code tabS htr) hf (fin cv _ s2.toks #[] (Heap.ExtBut.refl _ _) (Nat.le_refl _) (e ▸ tabS) (e ▸ htr))
    | none =>
      refine wpAny_genexprCodeX hcode (hd.code tabS htr) (hd.tab tabS) hf fun c' h3 tk ex ge lt ic _ ta _ => ?_
      obtain ⟨_, _, _, _, _, _, _, _, _, _, _, _, _, _, _, _, _, _, _, tr, _⟩ := ic
      exact fin _ h3 tk _ ex (Nat.le_trans ge (Nat.le_of_lt lt)) ta.2 tr
  refine key _ fun cv h3 tk more ex ge tab3 tr3 => ?_
  obtain ⟨bm, ob, b1, b2, b3, b4, b5, b6, b7, b8⟩ := TB.bm
  refine wpAny_builtinsFor (m := X.mg) (by rw [I2.ok.glob]; exact (I2.mod.glob.keeps I2.bk).extBut ex TB.gP) b1 b2 (ex _ _ b4 (I2.bk _ _ b5)) b6 b7 b8 ?_
  intro h' hn' hs'
  generalize hs3 : ({ s2 with heap := h3, toks := tk } : Shared) = s3 at hn' hs' ⊢
  have e3 : s3.heap = h3 := by rw [← hs3]
  have I3 : Inv X pins σ (upd H1 P (.tbl (ps ++ more))) s3 := by
    rw [← hs3]
    exact GxR.inv_tab (more := more) (h' := h3) (g' := s2.gens) (d' := s2.drawn) (t' := tk) I2 hP (fun b o n e => ex b o n e) tab3 I2.bare
  obtain ⟨W, ⟨m0, w0⟩, turn⟩ := hW _ ⟨⟨ps ++ more, upd_same, tr3⟩, fun b hb => upd_ne hb⟩
  have neP : ∀ b ∈ fp, b ≠ P := fun b hb z => by
    have := (f2 b hb).1
    rw [z, hP] at this
    cases this
  have f3 : ∀ b ∈ fp, FpOk X pins (upd H1 P (.tbl (ps ++ more))) b ∧ b < s3.heap.objs.size := fun b hb => by
    obtain ⟨o, e, _⟩ := T.obj _ _ st2 b hb
    refine ⟨⟨?_, (f2 b hb).2⟩, by rw [e3]; exact Nat.lt_of_lt_of_le (Heap.lt_size e) ge⟩
    rw [upd_ne (neP b hb)]
    exact (f2 b hb).1
  have st3 : tn 0 s3.heap := T.keep _ _ _ st2 fun b hb o e => by rw [e3]; exact ex b o (neP b hb) e
  generalize hH3 : upd H1 P (.tbl (ps ++ more)) = H3 at I3 w0 f3
  have nf : ∀ b ∈ fp, H3 b = none := fun b hb => (f3 b hb).1.1
  generalize hgo : ({ cls := .type "generator", data := .fields #[.int s3.gens.size 0, .str "<genexpr>" (s3.toks + 1), .str (X.env.qual ++ "<genexpr>") (s3.toks + 1 + 1)] } : Obj) = go
  have sz' : h'.objs.size = s3.heap.objs.size + 1 := by rw [hs'.1, Heap.size_push]
  generalize hs5 : ({ s3 with gens := s3.gens.push (.fresh (.compStart (.GeneratorExp elt [⟨tg, iter, ifs, 0⟩] scope gpos) 0 (.ref it) .none (genEnv scope (cloFrom X.env.cells scope.names []) s3.heap.objs.size cv builtinsNs X.env))), toks := s3.toks + 1 + 1 + 1, heap := h'.push go } : Shared) = s5
  have h5 : s5.heap = h'.push go := by rw [← hs5]
  have sz5 : s5.heap.objs.size = h'.objs.size + 1 := by rw [h5, Heap.size_push]
  have kp : Kept s3 s5 := by
    refine ⟨by rw [← hs5], by rw [← hs5]; exact AllBare.push I3.bare rfl, fun b o e => ?_⟩
    rw [h5]
    exact Heap.get?_push_of_some _ (hs'.extBut b o (Nat.ne_of_lt (Heap.lt_size e)) (Heap.get?_push_of_some _ e))
  have hga : s5.heap.get? h'.objs.size = some go := by rw [h5, ← hgo]; exact Heap.get?_push_size _ rfl
  have isg : ∀ h : Heap, h.get? h'.objs.size = some go → h.IsGen h'.objs.size s3.gens.size := fun h e => ⟨go, _, _, e, by rw [← hgo], by rw [← hgo], by rw [← hgo]⟩
  have hgs : s5.gens[s3.gens.size]? = some (.fresh (.compStart (.GeneratorExp elt [⟨tg, iter, ifs, 0⟩] scope gpos) 0 (.ref it) .none (genEnv scope (cloFrom X.env.cells scope.names []) s3.heap.objs.size cv builtinsNs X.env))) := by
    rw [← hs5]
    exact Array.getElem?_push_size ..
  have hns : s5.heap.Ns s3.heap.objs.size (fun y => if y = ".0" then some (.ref it) else none) := by rw [h5]; exact hn'.push _
  have nstk : ∀ b, s3.heap.objs.size ≤ b → b ∉ frs X.stack := fun b hb z => by
    rcases List.mem_cons.mp (I3.stkSub _ z) with z | z
    · exact absurd (Nat.lt_of_lt_of_le I3.lt (show s3.heap.objs.size ≤ X.env.locals by rw [← z]; exact hb)) (Nat.lt_irrefl _)
    · exact I3.nofs hb z
  have lt35 : s3.heap.objs.size < s5.heap.objs.size := by omega
  refine ⟨s3, H3, fp, ⟨h'.objs.size, s3.gens.size, _, rfl, (show s3.heap.objs.size ≤ h'.objs.size by omega), (show h'.objs.size < s5.heap.objs.size by omega), isg _ hga, hgs, kp.os, kp.bare, I3.nolimit.keeps kp.keep, kp.keep, fun A' Sx s6 hrA hfrA hSx hk6 hSo hos hba => ?_⟩, fun H' s' ho hb hu hok => I3.call' (ch := fp) ho hu hok hb fun b hb => ⟨(f3 b hb).1.2.2.2.1, (f3 b hb).1.2.1, (f3 b hb).1.2.2.2.2.1, (f3 b hb).1.2.2.2.2.2⟩⟩
  have k6 : Kept s3 s6 := ⟨hos, hba, fun b o e => hk6 b o (kp.keep b o e)⟩
  have rm : Room k (A'.over (.compLoop (.GeneratorExp elt [⟨tg, iter, ifs, 0⟩] scope gpos) 0 (.ref it) .none (genEnv scope (cloFrom X.env.cells scope.names []) s3.heap.objs.size cv builtinsNs X.env)) []) := by
    have h1 := hrA.dp
    have h2 := hrA.un
    refine ⟨hrA.hd, ?_, ?_⟩
    · show A'.depth + 0 + 1 + 3 * k + 5 < _
      omega
    · show A'.units + 0 + 3 + 16 * k + 200 < _
      omega
  have Ig := gen_start I3 ok S hN f3 rm.hd (over_gen hfrA) k6 (hns.keeps hk6)
  obtain ⟨cS, heS⟩ := hSo
  have Sx3 : s3.heap.objs.size ≤ Sx := Nat.le_trans (Nat.le_of_lt lt35) hSx
  have SxC : Sx ≠ s3.heap.objs.size := Nat.ne_of_gt (Nat.lt_of_lt_of_le lt35 hSx)
  have aS : h'.objs.size ≠ Sx := Nat.ne_of_lt (Nat.lt_of_lt_of_le (by omega) hSx)
  have hG : GI (gcx X (A'.over (.compLoop (.GeneratorExp elt [⟨tg, iter, ifs, 0⟩] scope gpos) 0 (.ref it) .none (genEnv scope (cloFrom X.env.cells scope.names []) s3.heap.objs.size cv builtinsNs X.env)) []) s3 H3 (genEnv scope (cloFrom X.env.cells scope.names []) s3.heap.objs.size cv builtinsNs X.env) fp) Sx [(h'.objs.size, go)] [] (wipe σ (own.map (·.2))) H3 s6 := by
    refine ⟨#[], cS, .nil, Ig.pins_of fun p hp => ?_⟩
    rcases List.mem_cons.mp hp with z | z
    · rw [z]
      exact ⟨heS, I3.hok.fresh Sx3, SxC, nstk _ Sx3, fun v q => by cases q⟩
    · rw [List.mem_singleton.mp z]
      exact ⟨hk6 _ _ hga, I3.hok.fresh (by omega), by show h'.objs.size ≠ s3.heap.objs.size; omega, nstk _ (by omega), fun v q => by rw [← hgo] at q; cases q⟩
  have st6 : tn 0 s6.heap := T.keep _ _ _ st3 fun b hb o e => k6.keep b o e
  have hAp : Apart (gcx X (A'.over (.compLoop (.GeneratorExp elt [⟨tg, iter, ifs, 0⟩] scope gpos) 0 (.ref it) .none (genEnv scope (cloFrom X.env.cells scope.names []) s3.heap.objs.size cv builtinsNs X.env)) []) s3 H3 (genEnv scope (cloFrom X.env.cells scope.names []) s3.heap.objs.size cv builtinsNs X.env) fp) Sx := by
    refine ⟨Sx3, SxC, fun x c e z => ?_⟩
    obtain ⟨v, q⟩ := Ig.cell x c e
    have hcl : X.env.cells.lookup x = some c := by
      have e : (cloFrom X.env.cells scope.names []).lookup x = some c := e
      rcases cloFrom_mem (PySem.mem_of_lookup e) with hm | ⟨h1, rfl⟩
      · cases hm
      · obtain ⟨c, hc⟩ := hfree _ h1 rfl
        rw [hc]
        rfl
    obtain ⟨v3, q3⟩ := I3.cell x c hcl
    exact absurd (Nat.lt_of_lt_of_le q3.lt (by rw [z]; exact Sx3)) (Nat.lt_irrefl _)
  refine seg_start T st6 (seg_loopC T hc rfl S.co (fun z => ?_) (fun z => ?_) aS hAp isg (hg _ _ _ _ _ _ rm) (ht _ _ _ _ _ _ rm) (he _ _ _ _ _ _ rm) turn m0 sizeLine 0 [] _ _ H3 (Nat.add_zero _) hG st6 nf w0)
  · have q : h'.objs.size < s3.heap.objs.size := (f3 _ z).2
    omega
  · exact absurd (Nat.lt_of_lt_of_le (f3 _ z).2 Sx3) (Nat.lt_irrefl _)
theorem pe_tupX {c P : Addr} {elt tg iter : Expr} {ifs : List Expr} {gpos p pos : Pos} {scope : Scope} {own : List (Str × Nat)} {wi : TI} {g : TG} {tt : TT} {te : TE} {k : Nat}
    (hr : Room (k + 2) X.A) (hgl : Gl X "tuple") (hm : X.mg "tuple" = none) (hc : X.calm = true) (hN : X.N.Nodup) (TB : GxR.TabB X.base X.mg c P) (hcode : X.env.code = .ref c) (ok : BlkOk X.N X.env.scope scope own) (S : GenK scope) (hi : PI X tg iter wi)
    (hg : ∀ (A : Around) (s : Shared) (H : Hp) (C : Addr) (code : Value) (fp : List Addr), Room k A → PG (gcx X A s H (genEnv scope (cloFrom X.env.cells scope.names []) C code builtinsNs X.env) fp) tg g)
    (ht : ∀ (A : Around) (s : Shared) (H : Hp) (C : Addr) (code : Value) (fp : List Addr), Room k A → PTs (gcx X A s H (genEnv scope (cloFrom X.env.cells scope.names []) C code builtinsNs X.env) fp) ifs tt)
    (he : ∀ (A : Around) (s : Shared) (H : Hp) (C : Addr) (code : Value) (fp : List Addr), Room k A → PE (gcx X A s H (genEnv scope (cloFrom X.env.cells scope.names []) C code builtinsNs X.env) fp) elt te)
    (hs : ∀ v, genFold iter X.env v = pure v := by intro _; rfl)
    (hst : starEach [.GeneratorExp elt [⟨tg, iter, ifs, 0⟩] scope gpos] X.env = (false, eval (.GeneratorExp elt [⟨tg, iter, ifs, 0⟩] scope gpos) X.env) :: starEach [] X.env := by rfl) :
    PE X (.Call (.Name "tuple" p) [.GeneratorExp elt [⟨tg, iter, ifs, 0⟩] scope gpos] [] pos) (tCX wi g tt te (own.map (·.2)) P) := by
  refine ⟨fun pins s σ H Q I h => ?_⟩
  refine wpAny_Call_Name_kw (ld_blt I hgl hm boot_tuple (PyProof.Rows.callWith_type1 ?_ hst (by rfl)))
  rw [hst]
  show wpAny _ _ (spliced ((false, _) :: backTo pos (starEach [] X.env))) _ _ s
  refine Calls.spliced_cons (wpAny_mono (gen_made (k := k) (hr.mono (by omega)) hc hN TB hcode ok S hi hs hg ht he I h) (fun v s5 hx => ?_) fun _ _ e => e)
  obtain ⟨s3, H3, fp, hG, back⟩ := hx
  refine Calls.spliced_nil (call_tuple_new hr I.ok.frames hG fun s' acc H' ys q1 q2 q3 q4 q5 q6 q7 => ?_)
  have J := back H' s' q3 q4 q5 q6
  refine ⟨.ref s'.heap.objs.size, _, J.laid (t' := s'.toks) (o := .tup ys) (fun b u e => Heap.get?_push_of_some _ e) (Nat.le_refl _) ⟨q2, acc.toList, q1, ?_⟩, rfl, q7 _ (J.hok.fresh (Nat.le_refl _))⟩
  have z := IsTup.new s'.heap acc
  simpa using z
end
/-! ### turns, by source -/
theorem tup_tup {K : PySem.W.Frag} {a : Addr} {xs : List V} {g : TG} {tt : TT} {te : TE} {vs : List Nat} {σ : L2.St} {Q : List V → Hp → Prop} {H2 : Hp} (hz : xs.length ≤ sizeLine) (Pv : Nat → List V → Hp → Prop) (h0 : Pv 0 [] H2) (hl : ∀ i ys H, i ≤ xs.length → Pv i ys H → SqT K H a xs) (hy : ∀ i ys H, Pv i ys H → ys.length ≤ i)
    (hs : ∀ i x ys H, xs[i]? = some x → Pv i ys H → g x (wipe σ vs) H fun σ2 H2 => wipe σ2 vs = wipe σ vs ∧ tt σ2 H2 fun b H3 => if b = true then te σ2 H3 fun y H4 => Pv (i + 1) (ys ++ [y]) H4 else Pv (i + 1) ys H3) (hd : ∀ ys H, Pv xs.length ys H → Q ys H) :
    ∃ W : Nat → Nat → List V → Hp → Prop, (∃ m, W 0 m [] H2) ∧ TurnsC (Itt K a) g tt te vs σ Q W := by
  refine ⟨fun i m ys H => m = xs.length - i ∧ i ≤ xs.length ∧ Pv i ys H, ⟨xs.length, by simp, Nat.zero_le _, h0⟩, ?_⟩
  rintro i m ys H ⟨rfl, hi, p⟩
  have q := hl i ys H hi p
  by_cases hlt : i < xs.length
  · refine .inr ⟨⟨xs, xs[i], q, by simp [hlt]⟩, Nat.lt_of_le_of_lt (hy i ys H p) (Nat.lt_of_lt_of_le hlt hz), Pv (i + 1), fun ys' H' p' => ⟨xs.length - (i + 1), by omega, rfl, hlt, p'⟩, fun x H' y => ?_⟩
    obtain ⟨e, y⟩ := y
    subst e
    exact hs i x ys _ (y xs q) p
  · have e : i = xs.length := by omega
    subst e
    exact .inl ⟨⟨xs, q, Nat.le_refl _⟩, hd ys H p⟩
end Gx

set_option Elab.async false
set_option linter.all false
set_option maxRecDepth 100000
set_option maxHeartbeats 4000000
/-! runs, by themselves -/
namespace Dt
open PySem PySem.Spec PyProof.Rows L2
abbrev Log := List (Int × List Int)
abbrev Res := Bool × List Int × Log
def stand (tb : List (List Int)) (tk : List Int) : List Int := List.zipWith atF tb tk
def leftOf (tb : List (List Int)) (tk : List Int) : List (List Int) := List.zipWith (fun ds k => ds.drop (k.toNat + 1)) tb tk
def firstB (fs : List Int) (wds : List WD) (ord : List Int) : Option Int := ord.find? fun n => brkAt fs wds n.toNat
def plc (wds : List WD) (k : Int) : List Int := (wds.getD k.toNat ([], [])).1
def lenAt (tb : List (List Int)) (p : Int) : Int := ((tb.getD p.toNat []).length : Int)
def canN (tb : List (List Int)) (tk ps : List Int) : Bool := ps.all fun p => decide (atF tk p + 1 < lenAt tb p)
def bumpA (tk ps : List Int) : List Int := ps.foldl (fun t p => bump t p.toNat) tk
def goR (wds : List WD) (tb : List (List Int)) (ord : List Int) : Nat → List Int → Log → Option Res
  | 0, _, _ => none
  | n + 1, tk, log => match firstB (stand tb tk) wds ord with
    | none => some (true, stand tb tk, log)
    | some k => if canN tb tk (plc wds k) = true then goR wds tb ord n (bumpA tk (plc wds k)) (log ++ [(k, huesA (stand tb tk) (plc wds k))]) else some (false, stand tb tk, log)
structure GoodT (many hues : Int) (tb : List (List Int)) : Prop where
  len : (tb.length : Int) = many
  one : ∀ ds ∈ tb, 1 ≤ ds.length
  few : ∀ ds ∈ tb, ds.length ≤ 1000
  hue : ∀ ds ∈ tb, ∀ h ∈ ds, 0 ≤ h ∧ h < hues
structure GoodK (tb : List (List Int)) (tk : List Int) : Prop where
  len : tk.length = tb.length
  at_ : ∀ p : Nat, p < tb.length → 0 ≤ tk.getD p 0 ∧ tk.getD p 0 < ((tb.getD p []).length : Int)
/-- an order of so many numbers -/
structure GoodO (n : Nat) (ord : List Int) : Prop where
  mem : ∀ z ∈ ord, 0 ≤ z ∧ z < (n : Int)
  all : ∀ k : Nat, k < n → (k : Int) ∈ ord
  len : ord.length ≤ n
def zerosI (n : Nat) : List Int := List.replicate n 0
def rem (tb : List (List Int)) (tk : List Int) : Nat := (List.zipWith (fun (ds : List Int) (k : Int) => ds.length - 1 - k.toNat) tb tk).sum
def runOf (wds : List WD) (tb : List (List Int)) (ord : List Int) : Option Res := goR wds tb ord (rem tb (zerosI tb.length) + 1) (zerosI tb.length) []
theorem getD_get {α : Type} {l : List α} {p : Nat} {d : α} (h : p < l.length) : l.getD p d = l[p] := by
  rw [List.getD_eq_getElem?_getD, List.getElem?_eq_getElem h]
  rfl
theorem getD_mem {α : Type} {l : List α} {p : Nat} {d : α} (h : p < l.length) : l.getD p d ∈ l := by
  rw [getD_get h]
  exact List.getElem_mem h
theorem bump_get (tk : List Int) (p i : Nat) : (bump tk p).getD i 0 = if i = p ∧ p < tk.length then tk.getD p 0 + 1 else tk.getD i 0 := by
  unfold bump
  rw [List.getD_eq_getElem?_getD, List.getElem?_set]
  by_cases h : p = i
  · subst h
    by_cases h2 : p < tk.length
    · rw [if_pos rfl, if_pos h2, if_pos ⟨rfl, h2⟩]
      rfl
    · rw [if_pos rfl, if_neg h2, if_neg (fun z => h2 z.2), List.getD_eq_getElem?_getD, List.getElem?_eq_none (by omega)]
  · rw [if_neg h, if_neg (fun z => h z.1.symm), List.getD_eq_getElem?_getD]
theorem zeros_get (n p : Nat) : (zerosI n).getD p 0 = 0 := by
  unfold zerosI
  rw [List.getD_eq_getElem?_getD, List.getElem?_replicate]
  split <;> rfl
theorem zeros_good {many hues : Int} {tb : List (List Int)} (g : GoodT many hues tb) : GoodK tb (zerosI tb.length) := by
  refine ⟨by simp [zerosI], fun p hp => ?_⟩
  rw [zeros_get]
  have := g.one _ (getD_mem (d := []) hp)
  omega
theorem stand_len {tb : List (List Int)} {tk : List Int} (g : GoodK tb tk) : (stand tb tk).length = tb.length := by
  unfold stand
  rw [List.length_zipWith, g.len, Nat.min_self]
theorem left_len {tb : List (List Int)} {tk : List Int} (g : GoodK tb tk) : (leftOf tb tk).length = tb.length := by
  unfold leftOf
  rw [List.length_zipWith, g.len, Nat.min_self]
theorem stand_get {tb : List (List Int)} {tk : List Int} (g : GoodK tb tk) {p : Nat} (hp : p < tb.length) : (stand tb tk)[p]? = some (atF (tb.getD p []) (tk.getD p 0)) := by
  have h2 : p < tk.length := by rw [g.len]; exact hp
  unfold stand
  rw [List.getElem?_zipWith, List.getElem?_eq_getElem hp, List.getElem?_eq_getElem h2, getD_get hp, getD_get h2]
theorem left_get {tb : List (List Int)} {tk : List Int} (g : GoodK tb tk) {p : Nat} (hp : p < tb.length) : (leftOf tb tk)[p]? = some ((tb.getD p []).drop ((tk.getD p 0).toNat + 1)) := by
  have h2 : p < tk.length := by rw [g.len]; exact hp
  unfold leftOf
  rw [List.getElem?_zipWith, List.getElem?_eq_getElem hp, List.getElem?_eq_getElem h2, getD_get hp, getD_get h2]
theorem stand_good {many hues : Int} {tb : List (List Int)} {tk : List Int} (gt : GoodT many hues tb) (g : GoodK tb tk) : GoodF many hues (stand tb tk) := by
  refine ⟨by rw [stand_len g]; exact gt.len, fun h hh => ?_⟩
  obtain ⟨p, hp, e⟩ := List.getElem_of_mem hh
  rw [stand_len g] at hp
  have e2 := stand_get g hp
  rw [List.getElem?_eq_getElem (by rw [stand_len g]; exact hp), e] at e2
  cases e2
  have a := g.at_ p hp
  have m : (tk.getD p 0).toNat < (tb.getD p []).length := by omega
  exact gt.hue _ (getD_mem hp) _ (getD_mem m)
theorem first_some {fs : List Int} {wds : List WD} {ord : List Int} {k : Int} (h : firstB fs wds ord = some k) : k ∈ ord ∧ brkAt fs wds k.toNat = true := ⟨List.mem_of_find?_eq_some h, by
  have z := List.find?_some (p := fun n : Int => brkAt fs wds n.toNat) (l := ord) (a := k) h
  exact z⟩
theorem wd_of {wds : List WD} {k : Int} (h0 : 0 ≤ k) (h1 : k < (wds.length : Int)) : ∃ wd, wds[k.toNat]? = some wd ∧ plc wds k = wd.1 := by
  have h : k.toNat < wds.length := by omega
  exact ⟨wds[k.toNat], List.getElem?_eq_getElem h, by rw [plc, getD_get h]⟩
/-! ### one more draw at a place -/
theorem rem_bump : ∀ {tb : List (List Int)} {tk : List Int} {p : Nat}, p < tb.length → p < tk.length → 0 ≤ tk.getD p 0 → tk.getD p 0 + 1 < ((tb.getD p []).length : Int) → rem tb (bump tk p) + 1 = rem tb tk
  | [], _, _, h, _, _, _ => absurd h (Nat.not_lt_zero _)
  | _ :: _, [], _, _, h, _, _ => absurd h (Nat.not_lt_zero _)
  | ds :: r, k :: q, 0, _, _, h0, h1 => by
    simp only [List.getD_cons_zero] at h0 h1
    unfold rem bump
    simp only [List.getD_cons_zero, List.set_cons_zero, List.zipWith_cons_cons, List.sum_cons]
    omega
  | ds :: r, k :: q, p + 1, hp, hq, h0, h1 => by
    simp only [List.getD_cons_succ] at h0 h1
    have ih := rem_bump (tb := r) (tk := q) (p := p) (Nat.lt_of_succ_lt_succ hp) (Nat.lt_of_succ_lt_succ hq) h0 h1
    unfold rem bump at ih ⊢
    simp only [List.getD_cons_succ, List.set_cons_succ, List.zipWith_cons_cons, List.sum_cons] at ih ⊢
    omega
theorem good_bump {tb : List (List Int)} {tk : List Int} {p : Nat} (g : GoodK tb tk) (hp : p < tb.length) (h : tk.getD p 0 + 1 < ((tb.getD p []).length : Int)) : GoodK tb (bump tk p) := by
  refine ⟨by rw [bump_len]; exact g.len, fun i hi => ?_⟩
  have a := g.at_ i hi
  rw [bump_get]
  by_cases e : i = p
  · subst e
    rw [if_pos ⟨rfl, by rw [g.len]; exact hp⟩]
    omega
  · rw [if_neg (fun z => e z.1)]
    exact a
theorem stand_bump {tb : List (List Int)} {tk : List Int} {p : Nat} {x : Int} {r : List Int} (g : GoodK tb tk) (hp : p < tb.length) (h : (leftOf tb tk)[p]? = some (x :: r)) : stand tb (bump tk p) = (stand tb tk).set p x ∧ leftOf tb (bump tk p) = (leftOf tb tk).set p r ∧ tk.getD p 0 + 1 < ((tb.getD p []).length : Int) := by
  rw [left_get g hp] at h
  have a := g.at_ p hp
  have e := Option.some.inj h
  have hl : (tk.getD p 0).toNat + 1 < (tb.getD p []).length := by
    have z := congrArg List.length e
    rw [List.length_drop, List.length_cons] at z
    omega
  have hc : tk.getD p 0 + 1 < ((tb.getD p []).length : Int) := by omega
  have g2 := good_bump g hp hc
  have en : (tk.getD p 0 + 1).toNat = (tk.getD p 0).toNat + 1 := by omega
  have ex : (tb.getD p []).getD ((tk.getD p 0).toNat + 1) 0 = x := by
    have z := congrArg (fun l : List Int => l[0]?) e
    simp only [List.getElem?_drop, List.getElem?_cons_zero, Nat.add_zero] at z
    rw [List.getD_eq_getElem?_getD, z]
    rfl
  have er : (tb.getD p []).drop ((tk.getD p 0).toNat + 1 + 1) = r := by
    have z := congrArg (fun l : List Int => l.drop 1) e
    simp only [List.drop_drop, List.drop_succ_cons, List.drop_zero] at z
    exact z
  refine ⟨?_, ?_, hc⟩
  · refine List.ext_getElem? fun i => ?_
    rw [List.getElem?_set]
    by_cases hi : i < tb.length
    · rw [stand_get g2 hi, bump_get]
      by_cases e2 : p = i
      · subst e2
        rw [if_pos ⟨rfl, by rw [g.len]; exact hp⟩, if_pos rfl, if_pos (by rw [stand_len g]; exact hp)]
        unfold atF
        rw [en, ex]
      · rw [if_neg (fun z => e2 z.1.symm), if_neg e2, stand_get g hi]
    · rw [List.getElem?_eq_none (by rw [stand_len g2]; omega), if_neg (by omega), List.getElem?_eq_none (by rw [stand_len g]; omega)]
  · refine List.ext_getElem? fun i => ?_
    rw [List.getElem?_set]
    by_cases hi : i < tb.length
    · rw [left_get g2 hi, bump_get]
      by_cases e2 : p = i
      · subst e2
        rw [if_pos ⟨rfl, by rw [g.len]; exact hp⟩, if_pos rfl, if_pos (by rw [left_len g]; exact hp), en, er]
      · rw [if_neg (fun z => e2 z.1.symm), if_neg e2, left_get g hi]
    · rw [List.getElem?_eq_none (by rw [left_len g2]; omega), if_neg (by omega), List.getElem?_eq_none (by rw [left_len g]; omega)]
/-! ### one more draw at some places -/
structure Can (tb : List (List Int)) (tk ps : List Int) : Prop where
  nd : ps.Nodup
  pl : ∀ p ∈ ps, 0 ≤ p ∧ p < (tb.length : Int)
  nx : ∀ p ∈ ps, atF tk p + 1 < lenAt tb p
theorem Can.tail {tb : List (List Int)} {tk ps : List Int} {p : Int} (c : Can tb tk (p :: ps)) : Can tb (bump tk p.toNat) ps := by
  refine ⟨(List.nodup_cons.mp c.nd).2, fun q hq => c.pl q (List.mem_cons_of_mem _ hq), fun q hq => ?_⟩
  have hp := c.pl p List.mem_cons_self
  have hq2 := c.pl q (List.mem_cons_of_mem _ hq)
  have hne : q ≠ p := fun z => (List.nodup_cons.mp c.nd).1 (z ▸ hq)
  have := c.nx q (List.mem_cons_of_mem _ hq)
  unfold atF at this ⊢
  rw [bump_get, if_neg (fun z => hne (by omega))]
  exact this
theorem bumpA_good : ∀ {ps : List Int} {tb : List (List Int)} {tk : List Int}, GoodK tb tk → Can tb tk ps → GoodK tb (bumpA tk ps) ∧ rem tb (bumpA tk ps) + ps.length = rem tb tk
  | [], _, _, g, _ => ⟨g, rfl⟩
  | p :: ps, tb, tk, g, c => by
    have hp := c.pl p List.mem_cons_self
    have hn := c.nx p List.mem_cons_self
    have hpn : p.toNat < tb.length := by omega
    have g2 := good_bump g hpn hn
    have a := g.at_ _ hpn
    have r := rem_bump (tb := tb) (tk := tk) hpn (by rw [g.len]; exact hpn) a.1 hn
    obtain ⟨i1, i2⟩ := bumpA_good (ps := ps) g2 c.tail
    refine ⟨i1, ?_⟩
    show rem tb (bumpA (bump tk p.toNat) ps) + (ps.length + 1) = rem tb tk
    omega
theorem can_of {many hues : Int} {wds : List WD} {tb : List (List Int)} {tk : List Int} {k : Int} {wd : WD} (gr : GoodR many hues wds) (nd : ∀ wd ∈ wds, wd.1.Nodup) (gt : GoodT many hues tb) (hw : wds[k.toNat]? = some wd) (he : plc wds k = wd.1) (h : canN tb tk (plc wds k) = true) : Can tb tk (plc wds k) := by
  have hm := List.mem_of_getElem? hw
  rw [he] at h ⊢
  refine ⟨nd wd hm, fun p hp => ?_, fun p hp => ?_⟩
  · have := (gr.each wd hm).pl p hp
    have := gt.len
    omega
  · exact of_decide_eq_true (List.all_eq_true.mp h p hp)
def LogOk (wds : List WD) (log : Log) : Prop := ∀ e ∈ log, 0 ≤ e.1 ∧ e.1 < (wds.length : Int) ∧ ∃ wd, wds[e.1.toNat]? = some wd ∧ e.2 ∈ wd.2
theorem LogOk.nil (wds : List WD) : LogOk wds [] := fun _ h => nomatch h
theorem LogOk.snoc {wds : List WD} {log : Log} {fs : List Int} {k : Int} {wd : WD} (h : LogOk wds log) (h0 : 0 ≤ k) (h1 : k < (wds.length : Int)) (hw : wds[k.toNat]? = some wd) (he : plc wds k = wd.1) (hb : brkAt fs wds k.toNat = true) : LogOk wds (log ++ [(k, huesA fs (plc wds k))]) := by
  intro e hm
  rcases List.mem_append.mp hm with z | z
  · exact h e z
  · rw [List.mem_singleton.mp z]
    refine ⟨h0, h1, wd, hw, ?_⟩
    rw [brkAt_of hw] at hb
    rw [he]
    exact of_decide_eq_true hb
theorem goR_total {many hues : Int} {wds : List WD} {tb : List (List Int)} {ord : List Int} (gr : GoodR many hues wds) (nd : ∀ wd ∈ wds, wd.1.Nodup) (gt : GoodT many hues tb) (go : GoodO wds.length ord) :
    ∀ (n : Nat) (tk : List Int) (log : Log), GoodK tb tk → LogOk wds log → rem tb tk < n → ∃ R, goR wds tb ord n tk log = some R ∧ GoodF many hues R.2.1 ∧ LogOk wds R.2.2 ∧ R.2.2.length ≤ log.length + rem tb tk
  | 0, _, _, _, _, h => absurd h (Nat.not_lt_zero _)
  | n + 1, tk, log, g, hl, h => by
    cases e : firstB (stand tb tk) wds ord with
    | none => exact ⟨(true, stand tb tk, log), by simp only [goR, e], stand_good gt g, hl, Nat.le_add_right _ _⟩
    | some k =>
      obtain ⟨hk, hb⟩ := first_some e
      obtain ⟨k0, k1⟩ := go.mem k hk
      obtain ⟨wd, hw, he⟩ := wd_of k0 k1
      cases c : canN tb tk (plc wds k) with
      | false => exact ⟨(false, stand tb tk, log), by simp only [goR, e, c]; rfl, stand_good gt g, hl, Nat.le_add_right _ _⟩
      | true =>
        have cn := can_of gr nd gt hw he c
        obtain ⟨g2, r2⟩ := bumpA_good g cn
        have one := (gr.each wd (List.mem_of_getElem? hw)).one
        rw [← he] at one
        obtain ⟨R, hR, a1, a2, a3⟩ := goR_total gr nd gt go n (bumpA tk (plc wds k)) (log ++ [(k, huesA (stand tb tk) (plc wds k))]) g2 (hl.snoc k0 k1 hw he hb) (by omega)
        refine ⟨R, by simp only [goR, e, c, if_true]; exact hR, a1, a2, ?_⟩
        rw [List.length_append, List.length_singleton] at a3
        omega
theorem rem_le : ∀ (tb : List (List Int)) (tk : List Int) (b : Nat), (∀ ds ∈ tb, ds.length ≤ b) → rem tb tk ≤ tb.length * b
  | [], _, _, _ => by simp [rem]
  | _ :: _, [], _, _ => by simp [rem]
  | ds :: r, k :: q, b, h => by
    have ih := rem_le r q b fun d hd => h d (List.mem_cons_of_mem _ hd)
    have a := h ds List.mem_cons_self
    unfold rem at ih ⊢
    rw [List.zipWith_cons_cons, List.sum_cons, List.length_cons, Nat.succ_mul]
    omega
theorem runOf_some {many hues : Int} {wds : List WD} {tb : List (List Int)} {ord : List Int} (gr : GoodR many hues wds) (nd : ∀ wd ∈ wds, wd.1.Nodup) (gt : GoodT many hues tb) (go : GoodO wds.length ord) :
    ∃ R, runOf wds tb ord = some R ∧ GoodF many hues R.2.1 ∧ LogOk wds R.2.2 ∧ R.2.2.length ≤ 6000 := by
  obtain ⟨R, h1, h2, h3, h4⟩ := goR_total gr nd gt go (rem tb (zerosI tb.length) + 1) (zerosI tb.length) [] (zeros_good gt) (LogOk.nil _) (Nat.lt_succ_self _)
  refine ⟨R, h1, h2, h3, ?_⟩
  have a := rem_le tb (zerosI tb.length) 1000 gt.few
  have b := gt.len
  have c := gr.m6
  rw [List.length_nil] at h4
  have : tb.length ≤ 6 := by omega
  omega
/-! ### the first broken one, as the law finds it -/
theorem broL_iff {fs : List Int} {wds : List WD} {n : Nat} {z : Int} : z ∈ broL fs wds n ↔ 0 ≤ z ∧ z < (n : Int) ∧ brkAt fs wds z.toNat = true := by
  unfold broL
  rw [List.mem_map]
  constructor
  · rintro ⟨k, hk, rfl⟩
    obtain ⟨h1, h2⟩ := List.mem_filter.mp hk
    have := List.mem_range.mp h1
    exact ⟨by omega, by omega, by rw [Int.toNat_natCast]; exact h2⟩
  · rintro ⟨h0, h1, h2⟩
    exact ⟨z.toNat, List.mem_filter.mpr ⟨List.mem_range.mpr (by omega), h2⟩, by omega⟩
theorem first_filter {fs : List Int} {wds : List WD} {ord : List Int} (go : GoodO wds.length ord) : (ord.filter fun z => decide (z ∈ broL fs wds wds.length)).head? = firstB fs wds ord := by
  unfold firstB
  rw [List.head?_filter]
  have e : ∀ l : List Int, (∀ z ∈ l, 0 ≤ z ∧ z < (wds.length : Int)) → l.find? (fun z => decide (z ∈ broL fs wds wds.length)) = l.find? (fun n => brkAt fs wds n.toNat) := by
    intro l
    induction l with
    | nil => intro _; rfl
    | cons a r ih =>
      intro h
      have ha := h a List.mem_cons_self
      have hq : decide (a ∈ broL fs wds wds.length) = brkAt fs wds a.toNat := by
        cases c : brkAt fs wds a.toNat with
        | true => exact decide_eq_true (broL_iff.mpr ⟨ha.1, ha.2, c⟩)
        | false => exact decide_eq_false fun z => by rw [(broL_iff.mp z).2.2] at c; cases c
      rw [List.find?_cons, List.find?_cons, hq, ih fun z hz => h z (List.mem_cons_of_mem _ hz)]
  exact e ord go.mem
theorem first_none {fs : List Int} {wds : List WD} {ord : List Int} (go : GoodO wds.length ord) : firstB fs wds ord = none ↔ broL fs wds wds.length = [] := by
  constructor
  · intro h
    rw [List.eq_nil_iff_forall_not_mem]
    intro z hz
    obtain ⟨h0, h1, h2⟩ := broL_iff.mp hz
    have hm := go.all z.toNat (by omega)
    have e : ((z.toNat : Nat) : Int) = z := by omega
    rw [e] at hm
    have := List.find?_eq_none.mp h z hm
    exact this h2
  · intro h
    refine List.find?_eq_none.mpr fun z hz c => ?_
    have hm := go.mem z hz
    have : z ∈ broL fs wds wds.length := broL_iff.mpr ⟨hm.1, hm.2, c⟩
    rw [h] at this
    cases this
end Dt

set_option Elab.async false
set_option linter.all false
set_option maxRecDepth 100000
set_option maxHeartbeats 4000000
/-! calls, frames, tables, logs: over no program -/
namespace Rd
open PySem PySem.Spec PyProof.Rows L2 Dt
theorem same_upd {H : Hp} {p : Addr} {o : HO} (h : H p = none) : Same H (upd H p o) := fun b x e => by
  rw [upd_ne (ne_of_none e h)]
  exact e
def Cal (P : Program) (w : World) (K : PySem.W.Frag) (mg : Str → Option Value) (base : Heap) (k : Nat) (x : Str) (ps : List Str) (sp : Sp) : Prop :=
  ∃ (f : Addr) (fd : FuncData), FnOk P w K mg base CX0 k f fd ps sp ∧ mg x = some (.ref f) ∧ PySem.W.keepIn K (.ref f) = true ∧ Binds K fd ps []
theorem pe_cal {X : Cx} {k : Nat} {x : Str} {ps : List Str} {sp : Sp} {p pos : Pos} {e : Expr} {es : List Expr} {t : TA} (C : Cal X.prog X.w X.K X.mg X.base k x ps sp) (hr : Room k X.A) (hg : Gl X x)
    (ha : PA X (e :: es) t) (hdb : (x == ("__debug__" : Str)) = false := by decide) (he : starEach (e :: es) X.env = (false, eval e X.env) :: starEach es X.env := by rfl) (hpl : (backTo pos (starEach es X.env)).any (·.1) = false := by rfl) :
    PE X (.Call (.Name x p) (e :: es) [] pos) (tCall sp [] E0 t) := by
  obtain ⟨f, fd, F, hm, hk, hb⟩ := C
  exact pe_call F hr hg hm hk hb .nil pass0 ha hdb he hpl
/-- a def whose code object is known -/
structure FunC (K : PySem.W.Frag) (x qual : Str) (st : Stmt) (f : Addr) (fd : FuncData) (cdv : Value) : Prop where
  ex : ∃ (oc : Value) (od : Option Addr) (kV doc pm : Value) (an : Option Addr) (ct : Value) (osl : Array (Option Value)),
    fd = PySem.W.fnOf x qual (defArgs st) (defBody st) (defScope st) .none kV doc pm an cdv ct ∧ K.lookup f = some ⟨oc, od, .func fd, osl⟩ ∧ PySem.W.codeIn K cdv qual = true
theorem FunC.ok {P : Program} {w : World} {K : PySem.W.Frag} {mg : Str → Option Value} {base : Heap} {x qual : Str} {st : Stmt} {f : Addr} {fd : FuncData} {cdv : Value} {N ps : List Str} {k : Nat} {sp : Sp} (F : FunC K x qual st f fd cdv) (S : FnScope N ps (defScope st)) (len : ∀ vs H Q E, sp vs H Q E → vs.length = ps.length)
    (body : ∀ (A : Around) (outer : List Env) (s : Shared) (H : Hp) (vs : List V) (Q : VK) (E : XK), Room k (A.deeper (envOfC qual (defScope st) s.heap.objs.size f cdv)) → sp vs H Q E →
      ∃ t, PSs (cxOf CX0 P w K mg base N qual (defScope st) f cdv A outer s H E).nox (defBody st) t ∧ t { nx := fun _ H' => Q .non H', rt := Q } (start N vs) H) : FnOk P w K mg base CX0 (k + 1) f fd ps sp := by
  obtain ⟨oc, od, kV, doc, pm, an, ct, osl, rfl, lk, hcd⟩ := F.ex
  refine fn_of lk hcd S len fun A outer s H vs Q E hr hsp => ?_
  obtain ⟨t, h, q⟩ := body A outer s H vs Q E hr hsp
  exact ⟨t, h.nox, q⟩
theorem units65 {A : Around} {k : Nat} (hr : Room k A) : A.units + 65 < cLine := by have := hr.un; omega
/-! ### frames but for some tables -/
def Tabs (Ps : List Addr) (H : Hp) : Prop := ∀ P ∈ Ps, GxR.TabG H P
def FrS (Ps : List Addr) (H H' : Hp) : Prop := (∀ b o, b ∉ Ps → H b = some o → H' b = some o) ∧ Tabs Ps H'
/-- tuples and lists stay -/
def Seqs (H H' : Hp) : Prop := Tups H H' ∧ ∀ b xs, H b = some (.lst xs) → H' b = some (.lst xs)
theorem Seqs.refl (H : Hp) : Seqs H H := ⟨Tups.refl H, fun _ _ e => e⟩
theorem Seqs.trans {H H1 H2 : Hp} (a : Seqs H H1) (b : Seqs H1 H2) : Seqs H H2 := ⟨a.1.trans b.1, fun c xs e => b.2 c xs (a.2 c xs e)⟩
theorem seqs_same {H H' : Hp} (s : Same H H') : Seqs H H' := ⟨tups_same s, fun b xs e => s b _ e⟩
theorem FrS.refl {Ps : List Addr} {H : Hp} (t : Tabs Ps H) : FrS Ps H H := ⟨fun _ _ _ e => e, t⟩
theorem FrS.trans {Ps : List Addr} {H H1 H2 : Hp} (a : FrS Ps H H1) (b : FrS Ps H1 H2) : FrS Ps H H2 := ⟨fun x o n e => b.1 x o n (a.1 x o n e), b.2⟩
theorem FrS.of {Ps : List Addr} {H H' : Hp} (t : Tabs Ps H) (s : Same H H') : FrS Ps H H' := ⟨fun b o _ e => s b o e, fun P hP => let ⟨ps, h, q⟩ := t P hP; ⟨ps, s _ _ h, q⟩⟩
theorem FrS.same {Ps : List Addr} {H H1 H2 : Hp} (a : FrS Ps H H1) (s : Same H1 H2) : FrS Ps H H2 := a.trans (FrS.of a.2 s)
theorem FrS.one {Ps : List Addr} {P : Addr} {H H' : Hp} (t : Tabs Ps H) (hP : P ∈ Ps) (f : GxR.Tabbed P H H') : FrS Ps H H' := by
  refine ⟨fun b o n e => ?_, fun Q hQ => ?_⟩
  · rw [f.2 b (fun z => n (by rw [z]; exact hP))]
    exact e
  · by_cases z : Q = P
    · rw [z]; exact f.1
    · obtain ⟨ps, h, q⟩ := t Q hQ
      exact ⟨ps, by rw [f.2 Q z]; exact h, q⟩
theorem Tabs.tup {Ps : List Addr} {H : Hp} (t : Tabs Ps H) {b : Addr} {xs : List V} (e : H b = some (.tup xs)) : b ∉ Ps := fun z => by
  obtain ⟨ps, h, _⟩ := t b z
  rw [e] at h
  cases h
theorem Tabs.lst {Ps : List Addr} {H : Hp} (t : Tabs Ps H) {b : Addr} {xs : List V} (e : H b = some (.lst xs)) : b ∉ Ps := fun z => by
  obtain ⟨ps, h, _⟩ := t b z
  rw [e] at h
  cases h
theorem Tabs.frz {Ps : List Addr} {H : Hp} (t : Tabs Ps H) {b : Addr} {o : Obj} {u : HO} (e : H b = some (.frz o u)) : b ∉ Ps := fun z => by
  obtain ⟨ps, h, _⟩ := t b z
  rw [e] at h
  cases h
theorem FrS.seqs {Ps : List Addr} {H H' : Hp} (t : Tabs Ps H) (f : FrS Ps H H') : Seqs H H' := ⟨⟨fun b xs e => f.1 b _ (t.tup e) e, fun b o xs e => f.1 b _ (t.frz e) e⟩, fun b xs e => f.1 b _ (t.lst e) e⟩
theorem FrS.tups {Ps : List Addr} {H H' : Hp} (t : Tabs Ps H) (f : FrS Ps H H') : Tups H H' := (f.seqs t).1
theorem FrS.free {Ps : List Addr} {H H' : Hp} {b : Addr} (f : FrS Ps H H') (h : H' b = none) : H b = none := by
  cases e : H b with
  | none => rfl
  | some o =>
    by_cases z : b ∈ Ps
    · obtain ⟨ps, q, _⟩ := f.2 b z
      rw [q] at h
      cases h
    · rw [f.1 b o z e] at h
      cases h
/-- a store at a place that wasn't there at first -/
theorem FrS.put {Ps : List Addr} {H H1 : Hp} {b : Addr} {o : HO} (a : FrS Ps H H1) (n : H b = none) (nb : b ∉ Ps) : FrS Ps H (upd H1 b o) :=
  ⟨fun x u nx e => by rw [upd_ne (ne_of_none e n)]; exact a.1 x u nx e, fun P hP => by
    obtain ⟨ps, h, q⟩ := a.2 P hP
    exact ⟨ps, by rw [upd_ne (fun z : P = b => nb (by rw [← z]; exact hP))]; exact h, q⟩⟩
theorem Tabs.new {Ps : List Addr} {H : Hp} (t : Tabs Ps H) {b : Addr} (n : H b = none) : b ∉ Ps := fun z => by
  obtain ⟨ps, h, _⟩ := t b z
  rw [n] at h
  cases h
theorem Tabs.same {Ps : List Addr} {H H' : Hp} (t : Tabs Ps H) (s : Same H H') : Tabs Ps H' := (FrS.of t s).2
theorem Tabs.put {Ps : List Addr} {H : Hp} (t : Tabs Ps H) {b : Addr} {o : HO} (nb : b ∉ Ps) : Tabs Ps (upd H b o) := fun P hP => by
  obtain ⟨ps, h, q⟩ := t P hP
  exact ⟨ps, by rw [upd_ne (fun z : P = b => nb (by rw [← z]; exact hP))]; exact h, q⟩
theorem free_same {H H' : Hp} {b : Addr} (s : Same H H') (h : H' b = none) : H b = none := s.free h
theorem same_put {H H1 : Hp} {b : Addr} {o : HO} (s : Same H H1) (n : H b = none) : Same H (upd H1 b o) := fun x u e => by
  rw [upd_ne (ne_of_none e n)]
  exact s x u e
/-! ### numbers, lists -/
theorem cut_from {α : Type} (f : α → V) (l : List α) (k : Nat) : cutV (l.map f) (some (k : Int)) none = (l.drop k).map f := by
  unfold cutV
  rw [HT.sIx_nat, HT.sIx_none, List.length_map, ← List.map_drop]
  by_cases h : k ≤ l.length
  · rw [Nat.min_eq_left h, List.take_of_length_le (by rw [List.length_map, List.length_drop]; exact Nat.le_refl _)]
  · have h2 : l.drop k = [] := List.drop_eq_nil_of_le (by omega)
    rw [Nat.min_eq_right (by omega), Nat.sub_self, List.take_zero, h2]
    rfl
theorem cut_to {α : Type} (f : α → V) (l : List α) (k : Nat) : cutV (l.map f) none (some (k : Int)) = (l.take k).map f := by
  unfold cutV
  rw [HT.sIx_nat, HT.sIx_none, List.length_map, List.drop_zero, Nat.sub_zero, ← List.map_take]
  by_cases h : k ≤ l.length
  · rw [Nat.min_eq_left h]
  · rw [Nat.min_eq_right (by omega), List.take_of_length_le (Nat.le_refl _), List.take_of_length_le (by omega)]
theorem log_small {m : Int} (h0 : 0 ≤ m) (h : m < 4294967296) : m.natAbs.log2 < 9000 := by
  have e : m.natAbs < 2 ^ 32 := by omega
  by_cases z : m.natAbs = 0
  · rw [z]; decide
  · have := (Nat.log2_lt z).mpr e
    omega
def toI : V → Int
  | .int i => i
  | _ => 0
def rowAt (H : Hp) (t : Addr) : List Int := match H t with
  | some (.tup xs) => xs.map toI
  | _ => []
theorem rowAt_of {H : Hp} {t : Addr} {row : Dt.Row} (h : IsRow H t row) : rowAt H t = row := by
  unfold rowAt
  rw [show H t = some (.tup (row.map V.int)) from h]
  show (row.map V.int).map toI = row
  rw [List.map_map]
  have e : (toI ∘ V.int) = id := by funext z; rfl
  rw [e, List.map_id]
def rngI (m : Int) : List Int := (List.range m.toNat).map fun (i : Nat) => (i : Int)
theorem rngI_len (m : Int) : (rngI m).length = m.toNat := by
  unfold rngI
  rw [List.length_map, List.length_range]
theorem rngI_mem {m z : Int} (h : z ∈ rngI m) : 0 ≤ z ∧ z < m := by
  obtain ⟨i, hi, rfl⟩ := List.mem_map.mp h
  have := List.mem_range.mp hi
  omega
theorem rngI_all {m : Int} {k : Nat} (h : (k : Int) < m) : (k : Int) ∈ rngI m := List.mem_map.mpr ⟨k, List.mem_range.mpr (by omega), rfl⟩
theorem rngI_nodup (m : Int) : (rngI m).Nodup := by
  unfold rngI
  refine List.Pairwise.map _ (fun a b h z => h ?_) (List.nodup_range (n := m.toNat))
  omega
theorem rgV_eq (m : Int) : rgV 0 m = (rngI m).map V.int := by
  unfold rgV rngI
  rw [List.map_map]
  have e : (m - 0).toNat = m.toNat := by rw [Int.sub_zero]
  rw [e]
  refine List.map_congr_left fun i _ => ?_
  show V.int (0 + (i : Int)) = V.int (i : Int)
  rw [Int.zero_add]
theorem map_erase {α : Type} (f : α → V) (ls : List α) (k : Nat) : (ls.map f).eraseIdx k = (ls.eraseIdx k).map f := by
  induction ls generalizing k with
  | nil => rfl
  | cons a r ih => cases k with
    | zero => rfl
    | succ k => simp [ih]
theorem erase_perm {α : Type} : ∀ (l : List α) (k : Nat) (h : k < l.length), (l[k] :: l.eraseIdx k).Perm l
  | [], k, h => absurd h (Nat.not_lt_zero _)
  | a :: r, 0, _ => List.Perm.refl _
  | a :: r, k + 1, h => by
    have ih := erase_perm r k (Nat.lt_of_succ_lt_succ h)
    show ((r[k]'(Nat.lt_of_succ_lt_succ h)) :: a :: r.eraseIdx k).Perm (a :: r)
    exact (List.Perm.swap a _ _).trans (List.Perm.cons a ih)
theorem map_get {α : Type} {f : α → V} {l : List α} {i : Nat} {x : V} (h : (l.map f)[i]? = some x) : ∃ a, l[i]? = some a ∧ x = f a := by
  rw [List.getElem?_map] at h
  cases e : l[i]? with
  | none => rw [e] at h; cases h
  | some a => rw [e] at h; cases h; exact ⟨a, rfl, rfl⟩
theorem map_at {α : Type} {f : α → V} {l : List α} {i : Nat} {a : α} (h : l[i]? = some a) : (l.map f)[i]? = some (f a) := by
  rw [List.getElem?_map, h]
  rfl
theorem atI_of {α : Type} {f : α → V} {l : List α} {p : Int} {a : α} (h0 : 0 ≤ p) (h : l[p.toNat]? = some a) : atI (l.map f) p = some (f a) := by
  have e : p = ((p.toNat : Nat) : Int) := by omega
  have q := atI_nat (xs := l.map f) (j := p.toNat) (v := f a) (map_at h)
  rw [← e] at q
  exact q
theorem ixN_of {n : Nat} {p : Int} (h0 : 0 ≤ p) (h1 : p < n) : ixN n p = some p.toNat := by
  unfold ixN
  rw [if_pos h0, if_pos h1]
theorem take_snoc {α : Type} {l : List α} {i : Nat} {a : α} (h : l[i]? = some a) : l.take (i + 1) = l.take i ++ [a] := by
  rw [List.take_add_one, h]
  rfl
/-! ### the tape -/
def Tape (H : Hp) (tp : Addr) : Prop := ∃ b c : Int, H tp = some (.lst [.int b, .int c]) ∧ 0 ≤ b ∧ 0 ≤ c ∧ c ≤ 2147483647
def Taped (tp : Addr) (H H' : Hp) : Prop := (∀ b o, b ≠ tp → H b = some o → H' b = some o) ∧ Tape H' tp
theorem Tape.same {H H' : Hp} {tp : Addr} (h : Tape H tp) (s : Same H H') : Tape H' tp := let ⟨b, c, h1, r⟩ := h; ⟨b, c, s _ _ h1, r⟩
theorem Tape.seqs {H H' : Hp} {tp : Addr} (h : Tape H tp) (s : Seqs H H') : Tape H' tp := let ⟨b, c, h1, r⟩ := h; ⟨b, c, s.2 _ _ h1, r⟩
theorem Tape.new {H : Hp} {tp b : Addr} (h : Tape H tp) (n : H b = none) : b ≠ tp := fun z => by
  obtain ⟨_, _, h1, _⟩ := h
  rw [z, h1] at n
  cases n
theorem Tape.put {H : Hp} {tp b : Addr} {o : HO} (h : Tape H tp) (n : b ≠ tp) : Tape (upd H b o) tp := let ⟨x, c, h1, r⟩ := h; ⟨x, c, by rw [upd_ne n.symm]; exact h1, r⟩
theorem Taped.refl {H : Hp} {tp : Addr} (h : Tape H tp) : Taped tp H H := ⟨fun _ _ _ e => e, h⟩
theorem Taped.trans {H H1 H2 : Hp} {tp : Addr} (a : Taped tp H H1) (b : Taped tp H1 H2) : Taped tp H H2 := ⟨fun x o n e => b.1 x o n (a.1 x o n e), b.2⟩
theorem Taped.same {H H1 H2 : Hp} {tp : Addr} (a : Taped tp H H1) (s : Same H1 H2) : Taped tp H H2 := ⟨fun x o n e => s _ _ (a.1 x o n e), a.2.same s⟩
theorem Taped.put {H H1 : Hp} {tp b : Addr} {o : HO} (a : Taped tp H H1) (n : H b = none) (nb : b ≠ tp) : Taped tp H (upd H1 b o) :=
  ⟨fun x u nx e => by rw [upd_ne (ne_of_none e n)]; exact a.1 x u nx e, a.2.put nb⟩
theorem Taped.tups {H H' : Hp} {tp : Addr} (t : Tape H tp) (a : Taped tp H H') : Tups H H' := ⟨fun b xs e => by
  obtain ⟨_, _, h1, _⟩ := t
  exact a.1 b _ (fun z => by rw [z, h1] at e; cases e) e, fun b o xs e => by
  obtain ⟨_, _, h1, _⟩ := t
  exact a.1 b _ (fun z => by rw [z, h1] at e; cases e) e⟩
theorem Taped.free {H H' : Hp} {tp b : Addr} (a : Taped tp H H') (n : H' b = none) : H b = none := by
  cases e : H b with
  | none => rfl
  | some o =>
    have m := a.2.new n
    rw [a.1 b o m e] at n
    cases n
theorem Taped.tabs {Ps : List Addr} {H H' : Hp} {tp : Addr} (t : Tape H tp) (a : Taped tp H H') (tt : Tabs Ps H) : Tabs Ps H' := fun P hP => by
  obtain ⟨ps, h, q⟩ := tt P hP
  obtain ⟨_, _, h1, _⟩ := t
  exact ⟨ps, a.1 P _ (fun z => by rw [z, h1] at h; cases h) h, q⟩
/-- len of a list or a tuple -/
def rLen (K : PySem.W.Frag) : List V → Hp → VK → Prop := fun xs H Q => ∃ p ys, xs = [.ref p] ∧ (SqL K H p ys ∨ SqT K H p ys) ∧ Q (.int (ys.length : Nat)) H
/-! ### pairs of ints, written -/
def pairsT : List (Int × Int) → TA
  | [] => tNil
  | p :: r => tCons (tTup (tCons (tC (.int p.1)) (tCons (tC (.int p.2)) tNil))) (pairsT r)
def IsPr (H : Hp) (t : Addr) (p : Int × Int) : Prop := H t = some (.tup [.int p.1, .int p.2])
theorem pairs_read {σ : L2.St} : ∀ (prs : List (Int × Int)) (H : Hp) (k : List V → Hp → Prop), (∀ ts H', Same H H' → Paired (IsPr H') ts prs → k (ts.map V.ref) H') → pairsT prs σ H k
  | [], H, k, h => h [] H (fun _ _ e => e) .nil
  | p :: r, H, k, h => by
    refine ⟨(by show 2 ≤ sizeLine; decide), fun t nt => ?_⟩
    refine pairs_read r _ _ fun ts H' sm pr => ?_
    exact h (t :: ts) H' ((same_upd nt).trans sm) (.cons (sm _ _ upd_same) pr)
theorem pairs_list {σ : L2.St} {prs : List (Int × Int)} {H : Hp} {Q : VK} (hl : prs.length ≤ 1000) (h : ∀ l ts H', Same H H' → H l = none → H' l = some (.lst (ts.map V.ref)) → Paired (IsPr H') ts prs → Q (.ref l) H') : tLst (pairsT prs) σ H Q := by
  refine pairs_read prs H _ fun ts H' sm pr => ?_
  refine ⟨by rw [List.length_map, pairedLen pr]; exact Nat.le_of_lt (small1000 hl), fun l nl => ?_⟩
  have sl := same_upd (o := .lst (ts.map V.ref)) nl
  exact h l ts _ (sm.trans sl) (sm.free nl) upd_same (pairedMap (fun _ _ e => sl _ _ e) pr)
theorem pairs_asg {i : Nat} {prs : List (Int × Int)} {D : Ends} {σ : L2.St} {H : Hp} (hl : prs.length ≤ 1000) (h : ∀ l ts H', Same H H' → H l = none → H' l = some (.lst (ts.map V.ref)) → Paired (IsPr H') ts prs → D.nx (σ.set i (some (.ref l))) H') : tAsg (tLst (pairsT prs)) (gName i) D σ H := by
  unfold tAsg
  exact pairs_list hl fun l ts H' a b c d => h l ts H' a b c d
theorem pairs_set {i : Nat} {prs : List (Int × Int)} {u : TS} {D : Ends} {σ : L2.St} {H : Hp} (hl : prs.length ≤ 1000) (h : ∀ l ts H', Same H H' → H l = none → H' l = some (.lst (ts.map V.ref)) → Paired (IsPr H') ts prs → u D (σ.set i (some (.ref l))) H') : tSeq (tAsg (tLst (pairsT prs)) (gName i)) u D σ H := pairs_asg hl h
/-! ### things popped at drawn places -/
structure Pops {α : Type} (f : α → V) (tp : Addr) (H : Hp) (l D : Addr) (zs0 : List α) (i : Nat) (H5 : Hp) (acc ls : List α) : Prop where
  fr : Taped tp H H5
  hL : H5 l = some (.lst (ls.map f))
  hD : H5 D = some (.lst (acc.map f))
  la : acc.length = i
  ll : ls.length + i = zs0.length
  pm : (acc ++ ls).Perm zs0
theorem pop_step {α : Type} {f : α → V} {tp : Addr} {H : Hp} {l D : Addr} {zs0 : List α} {i : Nat} {H5 H6 : Hp} {acc ls : List α} {d : Int} (nl : H l = none) (nlt : l ≠ tp) (nD : H D = none) (nDt : D ≠ tp) (nlD : l ≠ D) (hz : zs0.length ≤ 999) (p : Pops f tp H l D zs0 i H5 acc ls) (D6 : Taped tp H5 H6) (d0 : 0 ≤ d) (d1 : d < (ls.length : Int)) :
    ∃ y, (ls.map f)[d.toNat]? = some y ∧ H6 l = some (.lst (ls.map f)) ∧ seqIndex? d (ls.map f).length = some d.toNat ∧ ∃ acc', upd H6 l (.lst ((ls.map f).eraseIdx d.toNat)) D = some (.lst acc') ∧ acc'.length < sizeLine ∧ ∃ acc2 ls2, Pops f tp H l D zs0 (i + 1) (upd (upd H6 l (.lst ((ls.map f).eraseIdx d.toNat))) D (.lst (acc' ++ [y]))) acc2 ls2 := by
  have hd : d.toNat < ls.length := by omega
  have hL6 := D6.1 l _ nlt p.hL
  have hD6 := D6.1 D _ nDt p.hD
  have la := p.la
  have ll := p.ll
  refine ⟨f ls[d.toNat], map_at (List.getElem?_eq_getElem hd), hL6, seqIndex_of d0 (by rw [List.length_map]; exact d1), acc.map f, ?_, ?_, acc ++ [ls[d.toNat]], ls.eraseIdx d.toNat, ?_, ?_, ?_, ?_, ?_, ?_⟩
  · rw [upd_ne (Ne.symm nlD)]
    exact hD6
  · rw [List.length_map]
    exact small1000 (by omega)
  · exact ((p.fr.trans D6).put nl nlt).put nD nDt
  · rw [upd_ne nlD, upd_same, map_erase]
  · rw [upd_same, List.map_append]
    rfl
  · rw [List.length_append, la]
    rfl
  · rw [List.length_eraseIdx_of_lt hd]
    omega
  · refine List.Perm.trans ?_ p.pm
    rw [List.append_assoc]
    exact List.Perm.append_left acc (erase_perm ls _ hd)
/-! ### lists of rows -/
def IsFills (H : Hp) (l : Addr) (fss : List (List Int)) : Prop := ∃ as : List Addr, H l = some (.lst (as.map V.ref)) ∧ Paired (IsRow H) as fss
theorem pairedSnoc {α β : Type} {F : α → β → Prop} {a : α} {b : β} : ∀ {l : List α} {m : List β}, Paired F l m → F a b → Paired F (l ++ [a]) (m ++ [b])
  | _, _, .nil, h => .cons h .nil
  | _, _, .cons h t, k => .cons h (pairedSnoc t k)
theorem pairedApp {α β : Type} {F : α → β → Prop} {l2 : List α} {m2 : List β} : ∀ {l : List α} {m : List β}, Paired F l m → Paired F l2 m2 → Paired F (l ++ l2) (m ++ m2)
  | _, _, .nil, h => h
  | _, _, .cons h t, k => .cons h (pairedApp t k)
theorem yes_if {σ : L2.St} {H : Hp} {A B : Hp → Prop} (h : A H) : tYes σ H (fun b H3 => if b = true then A H3 else B H3) := by
  dsimp only [tYes]
  rw [if_pos rfl]
  exact h
theorem longer_at {hues j : Nat} (f : List Int) (h : j < hues) : (longer hues f)[j]? = some (f ++ [(j : Int)]) := by
  unfold longer
  rw [List.getElem?_map, List.getElem?_range h]
  rfl
theorem pairedZip {α β : Type} {F : α → β → Prop} : ∀ {l : List α} {m : List β}, Paired F l m → ∃ zs : List (α × β), zs.map (·.1) = l ∧ zs.map (·.2) = m ∧ ∀ z ∈ zs, F z.1 z.2
  | _, _, .nil => ⟨[], rfl, rfl, fun _ h => nomatch h⟩
  | a :: _, b :: _, .cons h t => by
    obtain ⟨zs, h1, h2, h3⟩ := pairedZip t
    refine ⟨(a, b) :: zs, by rw [List.map_cons, h1], by rw [List.map_cons, h2], fun z hz => ?_⟩
    rcases List.mem_cons.mp hz with e | e
    · rw [e]; exact h
    · exact h3 z e
theorem pairedOf {α β : Type} {F : α → β → Prop} {g : α → β} : ∀ {l : List α}, (∀ a ∈ l, F a (g a)) → Paired F l (l.map g)
  | [], _ => .nil
  | a :: r, h => .cons (h a List.mem_cons_self) (pairedOf fun b hb => h b (List.mem_cons_of_mem _ hb))
theorem longer_nodup (hues : Nat) (f : List Int) : (longer hues f).Nodup := by
  unfold longer
  refine List.Pairwise.map _ (fun a b h z => h ?_) (List.nodup_range (n := hues))
  have := List.append_cancel_left z
  simp only [List.cons.injEq, and_true] at this
  omega
theorem flat_nodup {hues : Nat} : ∀ {l : List (List Int)}, l.Nodup → (l.flatMap (longer hues)).Nodup
  | [], _ => by simp
  | f :: r, h => by
    rw [List.flatMap_cons]
    have hh := List.nodup_cons.mp h
    refine List.nodup_append.mpr ⟨longer_nodup hues f, flat_nodup hh.2, fun a ha b hb e => ?_⟩
    obtain ⟨i, _, rfl⟩ := List.mem_map.mp ha
    obtain ⟨g, hg, hb2⟩ := List.mem_flatMap.mp hb
    obtain ⟨j, _, rfl⟩ := List.mem_map.mp hb2
    have e2 : f = g := by
      have := congrArg List.dropLast e
      simpa using this
    exact hh.1 (e2 ▸ hg)
theorem fill_nodup (hues : Nat) : ∀ n : Nat, (fillL hues n).Nodup
  | 0 => by simp [fillL]
  | n + 1 => flat_nodup (fill_nodup hues n)
/-- places rising, no row twice -/
structure Neat (wd : WD) : Prop where
  pl : wd.1.Pairwise (· < ·)
  rows : wd.2.Nodup
theorem Neat.nd {wd : WD} (h : Neat wd) : wd.1.Nodup := h.pl.imp fun z e => by omega
theorem rise_of {ps : List Int} (h : ps.Pairwise (· ≤ ·)) (n : ps.Nodup) : ps.Pairwise (· < ·) := by
  have z := List.Pairwise.and h n
  exact z.imp fun ⟨a, b⟩ => by omega
/-! ### tables of draws -/
abbrev IsInts (H : Hp) (a : Addr) (ns : List Int) : Prop := H a = some (.lst (ns.map V.int))
/-- a list of lists of ints, none of them in Av -/
def IsTab (Av : Addr → Prop) (H : Hp) (ta : Addr) (tb : List (List Int)) : Prop := ∃ das : List Addr, H ta = some (.lst (das.map V.ref)) ∧ ¬ Av ta ∧ (∀ d ∈ das, ¬ Av d) ∧ Paired (IsInts H) das tb
theorem IsTab.mono {Av : Addr → Prop} {H H' : Hp} {ta : Addr} {tb : List (List Int)} (h : IsTab Av H ta tb) (k : ∀ b xs, ¬ Av b → H b = some (.lst xs) → H' b = some (.lst xs)) : IsTab Av H' ta tb := by
  obtain ⟨das, h1, h2, h3, h4⟩ := h
  refine ⟨das, k _ _ h2 h1, h2, h3, ?_⟩
  clear h1
  induction h4 with
  | nil => exact .nil
  | @cons a b l m e t ih => exact .cons (k _ _ (h3 a List.mem_cons_self) e) (ih fun d hd => h3 d (List.mem_cons_of_mem _ hd))
theorem IsTab.seqs {Av : Addr → Prop} {H H' : Hp} {ta : Addr} {tb : List (List Int)} (h : IsTab Av H ta tb) (s : Seqs H H') : IsTab Av H' ta tb := h.mono fun b xs _ e => s.2 b xs e
theorem IsTab.weak {Av Bv : Addr → Prop} {H : Hp} {ta : Addr} {tb : List (List Int)} (h : IsTab Av H ta tb) (k : ∀ b, Bv b → Av b) : IsTab Bv H ta tb := let ⟨das, h1, h2, h3, h4⟩ := h; ⟨das, h1, fun z => h2 (k _ z), fun d hd z => h3 d hd (k _ z), h4⟩
theorem IsTab.none {Av : Addr → Prop} {H : Hp} {ta : Addr} {tb : List (List Int)} (h : IsTab Av H ta tb) : IsTab (fun _ => False) H ta tb := h.weak fun _ z => z.elim
abbrev Old (H : Hp) : Addr → Prop := fun b => H b ≠ none
theorem IsTab.taped {tp : Addr} {H H' : Hp} {ta : Addr} {tb : List (List Int)} (h : IsTab (· = tp) H ta tb) (f : Taped tp H H') : IsTab (· = tp) H' ta tb := h.mono fun b xs n e => f.1 b _ n e
theorem Tape.old {H : Hp} {tp : Addr} (h : Tape H tp) : ∀ b, b = tp → Old H b := fun b e z => by
  obtain ⟨_, _, h1, _⟩ := h
  rw [e, h1] at z
  cases z
theorem dpTabs {K : PySem.W.Frag} {H : Hp} : ∀ {das : List Addr} {tb : List (List Int)}, Paired (IsInts H) das tb → DpAll K H (das.map V.ref) (tb.map fun l => .list (l.map .int))
  | _, _, .nil => .nil
  | _, _, .cons h t => .cons (.lst (.inl (.inl h)) (dpInts _)) (dpTabs t)
theorem dpTab {K : PySem.W.Frag} {Av : Addr → Prop} {H : Hp} {ta : Addr} {tb : List (List Int)} (h : IsTab Av H ta tb) : Dp K H (.ref ta) (listsD tb) := by
  obtain ⟨das, h1, _, _, h4⟩ := h
  exact .lst (.inl (.inl h1)) (dpTabs h4)
/-! ### logs and what a run tells -/
def IsEnt (H : Hp) (e : Addr) (x : Int × List Int) : Prop := ∃ r, H e = some (.tup [.int x.1, .ref r]) ∧ IsRow H r x.2
def IsLog (H : Hp) (la : Addr) (log : Log) : Prop := ∃ es : List Addr, H la = some (.lst (es.map V.ref)) ∧ Paired (IsEnt H) es log
theorem IsEnt.mono {H H' : Hp} {e : Addr} {x : Int × List Int} (h : IsEnt H e x) (t : Tups H H') : IsEnt H' e x := let ⟨r, h1, h2⟩ := h; ⟨r, t _ _ h1, t _ _ h2⟩
theorem IsLog.seqs {H H' : Hp} {la : Addr} {log : Log} (h : IsLog H la log) (s : Seqs H H') : IsLog H' la log := let ⟨es, h1, h2⟩ := h; ⟨es, s.2 _ _ h1, pairedMap (fun _ _ e => e.mono s.1) h2⟩
theorem IsLog.keep {H H' : Hp} {la : Addr} {log : Log} (h : IsLog H la log) (t : Tups H H') (k : ∀ xs, H la = some (.lst xs) → H' la = some (.lst xs)) : IsLog H' la log := let ⟨es, h1, h2⟩ := h; ⟨es, k _ h1, pairedMap (fun _ _ e => e.mono t) h2⟩
def entD (x : Int × List Int) : PyData := .tuple [.int x.1, rowD x.2]
def logD (log : Log) : PyData := .list (log.map entD)
def endS (b : Bool) : Str := if b = true then "kept" else "spent"
def resD (R : Res) : PyData := .tuple [.str (endS R.1), rowD R.2.1, logD R.2.2]
theorem dpEnts {K : PySem.W.Frag} {H : Hp} : ∀ {es : List Addr} {log : Log}, Paired (IsEnt H) es log → DpAll K H (es.map V.ref) (log.map entD)
  | _, _, .nil => .nil
  | _, _, .cons ⟨r, h1, h2⟩ t => .cons (.tup (.inl (.inl h1)) (.cons (.int _) (.cons (dpRow h2) .nil))) (dpEnts t)
theorem dpLog {K : PySem.W.Frag} {H : Hp} {la : Addr} {log : Log} (h : IsLog H la log) : Dp K H (.ref la) (logD log) := let ⟨es, h1, h2⟩ := h; .lst (.inl (.inl h1)) (dpEnts h2)
/-- what a run tells: the tuple, the filling and the log's list, which is new -/
def IsRes (H0 H : Hp) (t : Addr) (R : Res) : Prop := ∃ fa la, H t = some (.tup [.str (endS R.1), .ref fa, .ref la]) ∧ IsRow H fa R.2.1 ∧ IsLog H la R.2.2 ∧ H0 la = none
theorem dpRes {K : PySem.W.Frag} {H0 H : Hp} {t : Addr} {R : Res} (h : IsRes H0 H t R) : Dp K H (.ref t) (resD R) := let ⟨fa, la, h1, h2, h3, _⟩ := h; .tup (.inl (.inl h1)) (.cons (.str _) (.cons (dpRow h2) (.cons (dpLog h3) .nil)))
theorem IsRes.seqs {H0 H H' : Hp} {t : Addr} {R : Res} (h : IsRes H0 H t R) (s : Seqs H H') : IsRes H0 H' t R := let ⟨fa, la, h1, h2, h3, h4⟩ := h; ⟨fa, la, s.1 _ _ h1, s.1 _ _ h2, h3.seqs s, h4⟩
theorem IsRes.old {H0 H1 H : Hp} {t : Addr} {R : Res} (h : IsRes H1 H t R) (k : ∀ b, H1 b = none → H0 b = none) : IsRes H0 H t R := let ⟨fa, la, h1, h2, h3, h4⟩ := h; ⟨fa, la, h1, h2, h3, k _ h4⟩
/-- each log's pair is fine -/
theorem fine_ent {many hues : Int} {wds : List WD} (gr : GoodR many hues wds) {x : Int × List Int} (h : 0 ≤ x.1 ∧ x.1 < (wds.length : Int) ∧ ∃ wd, wds[x.1.toNat]? = some wd ∧ x.2 ∈ wd.2) : Fine (entD x) 3 80 := by
  obtain ⟨h0, h1, wd, hw, hr⟩ := h
  have e8 := gr.eight
  have g := gr.each wd (List.mem_of_getElem? hw)
  have a := fine_int (i := x.1) h0 (by omega)
  have b : Fine (rowD x.2) 2 64 := fine_row (fun z hz => ⟨((g.row _ hr).2 z hz).1, by have := ((g.row _ hr).2 z hz).2; have := gr.h4; omega⟩) (by have := (g.row _ hr).1; have := g.three; omega)
  exact (Fine.tuple (FineAll.cons (a.mono (by omega) (Nat.le_refl _)) (FineAll.cons b (FineAll.nil _)))).mono (Nat.le_refl _) (by omega)
theorem fine_log {many hues : Int} {wds : List WD} (gr : GoodR many hues wds) {log : Log} (h : LogOk wds log) (hl : log.length ≤ 6000) : Fine (logD log) 4 600000 :=
  (Fine.list (fineAll_map log fun x hx => fine_ent gr (h x hx))).mono (Nat.le_refl _) (by omega)
theorem fine_end (b : Bool) : Fine (.str (endS b)) 1 64 := by
  cases b <;> exact ⟨by decide +kernel, by decide +kernel, by decide +kernel, by decide +kernel, by decide +kernel, by decide +kernel⟩
theorem fine_res {many hues : Int} {wds : List WD} (gr : GoodR many hues wds) {R : Res} (gf : GoodF many hues R.2.1) (h : LogOk wds R.2.2) (hl : R.2.2.length ≤ 6000) : Fine (resD R) 5 700000 :=
  (Fine.tuple (FineAll.cons ((fine_end R.1).mono (by omega) (Nat.le_refl _)) (FineAll.cons ((fine_fill gf gr.m6 gr.h4).mono (by omega) (Nat.le_refl _)) (FineAll.cons (fine_log gr h hl) (FineAll.nil _))))).mono (Nat.le_refl _) (by omega)
theorem fine_tabT {many hues : Int} {tb : List (List Int)} (m6 : many ≤ 6) (h4 : hues ≤ 4) (g : GoodT many hues tb) : Fine (listsD tb) 3 100000 := by
  have hl := g.len
  refine (Fine.list (fineAll_map tb (n := 2) (w := 15000) fun l hm => (fine_ints fun z hz => ⟨(g.hue l hm z hz).1, by have := (g.hue l hm z hz).2; omega⟩).mono (Nat.le_refl _) (by have := g.few l hm; omega))).mono (Nat.le_refl _) ?_
  have : tb.length ≤ 6 := by omega
  omega
/-! ### equality of data -/
theorem eqv_str (a b : Str) : PyData.eqv (.str a) (.str b) = (a == b) := by simp [PyData.eqv]
end Rd
namespace Gx
open PySem PySem.Spec PyProof.Rows L2 GenW
theorem tup_zipL {K : PySem.W.Frag} {a b : Addr} {xs ys : List V} {g : TG} {tt : TT} {te : TE} {vs : List Nat} {σ : L2.St} {Q : List V → Hp → Prop} {H2 : Hp} (hl : xs.length = ys.length) (hz : xs.length ≤ sizeLine) (Pv : Nat → List V → Hp → Prop) (h0 : Pv 0 [] H2) (hq : ∀ i zs H, Pv i zs H → SqL K H a xs ∧ SqL K H b ys) (hy : ∀ i zs H, Pv i zs H → zs.length ≤ i)
    (hs : ∀ i x y T zs H, xs[i]? = some x → ys[i]? = some y → Pv i zs H → H T = none → g (.ref T) (wipe σ vs) (upd H T (.tup [x, y])) fun σ2 H2 => wipe σ2 vs = wipe σ vs ∧ tt σ2 H2 fun b H3 => if b = true then te σ2 H3 fun y H4 => Pv (i + 1) (zs ++ [y]) H4 else Pv (i + 1) zs H3) (hd : ∀ zs H, Pv xs.length zs H → Q zs H) :
    ∃ W : Nat → Nat → List V → Hp → Prop, (∃ m, W 0 m [] H2) ∧ TurnsC (Itz K a b) g tt te vs σ Q W := by
  refine ⟨fun i m zs H => m = xs.length - i ∧ i ≤ xs.length ∧ Pv i zs H, ⟨xs.length, by simp, Nat.zero_le _, h0⟩, ?_⟩
  rintro i m zs H ⟨rfl, hi, p⟩
  obtain ⟨qx, qy⟩ := hq i zs H p
  by_cases hlt : i < xs.length
  · have hx : xs[i]? = some xs[i] := List.getElem?_eq_getElem hlt
    have hlt2 : i < ys.length := by omega
    have hy2 : ys[i]? = some ys[i] := List.getElem?_eq_getElem hlt2
    refine .inr ⟨⟨xs, ys, _, _, qx, qy, hx, hy2⟩, Nat.lt_of_le_of_lt (hy i zs H p) (Nat.lt_of_lt_of_le hlt hz), Pv (i + 1), fun zs' H' p' => ⟨xs.length - (i + 1), by omega, rfl, hlt, p'⟩, fun v H' y => ?_⟩
    obtain ⟨T, x', y', rfl, hT, rfl, f1, f2⟩ := y
    exact hs i x' y' T zs H (f1 xs qx) (f2 ys qy) p hT
  · have e : i = xs.length := by omega
    subst e
    exact .inl ⟨⟨xs, ys, qx, qy, Or.inl (Nat.le_refl _)⟩, hd zs H p⟩
end Gx
namespace Rd
open PySem PySem.Spec PyProof.Rows L2 Dt
def leftAt (tb : List (List Int)) (tk : List Int) (p : Int) : List Int := (leftOf tb tk).getD p.toNat []
theorem leftAt_get {tb : List (List Int)} {tk : List Int} {p : Int} (g : GoodK tb tk) (h0 : 0 ≤ p) (h1 : p < (tb.length : Int)) : (leftOf tb tk)[p.toNat]? = some (leftAt tb tk p) := by
  have h : p.toNat < (leftOf tb tk).length := by rw [left_len g]; omega
  rw [leftAt, getD_get h]
  exact List.getElem?_eq_getElem h
theorem leftAt_nil {tb : List (List Int)} {tk : List Int} {p : Int} (g : GoodK tb tk) (h0 : 0 ≤ p) (h1 : p < (tb.length : Int)) : (leftAt tb tk p = []) ↔ ¬ (atF tk p + 1 < lenAt tb p) := by
  have hp : p.toNat < tb.length := by omega
  have e := left_get g hp
  rw [leftAt_get g h0 h1] at e
  rw [Option.some.inj e, List.drop_eq_nil_iff]
  have a := g.at_ _ hp
  unfold atF lenAt
  omega
theorem eqv_ints_nil (l : List Int) : PyData.eqv (.list (l.map .int)) (.list []) = decide (l = []) := by
  cases l with
  | nil => simp [PyData.eqv, PyData.eqvAll]
  | cons a r => simp [PyData.eqv, PyData.eqvAll]
theorem any_left {tb : List (List Int)} {tk : List Int} (g : GoodK tb tk) : ∀ ps : List Int, (∀ p ∈ ps, 0 ≤ p ∧ p < (tb.length : Int)) → ((ps.map fun p => PyData.list ((leftAt tb tk p).map .int)).any fun z => PyData.eqv z (.list [])) = !canN tb tk ps
  | [], _ => rfl
  | p :: r, h => by
    have hp := h p List.mem_cons_self
    rw [List.map_cons, List.any_cons, any_left g r fun q hq => h q (List.mem_cons_of_mem _ hq), eqv_ints_nil]
    unfold canN
    rw [List.all_cons, Bool.not_and]
    congr 1
    by_cases e : leftAt tb tk p = []
    · rw [decide_eq_true e, decide_eq_false ((leftAt_nil g hp.1 hp.2).mp e)]
      rfl
    · rw [decide_eq_false e, decide_eq_true (Classical.not_not.mp fun z => e ((leftAt_nil g hp.1 hp.2).mpr z))]
      rfl
theorem stand0 {many hues : Int} {tb : List (List Int)} (g : GoodT many hues tb) {i : Nat} {ds : List Int} (h : tb[i]? = some ds) : (stand tb (zerosI tb.length))[i]? = some (atF ds 0) := by
  have hi : i < tb.length := (List.getElem?_eq_some_iff.mp h).1
  rw [stand_get (zeros_good g) hi, zeros_get, List.getD_eq_getElem?_getD, h]
  rfl
theorem left0 {many hues : Int} {tb : List (List Int)} (g : GoodT many hues tb) {i : Nat} {ds : List Int} (h : tb[i]? = some ds) : (leftOf tb (zerosI tb.length))[i]? = some (ds.drop 1) := by
  have hi : i < tb.length := (List.getElem?_eq_some_iff.mp h).1
  rw [left_get (zeros_good g) hi, zeros_get, List.getD_eq_getElem?_getD, h]
  rfl
theorem paired_upd {H : Hp} {D : Addr} {o : HO} : ∀ {l : List Addr} {m : List (List Int)}, Paired (IsInts H) l m → (∀ d ∈ l, d ≠ D) → Paired (IsInts (upd H D o)) l m
  | _, _, .nil, _ => .nil
  | a :: _, _, .cons h t, n => .cons (by show upd H D o a = _; rw [upd_ne (n a List.mem_cons_self)]; exact h) (paired_upd t fun d hd => n d (List.mem_cons_of_mem _ hd))
theorem paired_set {α β : Type} {F : α → β → Prop} : ∀ {l : List α} {m : List β} {i : Nat} {a : α} {b : β}, Paired F l m → F a b → Paired F (l.set i a) (m.set i b)
  | _, _, _, _, _, .nil, _ => .nil
  | _, _, 0, _, _, .cons _ t, h => .cons h t
  | _, _, i + 1, _, _, .cons e t, h => .cons e (paired_set (i := i) t h)
theorem paired_fresh {H : Hp} {D : Addr} {l : List Addr} {m : List (List Int)} (p : Paired (IsInts H) l m) (n : H D = none) : ∀ d ∈ l, d ≠ D := fun d hd z => by
  obtain ⟨j, hj⟩ := List.getElem?_of_mem hd
  obtain ⟨row, _, e⟩ := pairedGetL p hj
  have e2 : H d = some (.lst (row.map V.int)) := e
  rw [z, n] at e2
  cases e2
end Rd
namespace Rd
open PySem PySem.Spec PyProof.Rows L2 Dt
/-! ### the script's list, the tape and the tables, together -/
def rListO (K : PySem.W.Frag) : List V → Hp → VK → Prop := fun xs H Q => ∃ p ys, xs = [.ref p] ∧ (SqL K H p ys ∨ SqT K H p ys) ∧ ∀ l, H l = none → Q (.ref l) (upd H l (.lst ys))
theorem sq_keep {K : PySem.W.Frag} {H H' : Hp} {a : Addr} {xs : List V} (h : SqL K H a xs) (k : ∀ o, H a = some o → H' a = some o) : SqL K H' a xs := by
  rcases h with (h | ⟨o, h⟩) | h
  · exact .inl (.inl (k _ h))
  · exact .inl (.inr ⟨o, k _ h⟩)
  · exact .inr h
theorem sq_new {K : PySem.W.Frag} {H : Hp} {a tp : Addr} {xs : List V} (h : SqL K H a xs) (n : H tp = none) (e : a = tp) (H' : Hp) : SqL K H' a xs := by
  rcases h with (h | ⟨o, h⟩) | h
  · rw [e, n] at h; cases h
  · rw [e, n] at h; cases h
  · exact .inr h
theorem Tabs.sq {K : PySem.W.Frag} {Ps : List Addr} {H H' : Hp} {a : Addr} {xs : List V} (t : Tabs Ps H) (f : FrS Ps H H') (h : SqL K H a xs) : SqL K H' a xs := by
  rcases h with (h | ⟨o, h⟩) | h
  · exact .inl (.inl (f.1 _ _ (t.lst h) h))
  · exact .inl (.inr ⟨o, f.1 _ _ (fun z => by obtain ⟨ps, q, _⟩ := t a z; rw [h] at q; cases q) h⟩)
  · exact .inr h
structure LI (K : PySem.W.Frag) (a : Addr) (xs : List V) (Ps : List Addr) (tp : Addr) (H : Hp) : Prop where
  tape : Tape H tp
  tabs : Tabs Ps H
  scr : SqL K H a xs
  far : a = tp → ∀ H', SqL K H' a xs
theorem LI.frs {K : PySem.W.Frag} {a : Addr} {xs : List V} {Ps : List Addr} {tp : Addr} {H H' : Hp} (h : LI K a xs Ps tp H) (f : FrS Ps H H') : LI K a xs Ps tp H' := ⟨h.tape.seqs (f.seqs h.tabs), f.2, h.tabs.sq f h.scr, h.far⟩
theorem LI.same {K : PySem.W.Frag} {a : Addr} {xs : List V} {Ps : List Addr} {tp : Addr} {H H' : Hp} (h : LI K a xs Ps tp H) (s : Same H H') : LI K a xs Ps tp H' := h.frs (FrS.of h.tabs s)
theorem LI.taped {K : PySem.W.Frag} {a : Addr} {xs : List V} {Ps : List Addr} {tp : Addr} {H H' : Hp} (h : LI K a xs Ps tp H) (f : Taped tp H H') : LI K a xs Ps tp H' := by
  refine ⟨f.2, f.tabs h.tape h.tabs, ?_, h.far⟩
  by_cases e : a = tp
  · exact h.far e H'
  · exact sq_keep h.scr fun o => f.1 a o e
theorem fine_eqv {d : PyData} {n w : Nat} (h : Fine d n w) : PyData.eqv d d = true := PySem.SeqAt.eqv_refl d h.lay
theorem pairedRep {α β : Type} {F : α → β → Prop} {a : α} {b : β} (h : F a b) : ∀ n : Nat, Paired F (List.replicate n a) (List.replicate n b)
  | 0 => .nil
  | n + 1 => .cons h (pairedRep h n)
theorem rep_flat {α : Type} (f : α → V) (a : α) (n : Nat) : (List.replicate n [f a]).flatten = (List.replicate n a).map f := by
  rw [List.map_replicate]
  induction n with
  | zero => rfl
  | succ n ih => rw [List.replicate_succ, List.flatten_cons, ih, List.replicate_succ]; rfl
theorem goodT_rep {many hues : Int} {tb : List (List Int)} {ds : List Int} (g : GoodT many hues tb) (h : ds ∈ tb) (m0 : 0 ≤ many) : GoodT many hues (List.replicate many.toNat ds) := by
  refine ⟨by rw [List.length_replicate]; omega, fun x hx => ?_, fun x hx => ?_, fun x hx => ?_⟩
  · rw [(List.mem_replicate.mp hx).2]; exact g.one ds h
  · rw [(List.mem_replicate.mp hx).2]; exact g.few ds h
  · rw [(List.mem_replicate.mp hx).2]; exact g.hue ds h
end Rd

set_option Elab.async false
set_option linter.all false
set_option maxRecDepth 100000
set_option maxHeartbeats 4000000
/-! tuple.index of whole numbers; sorted of a tuple of tuples -/
namespace Rd
open PySem PySem.Spec PyProof.Rows L2 Dt
def rIdxT (K : PySem.W.Frag) : V → List V → Hp → VK → Prop := fun x xs H Q => ∃ (a : Addr) (ns : List Int) (k : Int), x = .ref a ∧ xs = [.int k] ∧ SqT K H a (ns.map V.int) ∧ k ∈ ns ∧ Q (.int (ns.idxOf k : Nat)) H
theorem mt_indexT {X : Cx} : MtR X "tuple.index" (rIdxT X.K) := by
  intro pins s σ H x xs v us Q I rx rxs h
  obtain ⟨a, ns, k, rfl, rfl, hs, hk, q⟩ := h
  cases rx
  obtain ⟨u, rfl, ru⟩ := rxs.one
  obtain ⟨t, rfl⟩ := ru
  obtain ⟨its, rv, ht, hz⟩ := I.tuple hs
  exact PySem.SeqAt.tuple_index_ints ht rv.ints hk ⟨.int (ns.idxOf k : Nat), H, I.tok _, ⟨_, rfl⟩, q⟩
section
variable {prog : Program} {w : World} {A : Around} {E : Value → Shared → Prop} {s : Shared}
theorem coll_tup {l : Addr} {vs : List Value} {Q : List Value → Shared → Prop} (hz : vs.length ≤ sizeLine) (hl : s.heap.IsTuple l vs.toArray) (h : Q vs { s with heap := (s.heap.push (seqObj "list" #[] 0)).update s.heap.objs.size (Obj.mapSeq (· ++ vs.toArray)) }) : wpAny (model prog w) A (collect (.ref l)) Q E s := by
  obtain ⟨o, he, hc, n, hd⟩ := id hl; unfold collect; refine wpAny_bind (wpAny_runValue (codeAny_builtin entry_proto_collect' ?_)); show wpAny _ _ (do again (.builtin "list.__iadd__" ⟨[← newList [], .ref l], []⟩)) _ _ s; refine wpAny_bind (wpAny_newList (wpAny_pure ⟨Code.quiet_builtin _ (by decide +kernel), codeAny_builtin entry_list_iadd' ?_⟩)); show wpAny _ _ (Builtin.List.listExtendWith (.ref s.heap.objs.size) (.ref l) (.ref s.heap.objs.size)) _ _ { s with heap := s.heap.push (seqObj "list" #[] 0) }; unfold Builtin.List.listExtendWith; have he2 : (s.heap.push (seqObj "list" #[] 0)).get? l = some o := Heap.get?_push_of_some _ he; refine wpAny_bind (wpAny_typeOf (T := "tuple") ⟨o, he2, hc⟩ ?_); have hy : (Value.type "tuple" == Value.type "tuple") = true := (by rfl); rw [if_pos (by rw [hy]; simp)]; refine wpAny_bind (listItems_at he2 hd ?_); refine wpAny_bind (listItems_at (xs := #[]) (n := 0) (Heap.get?_push_size _ rfl) rfl ?_); rw [if_neg (by simp)]; refine wpAny_bind (listUpdate_at (xs := #[]) (n := 0) (Heap.get?_push_size _ rfl) rfl ?_ (Nat.zero_le _) (by show (#[] ++ vs.toArray).size ≤ sizeLine + 1; simp only [Array.size_append, List.size_toArray, List.length_nil]; omega)); refine wpAny_pure ?_; show wpAny (model prog w) A (load s.heap.objs.size >>= fun ob => match ob.data with | .seq ys _ => pure ys.toList | _ => unsupported "internal:collect") Q E { s with heap := (s.heap.push (seqObj "list" #[] 0)).update s.heap.objs.size (Obj.mapSeq (· ++ vs.toArray)) }; refine wpAny_bind (wpAny_load (get?_update_seq (Heap.get?_push_size _ rfl) _) ?_); show wpAny _ _ (pure ((#[] : Array Value) ++ vs.toArray).toList) Q E _; rw [show ((#[] : Array Value) ++ vs.toArray).toList = vs by simp]; exact wpAny_pure h
theorem sorted_tup {l : Addr} {vs : List Value} {ltv : Value → Value → Bool} {Q : Value → Shared → Prop} (O : SrtO.Swo ltv) (hl : s.heap.IsTuple l vs.toArray) (hz : vs.length ≤ sizeLine)
    (hS : 2 ≤ vs.length → ∀ (h₁ : Heap) (a : Addr), h₁.get? a = some (seqObj "list" vs.toArray 0) → (∀ b o, s.heap.get? b = some o → b ≠ a ∧ h₁.get? b = some o) → SrtO.SortableO prog w A.in1.in1 { s with heap := h₁ } a vs ltv)
    (h : ∀ out : List Value, SrtO.Srtd ltv out → SrtO.Stb ltv out vs → Q (.ref (s.heap.objs.size + 1)) { s with heap := sortedAll s.heap vs out.toArray }) : wpAny (model prog w) A (call (.builtin "sorted") [.ref l]) Q E s := by
  refine Calls.call_function_entry kind_sorted plain_sorted entry_sorted (args_sorted1 _) ?_; unfold Builtin.«sorted»; refine wpAny_bind (m := checkCount "sorted" 1 1 _) (wpAny_pure ?_); refine wpAny_bind (coll_tup hz hl (wpAny_bind (wpAny_newList ?_ hz))); have e1 : ((s.heap.push (seqObj "list" #[] 0)).update s.heap.objs.size (Obj.mapSeq (· ++ vs.toArray))).objs.size = s.heap.objs.size + 1 := (by rw [Heap.size_update, size_push']); have e2 : (((s.heap.push (seqObj "list" #[] 0)).update s.heap.objs.size (Obj.mapSeq (· ++ vs.toArray))).push (seqObj "list" vs.toArray 0)).get? (s.heap.objs.size + 1) = some (seqObj "list" vs.toArray 0) := (by rw [← e1]; exact Heap.get?_push_size _ rfl)
  have kp : ∀ b o, s.heap.get? b = some o → b ≠ s.heap.objs.size + 1 ∧ (((s.heap.push (seqObj "list" #[] 0)).update s.heap.objs.size (Obj.mapSeq (· ++ vs.toArray))).push (seqObj "list" vs.toArray 0)).get? b = some o := fun b o q => by
    have lt : b < s.heap.objs.size := Heap.lt_size q
    refine ⟨Nat.ne_of_lt (Nat.lt_succ_of_lt lt), Heap.get?_push_of_some _ ?_⟩
    rw [Heap.get?_update_ne _ _ _ _ (Nat.ne_of_lt lt)]
    exact Heap.get?_push_of_some _ q
  show wpAny _ _ _ _ _ { s with heap := ((s.heap.push (seqObj "list" #[] 0)).update s.heap.objs.size (Obj.mapSeq (· ++ vs.toArray))).push (seqObj "list" vs.toArray 0) }; rw [e1]; refine wpAny_bind (wpAny_holding (wpAny_call_entry slot_list_sort ⟨_, e2, rfl⟩ entry_list_sort (SrtO.list_sort_ord O e2 hz (fun h2 => hS h2 _ _ e2 kp) fun out hs hb => ⟨_, rfl, ?_⟩) (args_list_sort _))); exact wpAny_pure ⟨_, rfl, h out hs hb⟩
end
def rSortedU (K : PySem.W.Frag) : List V → Hp → VK → Prop := fun vs H Q => ∃ (a : Addr) (ts : List Addr) (k : Addr → List Int) (d : Nat) (B : Int), vs = [.ref a] ∧ SqT K H a (ts.map V.ref) ∧ 1 ≤ d ∧ (∀ t ∈ ts, H t = some (.tup ((k t).map V.int)) ∧ (k t).length = d ∧ TS.Bd B (k t)) ∧
  ∀ (ts' : List Addr) (p : Addr), ts'.Perm ts → H p = none → Q (.ref p) (upd H p (.lst (ts'.map V.ref)))
theorem cr_sortedU {X : Cx} : CallR X (.builtin "sorted") (rSortedU X.K) := by
  intro pins s σ H vs us Q I r h
  obtain ⟨a, ts, k, d, B, rfl, hs, hd, ht, q⟩ := h
  obtain ⟨its, rv, hl, hz⟩ := I.tuple hs
  obtain ⟨u, rfl, ru⟩ := vals1 r
  cases (show u = Value.ref a from ru)
  obtain rfl := Tt.vals_refs rv
  have tup : ∀ t ∈ ts, TS.TupInts s.heap (.ref t) (k t) := fun t hm => by
    obtain ⟨_, its, rr, hT⟩ := I.hok t _ (ht t hm).1
    exact ⟨t, its.toArray, rfl, hT, by simpa using rr.ints⟩
  have ok : TS.TupsOk s.heap d B (ts.map Value.ref) := fun v hv => by
    obtain ⟨t, hm, rfl⟩ := List.mem_map.mp hv
    exact ⟨k t, tup t hm, (ht t hm).2.1, (ht t hm).2.2⟩
  have rk_at : ∀ v ∈ ts.map Value.ref, ∀ ns, TS.TupInts s.heap v ns → Tt.rk s.heap B v = TS.code B ns := fun v _ ns t => by
    unfold Tt.rk
    rw [t.ints]
  refine sorted_tup (Tt.swo_rk (Tt.rk s.heap B)) hl (by rw [← rv.length]; exact hz) (fun h2 h₁ a' ha' kk => ?_) fun out so sb => ?_
  · have keep : ∀ b o, s.heap.get? b = some o → o.cls = .type "tuple" → h₁.get? b = some o := fun b o e _ => (kk b o e).2
    refine Tt.sortable (s := { s with heap := h₁ }) hd h2 (ok.keeps keep) (fun o e c => ?_) (Tt.rk s.heap B) fun v hv ns t => ?_
    · have e' := Option.some.inj (e.symm.trans ha')
      rw [e'] at c
      exact absurd (Value.type.inj c) (by decide)
    · obtain ⟨n0, t0, _⟩ := ok v hv
      rw [show ns = n0 from t.ints.symm.trans (t0.keeps keep).ints]
      exact rk_at v hv n0 t0
  · obtain ⟨ep, he⟩ := PyProof.Rows.sortedAll_at s.heap (ts.map Value.ref) out.toArray
    have pm := sb.perm
    obtain ⟨ts', rfl, pt⟩ : ∃ ts' : List Addr, out = ts'.map Value.ref ∧ ts'.Perm ts := by
      have back : ∀ v ∈ out, ∃ t, v = Value.ref t := fun v hv => by
        obtain ⟨t, _, e⟩ := List.mem_map.mp (pm.mem_iff.mp hv)
        exact ⟨t, e.symm⟩
      have g : ∀ l : List Value, (∀ v ∈ l, ∃ t, v = Value.ref t) → ∃ m : List Addr, l = m.map Value.ref := by
        intro l
        induction l with
        | nil => intro _; exact ⟨[], rfl⟩
        | cons v r ih =>
          intro hv
          obtain ⟨t, rfl⟩ := hv v List.mem_cons_self
          obtain ⟨m, rfl⟩ := ih fun z hz => hv z (List.mem_cons_of_mem _ hz)
          exact ⟨t :: m, rfl⟩
      obtain ⟨m, rfl⟩ := g out back
      let f : Value → Addr := fun v => match v with | .ref t => t | _ => 0
      have q2 := pm.map f
      rw [List.map_map, List.map_map] at q2
      have e1 : (f ∘ Value.ref) = id := by funext z; rfl
      rw [e1, List.map_id, List.map_id] at q2
      exact ⟨m, rfl, q2⟩
    refine ⟨.ref (s.heap.objs.size + 1), _, I.laid (t' := s.toks) (o := .lst (ts'.map V.ref)) (fun _ _ => PyProof.Rows.sortedAll_old) (Nat.le_succ _) ⟨?_, ts'.map Value.ref, ep, Tt.refs_vals ts', he⟩, rfl, q ts' _ pt (I.hok.fresh (Nat.le_succ _))⟩
    rw [List.length_map, pt.length_eq]
    rw [List.length_map] at hz
    exact hz
theorem for_enumL {K : PySem.W.Frag} {a : Addr} {xs : List V} {g : TG} {tb : TS} {D : Ends} {σ : L2.St} {H : Hp} (Pv : Nat → L2.St → Hp → Prop) (h0 : Pv 0 σ H) (hl : ∀ i σ H, i ≤ xs.length → Pv i σ H → SqL K H a xs)
    (hs : ∀ i x σ H T, xs[i]? = some x → Pv i σ H → H T = none → g (.ref T) σ (upd H T (.tup [.int (i : Nat), x])) fun σ2 H2 => tb { D with nx := Pv (i + 1), ct := Pv (i + 1), bk := D.nx } σ2 H2) (hd : ∀ σ H, Pv xs.length σ H → D.nx σ H) :
    ∃ W : Nat → Nat → L2.St → Hp → Prop, (∃ m, W 0 m σ H) ∧ ∀ i m σ H, W i m σ H →
      ((Ite K a).stop i H ∧ D.nx σ H) ∨ ((Ite K a).go i H ∧ ∃ N : L2.St → Hp → Prop, (∀ σ' H', N σ' H' → ∃ m', m' < m ∧ W (i + 1) m' σ' H') ∧ ∀ x H', (Ite K a).yld i H x H' → g x σ H' fun σ2 H2 => tb { D with nx := N, ct := N, bk := D.nx } σ2 H2) := by
  refine ⟨fun i m σ H => i + m = xs.length ∧ Pv i σ H, ⟨xs.length, by omega, h0⟩, ?_⟩
  rintro i m σ H ⟨e, p⟩
  have q := hl i σ H (by omega) p
  by_cases c : i < xs.length
  · refine .inr ⟨⟨xs, xs[i], q, List.getElem?_eq_getElem c⟩, Pv (i + 1), fun σ' H' p' => ⟨m - 1, by omega, by omega, p'⟩, fun v H' hy => ?_⟩
    obtain ⟨T, x, rfl, nT, rfl, fx⟩ := hy
    exact hs i x σ H T (fx xs q) p nT
  · have e2 : i = xs.length := by omega
    subst e2
    exact .inl ⟨⟨xs, q, Nat.le_refl _⟩, hd σ H p⟩
theorem ip_mul {X : Cx} : PIp X .Mult (fun x y H Q => ∃ i j, x = .int i ∧ y = .int j ∧ CMul i j ∧ Q (.int (i * j)) H) := by
  intro pins s σ H x y v u Q I r1 r2 h
  obtain ⟨i, j, e1, e2, hm, q⟩ := h
  subst e1; subst e2
  obtain ⟨t, rfl⟩ := r1
  obtain ⟨t', rfl⟩ := r2
  exact imul_int ⟨.int _, H, I.tok _, ⟨_, rfl⟩, q⟩ hm.ok
theorem pow_bd {n : Int} (h0 : 0 ≤ n) (h4 : n ≤ 4) {i : Nat} (hi : i ≤ 6) : 0 ≤ n ^ i ∧ n ^ i ≤ 4096 := by
  obtain ⟨m, rfl⟩ : ∃ m : Nat, n = m := ⟨n.toNat, by omega⟩
  have := pow_le_4096 (show m ≤ 4 by omega) hi
  constructor
  · exact Int.pow_nonneg h0
  · exact_mod_cast this
/-! ### a tuple whose object is known -/
def rTupF (K : PySem.W.Frag) : List V → Hp → VK → Prop := fun xs H Q => ∃ p ys, xs = [.ref p] ∧ SqL K H p ys ∧ ∀ l (o : Obj), H l = none → o.cls = .type "tuple" → o.dict = none → Q (.ref l) (upd H l (.frz o (.tup ys)))
theorem call_tupF {X : Cx} : CallR X (.type "tuple") (rTupF X.K) := by
  intro pins s σ H xs us Q I r h
  obtain ⟨p, ys, rfl, hq, q⟩ := h
  obtain ⟨u, rfl, rx⟩ := vals1 r
  cases rx
  obtain ⟨its, r', pl, hz⟩ := I.list hq
  have hlen := r'.length
  refine call_tuple_list pl.isList (fun h' kp => ?_) (by simp only [List.size_toArray] <;> omega)
  have J1 : Inv X pins σ H { s with heap := h' } := I.kept (t' := s.toks) kp
  have ob : ObjOk X.prog X.w (upd H h'.objs.size (.frz { cls := .type "tuple", data := .seq its.toArray } (.tup ys))) (h'.push { cls := .type "tuple", data := .seq its.toArray }) h'.objs.size (.frz { cls := .type "tuple", data := .seq its.toArray } (.tup ys)) := ⟨Heap.get?_push_size _ rfl, hz, its, r', IsTup.new _ _⟩
  exact ⟨.ref h'.objs.size, _, J1.laid (t' := s.toks) (fun b o e => Heap.get?_push_of_some _ e) (Nat.le_refl _) ob, rfl, q _ _ (J1.hok.fresh (Nat.le_refl _)) rfl rfl⟩
/-- a method of such a tuple -/
def tBMF (r : V → List V → Hp → VK → Prop) (to : TE) (t : TA) : TE := fun σ H Q => to σ H fun x H1 => (∃ a o u, x = .ref a ∧ H1 a = some (.frz o u) ∧ o.cls = .type "tuple" ∧ o.dict = none) ∧ t σ H1 fun vs H2 => r x vs H2 Q
theorem pe_bmF {X : Cx} {o e : Expr} {es : List Expr} {to : TE} {t : TA} {name : Str} {apos cpos : Pos} {id : String} {r : V → List V → Hp → VK → Prop} (pa : PlainAttrs "tuple") (slot : Slot "tuple" name id) (hty : typeOf (.builtin id) = pure (.type "method_descriptor")) (hm : MtR X id r) (ho : PE X o to) (ha : PA X (e :: es) t)
    (hbase : attributeBase o name X.env (eval o X.env) = eval o X.env := by rfl) (hfew : ((backTo cpos (starEach (e :: es) X.env)).all (fun x => !x.1) && (backToKw cpos (keywordEach [] X.env)).all (fun x => x.1.isSome) && decide ((e :: es).length + ([] : List Keyword).length + (if ([] : List Keyword).isEmpty then 0 else 1) < 30)) = true := by rfl)
    (hline : (apos.endLine == cpos.line) = true := by rfl) (hs : starEach (e :: es) X.env = (false, eval e X.env) :: starEach es X.env := by rfl) (hplain : (backTo cpos (starEach es X.env)).any (·.1) = false := by rfl) : PE X (.Call (.Attribute o name apos) (e :: es) [] cpos) (tBMF r to t) := ⟨fun pins s σ H Q I h => by
  refine wpAny_Call_method_late hbase hfew hline rfl (thn (ho.run pins s σ H _ I h) fun v s1 ⟨x, H1, I1, r1, ⟨a, ob, u, ex, e1, e2, e3⟩, q1⟩ => ?_)
  subst ex
  cases r1
  have gt : s1.heap.get? a = some ob := (I1.hok a _ e1).1
  refine ⟨"tuple", id, pa, slot, hty, ⟨ob, gt, e2⟩, fun b e4 => by cases e4; exact ⟨ob, gt, e3⟩, ?_⟩
  have hA := ha.run cpos pins s1 σ H1 _ I1 q1; rw [hs] at hA ⊢
  refine Calls.callWith_builtin (by show (false || (backTo cpos (starEach es X.env)).any (·.1)) = false; rw [hplain] <;> rfl) (Calls.evalArgs_plain (thn hA fun us s2 ⟨vs, H2, I2, r2, q2⟩ => ?_))
  exact hm pins s2 σ H2 (.ref a) vs (.ref a) us Q I2 rfl r2 q2⟩
def rTupO (K : PySem.W.Frag) : List V → Hp → VK → Prop := fun xs H Q => ∃ p ys, xs = [.ref p] ∧ ((SqL K H p ys ∧ ∀ l, H l = none → Q (.ref l) (upd H l (.tup ys))) ∨ (SqT K H p ys ∧ Q (.ref p) H))
def rNotInU (K : PySem.W.Frag) : R2 := fun x y H Q => ∃ d ds, Dp K H x d ∧ Dp K H y (.tuple ds) ∧ SeqAt.shaped d = true ∧ SeqAt.shaped (.tuple ds) = true ∧ Q (.bl (!ds.any fun z => PyData.eqv z d)) H
theorem op_notInU {X : Cx} (hu : X.A.units + 65 < cLine) : OpR X (compareOp .NotIn) (rNotInU X.K) := by
  intro pins s σ H x y v u Q I rx ry h
  obtain ⟨d, ds, hd, he, sd, se, q⟩ := h
  obtain ⟨as, r1⟩ := Dp.reads I d x v hd rx
  obtain ⟨bs, r2⟩ := Dp.reads I (.tuple ds) y u he ry
  exact SeqAt.notIn_tuple_reads r2 r1 (SeqAt.canLay_of_shaped se) (SeqAt.canLay_of_shaped sd) (room_in_shaped sd hu) ⟨.bl _, H, I, rfl, q⟩
theorem fine_bool (b : Bool) : Fine (.bool b) 1 2 := by
  refine ⟨rfl, by simp [PyData.depth], by simp [PyData.weight], rfl, rfl, rfl⟩
theorem fine_bb (a b : Bool) : Fine (.tuple [.bool a, .bool b]) 2 8 := (Fine.tuple (.cons (fine_bool a) (.cons (fine_bool b) (.nil _)))).mono (by omega) (by omega)
end Rd

set_option Elab.async false
set_option linter.all false
set_option maxRecDepth 100000
set_option maxHeartbeats 4000000
/-! zip of lists and tuples, each of either kind -/
namespace Rd
open PySem PySem.Spec PyProof.Rows L2 Dt
/-- a list, or a tuple -/
def sqB (k : Bool) (K : PySem.W.Frag) (H : Hp) (a : Addr) (xs : List V) : Prop := if k = true then SqL K H a xs else SqT K H a xs
def itB (k : Bool) (h : Heap) (it l : Addr) (i : Nat) : Prop := if k = true then h.IsListIter it l i else h.IsTupleIter it l i
def isB (k : Bool) (h : Heap) (l : Addr) (xs : Array Value) : Prop := if k = true then h.IsList l xs else h.IsTuple l xs
def obB (k : Bool) (l : Addr) : Obj := { cls := .type (if k = true then "list_iterator" else "tuple_iterator"), data := .fields #[.ref l, .int 0 0] }
theorem drawsB {prog : Program} {w : World} {A : Around} (hh : A.handled = none) (k : Bool) (it l : Addr) (hne : l ≠ it) (items : Array Value) :
    Draws prog w A it [it, l] items.size (fun i v => items[i]? = some v) (fun i h => itB k h it l i ∧ isB k h l items) := by
  cases k with
  | true => exact Draws.list hh it l hne items
  | false => exact Draws.tuple hh it l hne items
theorem beginsB (k : Bool) (l : Addr) (items : Array Value) : Begins (.ref l) (obB k l) fun h => isB k h l items := by
  cases k with
  | true => exact begins_list l items
  | false => exact begins_tuple l items
theorem Inv_seqB {X : Cx} {pins : List (Addr × Obj)} {σ : L2.St} {H : Hp} {s : Shared} (I : Inv X pins σ H s) {k : Bool} {a : Addr} {xs : List V} (h : sqB k X.K H a xs) : ∃ its : List Value, Vals xs its ∧ isB k s.heap a its.toArray ∧ a < s.heap.objs.size := by
  cases k with
  | true =>
    obtain ⟨its, rv, p, _⟩ := I.list h
    exact ⟨its, rv, p.isList, p.lt⟩
  | false =>
    obtain ⟨its, rv, p, _⟩ := I.tuple h
    obtain ⟨o, e, _⟩ := id p
    exact ⟨its, rv, p, Heap.lt_size e⟩
theorem Inv_injB {X : Cx} {pins : List (Addr × Obj)} {σ : L2.St} {H : Hp} {s : Shared} (I : Inv X pins σ H s) {k : Bool} {a : Addr} {xs ys : List V} (h : sqB k X.K H a xs) (h' : sqB k X.K H a ys) : xs = ys := by
  cases k with
  | true => exact I.list_inj h h'
  | false => exact I.tuple_inj h h'
theorem itB_at {k : Bool} {h h' : Heap} {it l : Addr} {i : Nat} (x : itB k h it l i) (e : ∀ o, h.get? it = some o → h'.get? it = some o) : itB k h' it l i := by
  cases k with
  | true => exact Heap.IsListIter.at x e
  | false => exact Heap.IsTupleIter.at x e
theorem itB_obj {k : Bool} {h : Heap} {it l : Addr} {i : Nat} (x : itB k h it l i) : ∃ o, h.get? it = some o ∧ ∀ v, o.data ≠ .cell v := by
  cases k with
  | true =>
    obtain ⟨o, e, _, d⟩ := x
    exact ⟨o, e, fun v q => by rw [d] at q; cases q⟩
  | false =>
    obtain ⟨o, e, _, d⟩ := x
    exact ⟨o, e, fun v q => by rw [d] at q; cases q⟩
theorem itB_new {k : Bool} {h : Heap} {it l : Addr} (e : h.get? it = some (obB k l)) : itB k h it l 0 := by
  cases k with
  | true => exact ⟨_, e, rfl, rfl⟩
  | false => exact ⟨_, e, rfl, rfl⟩
/-- both as they stand at each turn, the items in new pairs -/
def ItzM (k1 k2 : Bool) (K : PySem.W.Frag) (a b : Addr) : It :=
  ⟨fun i H => ∃ (xs ys : List V) (x y : V), sqB k1 K H a xs ∧ sqB k2 K H b ys ∧ xs[i]? = some x ∧ ys[i]? = some y,
    fun i H v H' => ∃ T x y, v = .ref T ∧ H T = none ∧ H' = upd H T (.tup [x, y]) ∧ (∀ xs, sqB k1 K H a xs → xs[i]? = some x) ∧ ∀ ys, sqB k2 K H b ys → ys[i]? = some y,
    fun i H => ∃ xs ys : List V, sqB k1 K H a xs ∧ sqB k2 K H b ys ∧ i ≤ xs.length ∧ i ≤ ys.length ∧ (xs.length = i ∨ ys.length = i)⟩
def ZM (k1 k2 : Bool) (a b z TI TO i1 i2 : Addr) (i : Nat) (h : Heap) : Prop := IsZip h z TI TO .none ∧ IsTupOf2 h TI (.ref i1) (.ref i2) ∧ (∃ x y, IsTupOf2 h TO x y) ∧ itB k1 h i1 a i ∧ itB k2 h i2 b i
theorem turn_zipM {P : Program} {w : World} {K : PySem.W.Frag} {elts : List Expr} {kk : Nat} {tpos : Pos} {k1 k2 : Bool} {a b z TI TO i1 i2 : Addr} (D : ZipApart z TI TO i1 i2 a b) :
    Turn P w K (.Tuple elts kk tpos) (ItzM k1 k2 K a b) [z, TI, TO, i1, i2] z (ZM k1 k2 a b z TI TO i1 i2) where
  mem := List.mem_cons_self
  obj := fun i h st c hc => by
    obtain ⟨hz, hTI, ⟨x, y, hTO⟩, h1, h2⟩ := st
    simp only [List.mem_cons, List.not_mem_nil, or_false] at hc
    rcases hc with rfl | rfl | rfl | rfl | rfl
    · exact ⟨_, hz, fun v q => nomatch q⟩
    · exact ⟨_, hTI, fun v q => nomatch q⟩
    · exact ⟨_, hTO, fun v q => nomatch q⟩
    · exact itB_obj h1
    · exact itB_obj h2
  keep := fun i h h' st k => by
    obtain ⟨hz, hTI, ⟨x, y, hTO⟩, h1, h2⟩ := st
    exact ⟨k z (by simp) _ hz, k TI (by simp) _ hTI, ⟨x, y, k TO (by simp) _ hTO⟩, itB_at h1 fun o q => k i1 (by simp) o q, itB_at h2 fun o q => k i2 (by simp) o q⟩
  item := by
    intro X hP hw hK hc i pins s σ H E I hf st hg
    subst hP hw hK
    obtain ⟨hz, hTI, ⟨x0, y0, hTO⟩, h1, h2⟩ := st
    obtain ⟨xs, ys, x, y, hqx, hqy, hx, hy⟩ := hg
    obtain ⟨its, rv, p, _⟩ := Inv_seqB I hqx
    obtain ⟨its2, rv2, p2, _⟩ := Inv_seqB I hqy
    obtain ⟨u, hu, ru⟩ := rv.get hx
    obtain ⟨u2, hu2, ru2⟩ := rv2.get hy
    have hzl : z < s.heap.objs.size := Heap.lt_size hz
    have hh : X.A.in1.handled = none := I.ok.hd hc
    have S : ZipSep2 z TI TO i1 i2 [i1, a] [i2, b] := ⟨D.TIz, D.TOz, D.TITO, D.TIi1, by simp, by simp [D.i1z.symm, D.l1z.symm], by simp [D.TOi1, D.l1TO.symm], D.TIi2, by simp, by simp [D.i2z.symm, D.l2z.symm], by simp [D.TOi2, D.l2TO.symm], by simp [D.i12, D.l2i1.symm], by simp [D.i12.symm, D.l1i2.symm]⟩
    have iu : its.toArray[i]? = some u := by simpa using hu
    have iu2 : its2.toArray[i]? = some u2 := by simpa using hu2
    refine wpAny_pyNext_zipD2_item S (drawsB hh k1 i1 a D.l1i1 its.toArray) (drawsB hh k2 i2 b D.l2i2 its2.toArray) hz hTI hTO ⟨h1, p⟩ ⟨h2, p2⟩ (Array.getElem?_eq_some_iff.mp iu).1 (Array.getElem?_eq_some_iff.mp iu2).1 fun v v2 h' tk e1 e2 z' TO' s1' s2' hT hsz hk => ?_
    rw [iu] at e1
    rw [iu2] at e2
    cases e1
    cases e2
    refine ⟨_, rfl, wpAny_letOwnedTupleGo_zip (s := { s with heap := h', toks := tk }) z' fun h'' z'' sb => ?_⟩
    have hT2 : h''.get? s.heap.objs.size = some { cls := .type "tuple", data := .seq #[u, u2] } := (sb.2 _ (Nat.ne_of_gt hzl)).trans hT
    have new : ObjOk X.prog X.w (upd H s.heap.objs.size (.tup [x, y])) h'' s.heap.objs.size (.tup [x, y]) :=
      ⟨by show 2 ≤ sizeLine; decide, [u, u2], .cons ru (.cons ru2 .nil), ⟨_, hT2, rfl, _, rfl⟩⟩
    have I1 : Inv X pins σ (upd H s.heap.objs.size (.tup [x, y])) { s with heap := h'', toks := tk } :=
      I.turnedNew (t' := tk) (ch := [z, TI, TO, i1, i2]) (fun c o hb q => (sb.2 c (fun q' => hb (by simp [q']))).trans (hk c o (fun q' => hb (by simp [q'])) (fun q' => hb (by simp [q'])) (fun q' => hb (by simp [q'])) (fun q' => hb (by simp [q'])) q)) hf (Nat.le_refl _) new
    refine ⟨.ref s.heap.objs.size, _, I1, rfl, ⟨_, x, y, rfl, I.hok.fresh (Nat.le_refl _), rfl, fun l hl => by rw [Inv_injB I hl hqx]; exact hx, fun l hl => by rw [Inv_injB I hl hqy]; exact hy⟩, ⟨z'', ?_, ⟨u, u2, ?_⟩, ?_, ?_⟩, fun c hcm => ?_⟩
    · exact (sb.2 _ D.TIz).trans (hk _ _ D.TIz D.TITO D.TIi1 D.TIi2 hTI)
    · exact (sb.2 _ D.TOz).trans TO'
    · exact itB_at s1'.1 fun o q => (sb.2 _ D.i1z).trans q
    · exact itB_at s2'.1 fun o q => (sb.2 _ D.i2z).trans q
    · have hlt : c < s.heap.objs.size := by
        obtain ⟨_, q1, _⟩ := itB_obj h1
        obtain ⟨_, q2, _⟩ := itB_obj h2
        simp only [List.mem_cons, List.not_mem_nil, or_false] at hcm
        rcases hcm with rfl | rfl | rfl | rfl | rfl
        · exact hzl
        · exact Heap.lt_size hTI
        · exact Heap.lt_size hTO
        · exact Heap.lt_size q1
        · exact Heap.lt_size q2
      rw [upd_ne (Nat.ne_of_lt hlt)]
      exact (hf c hcm).1
  done := by
    intro X hP hw hK hc i pins s σ H E I hf st hg
    subst hP hw hK
    obtain ⟨hz, hTI, ⟨x0, y0, hTO⟩, h1, h2⟩ := st
    obtain ⟨xs, ys, hqx, hqy, l1, l2, hend⟩ := hg
    obtain ⟨its, rv, p, _⟩ := Inv_seqB I hqx
    obtain ⟨its2, rv2, p2, _⟩ := Inv_seqB I hqy
    have e1 := rv.length
    have e2 := rv2.length
    have hh : X.A.in1.handled = none := I.ok.hd hc
    have S : ZipSep2 z TI TO i1 i2 [i1, a] [i2, b] := ⟨D.TIz, D.TOz, D.TITO, D.TIi1, by simp, by simp [D.i1z.symm, D.l1z.symm], by simp [D.TOi1, D.l1TO.symm], D.TIi2, by simp, by simp [D.i2z.symm, D.l2z.symm], by simp [D.TOi2, D.l2TO.symm], by simp [D.i12, D.l2i1.symm], by simp [D.i12.symm, D.l1i2.symm]⟩
    refine wpAny_pyNext_zipD2_end S (drawsB hh k1 i1 a D.l1i1 its.toArray) (drawsB hh k2 i2 b D.l2i2 its2.toArray) hz hTI hTO ⟨h1, p⟩ ⟨h2, p2⟩ (by simp; omega) (by simp; omega) (by simp; omega) fun h' tk hk => ⟨rfl, I.turnedL (t' := tk) (ch := [z, TI, TO, i1, i2]) (fun c o hb q =>
      hk c o (fun q' => hb (by simp [q'])) (fun q' => hb (by simp [q'])) (fun q' => hb (by simp [q'])) (fun q' => hb (by simp [q'])) q) hf⟩
  self := fun A i s Q E st h => wpAny_pyIter_zip st.1 h
def iZipM (K : PySem.W.Frag) (ta : TA) : TI := fun σ H R => ta σ H fun vs H1 => ∃ (k1 k2 : Bool) (a b : Addr) (xs ys : List V), vs = [.ref a, .ref b] ∧ sqB k1 K H1 a xs ∧ sqB k2 K H1 b ys ∧ R (ItzM k1 k2 K a b) H1
theorem pi_zipM {X : Cx} {e e2 : Expr} {ta : TA} {p pos tpos : Pos} {elts : List Expr} {kk : Nat} (hg : Gl X "zip") (hm : X.mg "zip" = none) (ha : PA X [e, e2] ta)
    (hs : starEach [e, e2] X.env = (false, eval e X.env) :: starEach [e2] X.env := by rfl) (hpl : (backTo pos (starEach [e2] X.env)).any (·.1) = false := by rfl) :
    PI X (.Tuple elts kk tpos) (.Call (.Name "zip" p) [e, e2] [] pos) (iZipM X.K ta) := by
  refine ⟨fun pins s σ H R I h => ?_⟩
  refine Call_ (ld_blt I hg hm PyProof.Rows.boot_zip (PyProof.Rows.callWith_type1 (thn (ha.run pos pins s σ H _ I h) fun us s1 ⟨vs, H1, I1, r1, q1⟩ => ?_) hs hpl))
  obtain ⟨k1, k2, a, b, xs, ys, ex, hqx, hqy, q⟩ := q1
  subst ex
  obtain ⟨u, u2, rfl, ru, ru2⟩ := vals2 r1
  cases ru
  cases ru2
  obtain ⟨its, rv, p1, la⟩ := Inv_seqB I1 hqx
  obtain ⟨its2, rv2, p2, lb⟩ := Inv_seqB I1 hqy
  have fr : ∀ c, c ∈ [s1.heap.objs.size + 4, s1.heap.objs.size + 2, s1.heap.objs.size + 3, s1.heap.objs.size, s1.heap.objs.size + 1] → FpOk X pins H1 c := fun c hcm => by
    have hle : s1.heap.objs.size ≤ c := by
      simp only [List.mem_cons, List.not_mem_nil, or_false] at hcm
      rcases hcm with rfl | rfl | rfl | rfl | rfl
      · exact Nat.le_add_right _ _
      · exact Nat.le_add_right _ _
      · exact Nat.le_add_right _ _
      · exact Nat.le_refl _
      · exact Nat.le_add_right _ _
    exact I1.fpOk hle (I1.hok.fresh hle)
  refine zip_begins2 (beginsB k1 a its.toArray) (beginsB k2 b its2.toArray) p1 p2 fun h' hz hTI hTO h1 h2 hsz hk => wpAny_pyIter_zip hz ?_
  have I2 : Inv X pins σ H1 { s1 with heap := h' } := I1.kept (t' := s1.toks) hk
  exact ⟨s1.heap.objs.size + 4, [s1.heap.objs.size + 4, s1.heap.objs.size + 2, s1.heap.objs.size + 3, s1.heap.objs.size, s1.heap.objs.size + 1], _, _, H1, rfl, I2, turn_zipM (PySem.W.ktu_apart s1.heap.objs.size a b la lb), ⟨hz, hTI, ⟨_, _, hTO⟩, itB_new h1, itB_new h2⟩, fr, q⟩
end Rd

set_option Elab.async false
set_option linter.all false
set_option maxRecDepth 100000
set_option maxHeartbeats 4000000
/-! dicts whose keys are tuples: comprehensions, len, dict(pairs) -/
namespace Rd
open PySem PySem.Spec PyProof.Rows L2 Dt
theorem d_dictSetT {X : Cx} {pins : List (Addr × Obj)} {σ : L2.St} {H : Hp} {s : Shared} {E : Value → Shared → Prop} {D b : Addr} {kvs : List (List Key × V)} {k : List Key} {v : V} {r : Value} {Q : Unit → Shared → Prop} (hu : X.A.units + 1 < cLine) (I : Inv X pins σ H s) (hD : H D = some (.dT kvs)) (hz : kvs.length < sizeLine)
    (eb : H b = some (.tup (k.map kV))) (rv : RelV v r) (h : ∀ s', Inv X pins σ (upd H D (.dT (putK kvs k v))) s' → Q () s') : wpAny (model X.prog X.w) X.A (dictSet D (.ref b) r) Q E s := by
  obtain ⟨z, hd, xs, rel, dd⟩ := dt_of I.hok hD
  have hzv : xs.length ≤ sizeLine := by rw [← Paired.length rel]; exact z
  have hl : (putK kvs k v).length ≤ sizeLine := by have := length_putK kvs k v; omega
  refine wpAny_dictSet_heap (hsz := hzv) (knd := tupleKind (mixKind X.prog X.w)) (Nat.lt_of_succ_lt hu) (key_of I.hok eb) dd fun h' dd' hs => h _ ?_
  obtain ⟨q, es, ep, hq, h2, h3, h4, _, h5⟩ := dd'
  refine d_write I (by rw [hD]; exact True.intro) hs ⟨q, hq⟩ ⟨hl, hd, _, (rel.put k eb rv).keeps fun c ys ec => ?_, q, es, ep, hq, h2, h3, h4, h5⟩
  rw [upd_ne (ne_of ec hD (fun z => nomatch z))]
  exact ec
section
variable {X : Cx}
/-- {k: v for target in iter if ..}, keys ints or texts: D the new dict -/
def tDcT (wi : TI) (g : TG) (tt : TT) (tk tv : TE) (vs : List Nat) : TE := fun σ H Q => wi σ H fun J H1 => ∀ D, H1 D = none → ∃ W : Nat → Nat → Hp → Prop, (∃ m, W 0 m (upd H1 D (.dT []))) ∧ ∀ i m H, W i m H →
  (J.stop i H ∧ Q (.ref D) H) ∨ (J.go i H ∧ ∃ Nx : Hp → Prop, (∀ H', Nx H' → ∃ m', m' < m ∧ W (i + 1) m' H') ∧ ∀ x H', J.yld i H x H' → g x (wipe σ vs) H' fun σ2 H2 => wipe σ2 vs = wipe σ vs ∧ tt σ2 H2 fun b H3 =>
    if b = true then tk σ2 H3 fun y H4 => tv σ2 H4 fun z H5 => ∃ kvs k b, y = .ref b ∧ H5 b = some (.tup (k.map kV)) ∧ H5 D = some (.dT kvs) ∧ kvs.length < sizeLine ∧ Nx (upd H5 D (.dT (putK kvs k z))) else Nx H3)
theorem dcT_core {pins : List (Addr × Obj)} {s : Shared} {σ : L2.St} {H : Hp} {Q : VK} {kx vx tg iter : Expr} {ifs : List Expr} {scope : Scope} {own : List (Str × Nat)} {pos pos' : Pos} {wi : TI} {g : TG} {tt : TT} {tk tv : TE} {use : Option (Value → Sem Unit)} {Qf : Value → Shared → Prop}
    (hu : X.A.units + 1 < cLine) (hc : X.calm = true) (hN : X.N.Nodup) (I : Inv X pins σ H s) (hi : PI X tg iter wi) (ok : BlkOk X.N X.env.scope scope own)
    (hg : ∀ (s : Shared) (H : Hp) (C : Addr) (cl : List (Str × Addr)) (fp : List Addr), PG (X.blk s H scope (compEnvC scope cl C X.env) fp) tg g) (ht : ∀ (s : Shared) (H : Hp) (C : Addr) (cl : List (Str × Addr)) (fp : List Addr), PTs (X.blk s H scope (compEnvC scope cl C X.env) fp) ifs tt)
    (hk : ∀ (s : Shared) (H : Hp) (C : Addr) (cl : List (Str × Addr)) (fp : List Addr), PE (X.blk s H scope (compEnvC scope cl C X.env) fp) kx tk)
    (he : ∀ (s : Shared) (H : Hp) (C : Addr) (cl : List (Str × Addr)) (fp : List Addr), PE (X.blk s H scope (compEnvC scope cl C X.env) fp) vx tv) (hs : ∀ x, foldedSetIterable iter X.env x = pure x)
    (h : tDcT wi g tt tk tv (own.map (·.2)) σ H Q)
    (hRR : ∀ D C s' m H', Inv X pins σ H' s' → Q (.ref D) H' → s'.heap.Ns C m → FpOk X pins H' C → compPost (model X.prog X.w) X.A X.xe use Qf (.ref D) C (.ok .next) s') :
    wpAny (model X.prog X.w) X.A (comprehension (.DictComp kx vx [⟨tg, iter, ifs, 0⟩] scope pos) scope X.env pos' newDict false (eval iter X.env) use) Qf X.xe s := by
  have hfree : ∀ y ∈ scope.names, y.2 = .free → ∃ c, X.env.cells.lookup y.1 = some c := fun y hy e => by
    rcases ok.free y hy e with k | k
    · exact I.ok.has _ (.inl k)
    · exact I.ok.has _ (.inr k)
  refine wpAny_comprehension_free (use := use) rfl hs (closure_ok hfree) ok.kind (fun y hy e => by rw [ok.uniq y hy, e])
    (thn (hi.run pins s σ H _ I h) fun xv s1 hx => thn hx fun itv s2 h2 => ?_)
  obtain ⟨it, fp, tn, J, H2, e, I2, T, st2, f2, q⟩ := h2
  subst e
  refine wpAny_newObj_type (newEnv_comp ?_)
  generalize hD : s2.heap.objs.size = D
  have hDn : H2 D = none := I2.hok.fresh (Nat.le_of_eq hD)
  obtain ⟨W, ⟨m0, w0⟩, turn⟩ := q D hDn
  -- the new list
  generalize hs3 : ({ s2 with heap := s2.heap.push { cls := .type "dict", data := .dict #[] } } : Shared) = s3
  have I3 : Inv X pins σ (upd H2 D (.dT [])) s3 := by
    rw [← hs3]
    refine I2.laid (t' := s2.toks) (fun b o e => Heap.get?_push_of_some _ e) (Nat.le_of_eq hD) ?_
    rw [← hD]
    exact dt_empty s2.heap I2.big
  have h3 : s3.heap = s2.heap.push { cls := .type "dict", data := .dict #[] } := by rw [← hs3]
  have sz : ∀ b ∈ fp, b < s2.heap.objs.size := fun b hb => by
    obtain ⟨o, e, _⟩ := T.obj _ _ st2 b hb
    exact Heap.lt_size e
  have f3 : ∀ b ∈ fp, FpOk X pins (upd H2 D (.dT [])) b ∧ b < s3.heap.objs.size := fun b hb => by
    have hlt := sz b hb
    refine ⟨⟨?_, (f2 b hb).2⟩, by rw [h3, Heap.size_push]; exact Nat.lt_succ_of_lt hlt⟩
    rw [upd_ne (by rw [← hD]; exact Nat.ne_of_lt hlt)]
    exact (f2 b hb).1
  have st3 : tn 0 s3.heap := T.keep _ _ _ st2 fun b _ o e => by rw [h3]; exact Heap.get?_push_of_some _ e
  have I4 := block_start I3 ok hN f3
  have pg := hg s3 (upd H2 D (.dT [])) s3.heap.objs.size (cellsFrom (s3.heap.objs.size + 1) scope.names (cloFrom X.env.cells scope.names [])) fp
  have pt := ht s3 (upd H2 D (.dT [])) s3.heap.objs.size (cellsFrom (s3.heap.objs.size + 1) scope.names (cloFrom X.env.cells scope.names [])) fp
  have pk := hk s3 (upd H2 D (.dT [])) s3.heap.objs.size (cellsFrom (s3.heap.objs.size + 1) scope.names (cloFrom X.env.cells scope.names [])) fp
  have pe := he s3 (upd H2 D (.dT [])) s3.heap.objs.size (cellsFrom (s3.heap.objs.size + 1) scope.names (cloFrom X.env.cells scope.names [])) fp
  show codeAny _ _ (.compStart (.DictComp kx vx [⟨tg, iter, ifs, 0⟩] scope pos) 0 (.ref it) (.ref D) (compEnvC scope (cellsFrom (s3.heap.objs.size + 1) scope.names (cloFrom X.env.cells scope.names [])) s3.heap.objs.size X.env)) (compPost (model X.prog X.w) X.A X.xe use Qf (.ref D) s3.heap.objs.size) { s3 with heap := pushCells (s3.heap.push { cls := .type "dict", data := .dict #[] }) scope.names }
  have nfp : ∀ b ∈ fp, (upd H2 D (.dT [])) b = none := fun b hb => (f3 b hb).1.1
  generalize hce : compEnvC scope (cellsFrom (s3.heap.objs.size + 1) scope.names (cloFrom X.env.cells scope.names [])) s3.heap.objs.size X.env = ce at I4 pg pt pk pe ⊢
  have cL : ce.locals = s3.heap.objs.size := by subst hce; rfl
  generalize hH3 : upd H2 D (.dT []) = H3 at I3 I4 pg pt pk pe w0 nfp f3
  generalize hs4 : ({ s3 with heap := pushCells (s3.heap.push { cls := .type "dict", data := .dict #[] }) scope.names } : Shared) = s4 at I4 ⊢
  have st4 : tn 0 s4.heap := T.keep _ _ _ st3 fun b _ o e => by rw [← hs4]; exact pushCells_keeps _ _ _ _ (Heap.get?_push_of_some _ e)
  have stat : ∀ {σ' : L2.St} {H' : Hp} {s' : Shared}, Inv (X.blk s3 H3 scope ce fp) [] σ' H' s' → (∀ b ∈ fp, H' b = none) → ∀ b ∈ fp, FpOk (X.blk s3 H3 scope ce fp) [] H' b := fun {σ' H' s'} I' hn b hb =>
    ⟨hn b hb, (I'.ok.exf b hb).1, I'.ok.exfs b hb, .inl hb, fun x c e => (I'.ok.exf b hb).2 x c e, fun p hp => absurd (show p ∈ ([] : List (Addr × Obj)) ++ [] from hp) (by simp)⟩
  have loop : codeAny (model X.prog X.w) X.A (.compLoop (.DictComp kx vx [⟨tg, iter, ifs, 0⟩] scope pos) 0 (.ref it) (.ref D) ce) (compPost (model X.prog X.w) X.A X.xe use Qf (.ref D) s3.heap.objs.size) s4 := by
    refine compLoop_anyD (fun n s' => ∃ i H', Inv (X.blk s3 H3 scope ce fp) [] (wipe σ (own.map (·.2))) H' s' ∧ tn i s'.heap ∧ (∀ b ∈ fp, H' b = none) ∧ W i n H') ?_ m0 ⟨0, H3, I4, st4, nfp, w0⟩
    rintro n s5 ⟨i, H5, I5, st5, n5, w5⟩
    rcases turn i n H5 w5 with ⟨stop, qq⟩ | ⟨go, Nx, hNx, step⟩
    · have td := T.done (X.blk s3 H3 scope ce fp) rfl rfl rfl hc i [] s5 _ H5 (fun _ _ => False) I5 (stat I5 n5) st5 stop
      refine thnF td fun r s6 ⟨hr, I6⟩ => ?_
      subst hr
      -- back in the def's context
      have I7 : Inv X pins σ H5 s6 := I3.call' (ch := fp) I6.os I6.base I6.hok I6.bare fun b hb => ⟨(f3 b hb).1.2.2.2.1, (f3 b hb).1.2.1, (f3 b hb).1.2.2.2.2.1, (f3 b hb).1.2.2.2.2.2⟩
      have nC : H5 s3.heap.objs.size = none := by
        have z : H5 ce.locals = none := I6.free
        rw [cL] at z
        exact z
      obtain ⟨m, hn, _⟩ := I6.loc
      have hn : s6.heap.Ns ce.locals m := hn
      rw [cL] at hn
      exact hRR D s3.heap.objs.size s6 m H5 I7 qq hn (I3.fpOk (Nat.le_refl _) nC)
    · have ti := T.item (X.blk s3 H3 scope ce fp) rfl rfl rfl hc i [] s5 _ H5 (fun _ _ => False) I5 (stat I5 n5) st5 go
      refine thnF ti fun r s6 ⟨u, hr, h6⟩ => ?_
      subst hr
      refine thnF h6 fun _ s7 ⟨x, H7, I7, r7, y7, st7, n7⟩ => ?_
      have I7' := I7.pinned (stat I7 n7) (T.obj _ _ st7)
      refine thnF (pg.run _ s7 _ H7 x u _ I7' r7 (step x H7 y7)) fun _ s8 ⟨σ8, H8, I8, hw8, q8⟩ => ?_
      refine thnF (pt.run _ s8 σ8 H8 _ I8 q8) fun b s9 ⟨H9, I9, q9⟩ => ?_
      -- the turn's end
      have fin : ∀ {s' : Shared} {H' : Hp}, Inv (X.blk s3 H3 scope ce fp) ([] ++ pinsAt fp s7.heap) σ8 H' s' → Nx H' → ∃ m, m < n ∧ ∃ i H', Inv (X.blk s3 H3 scope ce fp) [] (wipe σ (own.map (·.2))) H' s' ∧ tn i s'.heap ∧ (∀ b ∈ fp, H' b = none) ∧ W i m H' := fun {s' H'} I' nx => by
        obtain ⟨m', hm, w'⟩ := hNx H' nx
        have pin' : ∀ b ∈ fp, ∀ o, s7.heap.get? b = some o → s'.heap.get? b = some o ∧ H' b = none := fun b hb o e =>
          let z := I'.pin (b, o) (List.mem_append_right _ (List.mem_append_right _ (mem_pinsAt hb e)))
          ⟨z.1, z.2.1⟩
        have hl : (wipe σ (own.map (·.2))).length = σ8.length := by rw [← hw8, wipe_length]
        refine ⟨m', hm, i + 1, H', (I'.unpinned (pins := [])).weak hl (fun j v e => ?_), T.keep _ _ _ st7 fun b hb o e => (pin' b hb o e).1, fun b hb => ?_, w'⟩
        · rw [← hw8] at e
          exact (wipe_some e).1
        · obtain ⟨o, e, _⟩ := T.obj _ _ st7 b hb
          exact (pin' b hb o e).2
      cases b with
      | false =>
        simp only [Bool.false_eq_true, if_false] at q9 ⊢
        exact fin I9 q9
      | true =>
        simp only [if_true] at q9 ⊢
        refine thnF (pk.run _ s9 σ8 H9 _ I9 q9) fun z s10 ⟨yk, H10, I10, r10, q10⟩ => ?_
        refine thnF (pe.run _ s10 σ8 H10 _ I10 q10) fun z2 s11 ⟨yv, H11, I11, r11, kvs, k, b9, ek, hb11, hD11, hz11, nx⟩ => ?_
        subst ek
        cases (show z = Value.ref b9 from r10)
        exact d_dictSetT (X := X.blk s3 H3 scope ce fp) hu I11 hD11 hz11 hb11 r11 fun s12 I12 => fin I12 nx
  exact codeAny_compStart_dict loop (T.self X.A 0 _ _ _ st4 loop)
/-- as a value -/
theorem pe_dcT {kx vx tg iter : Expr} {ifs : List Expr} {scope : Scope} {own : List (Str × Nat)} {pos : Pos} {wi : TI} {g : TG} {tt : TT} {tk tv : TE} (hc : X.calm = true) (hN : X.N.Nodup) (hi : PI X tg iter wi) (ok : BlkOk X.N X.env.scope scope own)
    (hg : ∀ (s : Shared) (H : Hp) (C : Addr) (cl : List (Str × Addr)) (fp : List Addr), PG (X.blk s H scope (compEnvC scope cl C X.env) fp) tg g) (ht : ∀ (s : Shared) (H : Hp) (C : Addr) (cl : List (Str × Addr)) (fp : List Addr), PTs (X.blk s H scope (compEnvC scope cl C X.env) fp) ifs tt)
    (hk : ∀ (s : Shared) (H : Hp) (C : Addr) (cl : List (Str × Addr)) (fp : List Addr), PE (X.blk s H scope (compEnvC scope cl C X.env) fp) kx tk)
    (he : ∀ (s : Shared) (H : Hp) (C : Addr) (cl : List (Str × Addr)) (fp : List Addr), PE (X.blk s H scope (compEnvC scope cl C X.env) fp) vx tv) (hu : X.A.units + 1 < cLine) (hs : ∀ x, foldedSetIterable iter X.env x = pure x := by intro _; rfl) :
    PE X (.DictComp kx vx [⟨tg, iter, ifs, 0⟩] scope pos) (tDcT wi g tt tk tv (own.map (·.2))) := by
  refine ⟨fun pins s σ H Q I h => ?_⟩
  rw [arm_eval_DictComp]
  refine dcT_core hu hc hN I hi ok hg ht hk he hs h fun D C s' m H' I' q hn f => ⟨m, hn, fun h'' sb => ?_⟩
  obtain ⟨f0, f1, f2, f3, f4, f5⟩ := f
  exact ⟨.ref D, H', I'.turned (t' := s'.toks) (fun b o hb e => (sb.2 b hb).trans e) f0 f1 f3 f4 f5, rfl, q⟩
end
/-! dict(xs), xs a list of pairs (tuple, value) -/
def mergeT (kvs : List (List Key × V)) (more : List (List Key × V)) : List (List Key × V) := more.foldl (fun acc kv => putK acc kv.1 kv.2) kvs
theorem KT.merge {H : Hp} : ∀ {more : List (List Key × V)} {rs xs : List (List Key × Addr × Value)} {kvs : List (List Key × V)}, KT H more rs → KT H kvs xs → KT H (mergeT kvs more) (storedAllH xs rs)
  | _, _, _, _, .nil, h => h
  | _, _, xs, kvs, .cons (a := p) (b := q) h t, g => by
    obtain ⟨h1, h2, h3⟩ := h
    have z := KT.merge (kvs := putK kvs p.1 p.2) (xs := storedH xs q.1 q.2.1 q.2.2) t (by rw [← h1]; exact g.put p.1 h2 h3)
    exact z
theorem length_mergeT : ∀ (more kvs : List (List Key × V)), (mergeT kvs more).length ≤ kvs.length + more.length
  | [], kvs => Nat.le_refl _
  | p :: r, kvs => by
    have h1 := length_mergeT r (putK kvs p.1 p.2)
    have h2 := length_putK kvs p.1 p.2
    rw [List.length_cons]
    show (mergeT (putK kvs p.1 p.2) r).length ≤ _
    omega
def rDictPT (K : PySem.W.Frag) : List V → Hp → VK → Prop := fun xs H Q => ∃ (a : Addr) (ps : List Addr) (kvs : List (List Key × V)), xs = [.ref a] ∧ SqL K H a (ps.map V.ref) ∧ Paired (fun p kv => ∃ b, H b = some (.tup (kv.1.map kV)) ∧ H p = some (.tup [.ref b, kv.2])) ps kvs ∧
    ∀ p, H p = none → Q (.ref p) (upd H p (.dT (mergeT [] kvs)))
section
variable {X : Cx}
theorem pairsT_of {pins : List (Addr × Obj)} {σ : L2.St} {H : Hp} {s : Shared} (I : Inv X pins σ H s) : ∀ {ps : List Addr} {kvs : List (List Key × V)}, Paired (fun p kv => ∃ b, H b = some (.tup (kv.1.map kV)) ∧ H p = some (.tup [.ref b, kv.2])) ps kvs →
    ∃ prs : List (List Key × Addr × Value), KT H kvs prs ∧ prs.length = ps.length ∧ ∀ (j : Nat) (q : List Key × Addr × Value), prs[j]? = some q → ∃ b : Addr, ps[j]? = some b ∧ PairAt s.heap b (.ref q.2.1) q.2.2
  | _, _, .nil => ⟨[], .nil, rfl, fun j q e => by simp at e⟩
  | _, _, .cons (a := p) (b := kv) h t => by
    obtain ⟨prs, r, hl, hp⟩ := pairsT_of I t
    obtain ⟨b, hb, hp1⟩ := h
    obtain ⟨_, its, rv, o, hg, hc, n, hd⟩ := I.hok p _ hp1
    obtain ⟨u, y, ei, ru, ry⟩ := vals2 rv
    subst ei
    cases (show u = Value.ref b from ru)
    refine ⟨(kv.1, b, y) :: prs, .cons ⟨rfl, hb, ry⟩ r, by rw [List.length_cons, List.length_cons, hl], fun j q e => ?_⟩
    cases j with
    | zero =>
      have e' : (kv.1, b, y) = q := Option.some.inj e
      subst e'
      exact ⟨p, rfl, .inl ⟨o, hg, hc, n, hd⟩⟩
    | succ j =>
      obtain ⟨b, e1, e2⟩ := hp j q (by simpa using e)
      exact ⟨b, by simpa using e1, e2⟩
theorem call_dictPT (hcalm : X.calm = true) (hu : X.A.units + 8 < cLine) : CallR X (.type "dict") (rDictPT X.K) := by
  intro pins s σ H xs us Q I r q
  obtain ⟨a, ps, kvs, ex, hq, hp, q⟩ := q
  subst ex
  obtain ⟨u, eu, rx⟩ := vals1 r
  subst eu
  cases rx
  obtain ⟨its, rv, pl, hz⟩ := I.list hq
  have ei := refs_at rv
  subst ei
  rw [List.length_map] at hz
  obtain ⟨prs, rel, hl, hpr⟩ := pairsT_of I hp
  obtain ⟨o, n, ho, hc, hd, hdat⟩ := pl
  have it : PairItems s.heap (ps.map Value.ref).toArray (fun j => ps.getD j 0) (prs.map fun q => (Value.ref q.2.1, q.2.2)) := by
    refine ⟨by simp [hl], fun j k v e => ?_⟩
    rw [List.getElem?_map] at e
    obtain ⟨q, eq, e⟩ := Option.map_eq_some_iff.mp e
    cases e
    obtain ⟨b, e1, e2⟩ := hpr j q eq
    have ej : ps.getD j 0 = b := by rw [List.getD_eq_getElem?_getD, e1]; rfl
    exact ⟨by simp [e1], (by show PairAt s.heap (ps.getD j 0) _ _; rw [ej]; exact e2)⟩
  refine call_dict_pairsH (knd := tupleKind (mixKind X.prog X.w)) (ps := prs) (PairArg.list a (ps.map Value.ref).toArray (fun j => ps.getD j 0) (prs.map fun q => (Value.ref q.2.1, q.2.2))) (I.ok.hd hcalm) ?_ ⟨⟨o, n, ho, hc, hd, hdat⟩, it⟩ ⟨by simp, fun i key v e => ?_⟩ (fun h' hk x hx => ?_) (by rw [List.length_map, hl]; exact hz) fun h' tk hd' k => ?_
  · exact Nat.lt_of_le_of_lt (by show X.A.units + 1 + 1 ≤ X.A.units + 8; omega) hu
  · have e : (prs.map fun q => (Value.ref q.2.1, q.2.2))[i]? = some (key, v) := e
    rw [List.getElem?_map] at e
    obtain ⟨q, eq, e⟩ := Option.map_eq_some_iff.mp e
    cases e
    exact ⟨q.1, q.2.1, eq, rfl⟩
  · have all : ∀ {l : List (List Key × V)} {m : List (List Key × Addr × Value)}, KT H l m → ∀ x ∈ m, H x.2.1 = some (.tup (x.1.map kV)) := by
      intro l m t
      induction t with
      | nil => intro x hx; exact nomatch hx
      | @cons p q ps qs hq t ih =>
        intro x hx
        rcases List.mem_cons.mp hx with e | hx
        · subst e
          rw [← hq.1]; exact hq.2.1
        · exact ih x hx
    obtain ⟨oo, items, nn, h1, h2, h3, h4⟩ := key_of I.hok (all rel x hx)
    exact ⟨oo, items, nn, hk _ _ (Nat.ne_of_lt (Heap.lt_size h1)) (fun z => nomatch z) h1, h2, h3, h4⟩
  · have hm : (s.heap.objs.size == sysModules) = false := beq_eq_false_iff_ne.mpr (Nat.ne_of_gt I.big)
    have hlen : (mergeT [] kvs).length ≤ sizeLine := by
      refine Nat.le_trans (length_mergeT kvs []) ?_
      rw [List.length_nil, Nat.zero_add, Paired.length rel, hl]
      exact hz
    have kk : ∀ b o, s.heap.get? b = some o → h'.get? b = some o := fun b o e => k b o (fun z => nomatch z) e
    obtain ⟨q9, es, ep, hq9, h2, h3, h4, _, h5⟩ := hd'
    have fr := I.hok.fresh (Nat.le_refl s.heap.objs.size)
    exact ⟨.ref s.heap.objs.size, upd H s.heap.objs.size (.dT (mergeT [] kvs)), I.laid (t' := tk) kk (Nat.le_refl _) (show ObjOk X.prog X.w _ _ _ (.dT (mergeT [] kvs)) from ⟨hlen, hm, storedAllH [] prs, (KT.merge rel .nil).keeps fun b ys e => (by
      rw [upd_ne (ne_of_none e fr)]
      exact e), q9, es, ep, hq9, h2, h3, h4, h5⟩), rfl, q _ fr⟩
end
end Rd

set_option Elab.async false
set_option linter.all false
set_option maxRecDepth 100000
set_option maxHeartbeats 4000000
/-! walks over the keys of dicts by tuples, held; their len -/
namespace Rd
open PySem PySem.Spec PyProof.Rows L2 Dt
theorem lc_keysT {d : Addr} {o : Obj} {kvs : List (List Key × V)} {g : TG} {tt : TT} {te : TE} {vs : List Nat} {σ : L2.St} {H1 : Hp} {D : Addr} {Qd : Hp → Prop} (Pv : Nat → Hp → Prop) (h0 : Pv 0 (upd H1 D (.lst []))) (hl : ∀ i H, i ≤ kvs.length → Pv i H → H d = some (.frz o (.dT kvs)))
    (hs : ∀ i k v q H, kvs[i]? = some (k, v) → H q = some (.tup (k.map kV)) → Pv i H → g (.ref q) (wipe σ vs) H fun σ2 H2 => wipe σ2 vs = wipe σ vs ∧ tt σ2 H2 fun b H3 =>
      if b = true then te σ2 H3 fun y H4 => ∃ acc, H4 D = some (.lst acc) ∧ acc.length < sizeLine ∧ Pv (i + 1) (upd H4 D (.lst (acc ++ [y]))) else Pv (i + 1) H3) (hd : ∀ H, Pv kvs.length H → Qd H) :
    ∃ W : Nat → Nat → Hp → Prop, (∃ m, W 0 m (upd H1 D (.lst []))) ∧ ∀ i m H, W i m H →
      ((Itkt d o kvs).stop i H ∧ Qd H) ∨ ((Itkt d o kvs).go i H ∧ ∃ Nx : Hp → Prop, (∀ H', Nx H' → ∃ m', m' < m ∧ W (i + 1) m' H') ∧ ∀ x H', (Itkt d o kvs).yld i H x H' → g x (wipe σ vs) H' fun σ2 H2 => wipe σ2 vs = wipe σ vs ∧ tt σ2 H2 fun b H3 =>
        if b = true then te σ2 H3 fun y H4 => ∃ acc, H4 D = some (.lst acc) ∧ acc.length < sizeLine ∧ Nx (upd H4 D (.lst (acc ++ [y]))) else Nx H3) := by
  refine ⟨fun i m H => m = kvs.length - i ∧ i ≤ kvs.length ∧ Pv i H, ⟨kvs.length, by simp, Nat.zero_le _, h0⟩, ?_⟩
  rintro i m H ⟨rfl, hi, p⟩
  have q := hl i H hi p
  by_cases hlt : i < kvs.length
  · refine .inr ⟨⟨q, hlt⟩, Pv (i + 1), fun H' p' => ⟨kvs.length - (i + 1), by omega, rfl, hlt, p'⟩, fun x H' y => ?_⟩
    obtain ⟨rfl, k, v, b, e, rfl, hb⟩ := y
    exact hs i k v b _ e hb p
  · have e : i = kvs.length := by omega
    subst e
    exact .inl ⟨⟨q, Nat.le_refl _⟩, hd H p⟩
theorem for_keysT {d : Addr} {o : Obj} {kvs : List (List Key × V)} {g : TG} {tb : TS} {D : Ends} {σ : L2.St} {H : Hp} (Pv : Nat → L2.St → Hp → Prop) (h0 : Pv 0 σ H) (hl : ∀ i σ H, i ≤ kvs.length → Pv i σ H → H d = some (.frz o (.dT kvs)))
    (hs : ∀ i k v q σ H, kvs[i]? = some (k, v) → H q = some (.tup (k.map kV)) → Pv i σ H → g (.ref q) σ H fun σ2 H2 => tb { D with nx := Pv (i + 1), ct := Pv (i + 1), bk := D.nx } σ2 H2) (hd : ∀ σ H, Pv kvs.length σ H → D.nx σ H) :
    ∃ W : Nat → Nat → L2.St → Hp → Prop, (∃ m, W 0 m σ H) ∧ ∀ i m σ H, W i m σ H →
      ((Itkt d o kvs).stop i H ∧ D.nx σ H) ∨ ((Itkt d o kvs).go i H ∧ ∃ N : L2.St → Hp → Prop, (∀ σ' H', N σ' H' → ∃ m', m' < m ∧ W (i + 1) m' σ' H') ∧ ∀ x H', (Itkt d o kvs).yld i H x H' → g x σ H' fun σ2 H2 => tb { D with nx := N, ct := N, bk := D.nx } σ2 H2) := by
  refine ⟨fun i m σ H => m = kvs.length - i ∧ i ≤ kvs.length ∧ Pv i σ H, ⟨kvs.length, by simp, Nat.zero_le _, h0⟩, ?_⟩
  rintro i m σ H ⟨rfl, hi, p⟩
  have q := hl i σ H hi p
  by_cases hlt : i < kvs.length
  · refine .inr ⟨⟨q, hlt⟩, Pv (i + 1), fun σ' H' p' => ⟨kvs.length - (i + 1), by omega, rfl, hlt, p'⟩, fun x H' y => ?_⟩
    obtain ⟨rfl, k, v, b, e, rfl, hb⟩ := y
    exact hs i k v b σ _ e hb p
  · have e : i = kvs.length := by omega
    subst e
    exact .inl ⟨⟨q, Nat.le_refl _⟩, hd σ H p⟩
theorem call_lenRT {X : Cx} : CallR X (.builtin "len") (fun xs H Q => ∃ a kvs, xs = [V.ref a] ∧ Rd H a (.dT kvs) ∧ Q (.int ((kvs.length : Nat) : Int)) H) := by
  intro pins s σ H xs us Q I r h
  obtain ⟨a, kvs, rfl, ha, q⟩ := h
  obtain ⟨u, rfl, ru⟩ := vals1 r
  cases ru
  obtain ⟨z, hd, xs, rel, dd⟩ := dt_rd I.hok ha
  have e := Paired.length rel
  refine call_len_dictH hd dd (by have := line63; omega) ?_
  rw [← e]
  exact ⟨.int _, H, I.tok _, ⟨_, rfl⟩, q⟩
end Rd

set_option Elab.async false
set_option linter.all false
set_option maxRecDepth 100000
set_option maxHeartbeats 4000000
/-! walks of n turns over anything, in generator expressions -/
namespace Gx
open PySem PySem.Spec PyProof.Rows L2 GenW
theorem all_walk {J : It} {n : Nat} {g : TG} {tt : TT} {te : TE} {vs : List Nat} {σ : L2.St} {d : Bool} {QT QF : Hp → Prop} {H2 : Hp} (Pv : Nat → Hp → Prop) (h0 : Pv 0 H2) (hgo : ∀ i H, i < n → Pv i H → J.go i H) (hst : ∀ H, Pv n H → J.stop n H)
    (hs : ∀ i x H H', i < n → Pv i H → J.yld i H x H' → g x (wipe σ vs) H' fun σ2 H2 => wipe σ2 vs = wipe σ vs ∧ tt σ2 H2 fun b H3 => if b = true then te σ2 H3 fun y H4 => ∃ c, y = .bl c ∧ (if c = d then Pv (i + 1) H4 else QF H4) else Pv (i + 1) H3) (hd : ∀ H, Pv n H → QT H) :
    ∃ W : Nat → Nat → Hp → Prop, (∃ m, W 0 m H2) ∧ Turns J g tt te vs σ d QT QF W := by
  refine ⟨fun i m H => m = n - i ∧ i ≤ n ∧ Pv i H, ⟨n, by simp, Nat.zero_le _, h0⟩, ?_⟩
  rintro i m H ⟨rfl, hi, p⟩
  by_cases hlt : i < n
  · exact .inr ⟨hgo i H hlt p, Pv (i + 1), fun H' p' => ⟨n - (i + 1), by omega, rfl, hlt, p'⟩, fun x H' y => hs i x H H' hlt p y⟩
  · have e : i = n := by omega
    subst e
    exact .inl ⟨hst H p, hd H p⟩
theorem tup_walk {J : It} {n : Nat} {g : TG} {tt : TT} {te : TE} {vs : List Nat} {σ : L2.St} {Q : List V → Hp → Prop} {H2 : Hp} (hz : n ≤ sizeLine) (Pv : Nat → List V → Hp → Prop) (h0 : Pv 0 [] H2) (hgo : ∀ i zs H, i < n → Pv i zs H → J.go i H) (hst : ∀ zs H, Pv n zs H → J.stop n H) (hy : ∀ i zs H, Pv i zs H → zs.length ≤ i)
    (hs : ∀ i x zs H H', i < n → Pv i zs H → J.yld i H x H' → g x (wipe σ vs) H' fun σ2 H2 => wipe σ2 vs = wipe σ vs ∧ tt σ2 H2 fun b H3 => if b = true then te σ2 H3 fun y H4 => Pv (i + 1) (zs ++ [y]) H4 else Pv (i + 1) zs H3) (hd : ∀ zs H, Pv n zs H → Q zs H) :
    ∃ W : Nat → Nat → List V → Hp → Prop, (∃ m, W 0 m [] H2) ∧ TurnsC J g tt te vs σ Q W := by
  refine ⟨fun i m zs H => m = n - i ∧ i ≤ n ∧ Pv i zs H, ⟨n, by simp, Nat.zero_le _, h0⟩, ?_⟩
  rintro i m zs H ⟨rfl, hi, p⟩
  by_cases hlt : i < n
  · exact .inr ⟨hgo i zs H hlt p, Nat.lt_of_le_of_lt (hy i zs H p) (Nat.lt_of_lt_of_le hlt hz), Pv (i + 1), fun zs' H' p' => ⟨n - (i + 1), by omega, rfl, hlt, p'⟩, fun x H' y => hs i x zs H H' hlt p y⟩
  · have e : i = n := by omega
    subst e
    exact .inl ⟨hst zs H p, hd zs H p⟩
/-- over two of one length, each a list or a tuple -/
theorem tup_zipM {K : PySem.W.Frag} {k1 k2 : Bool} {a b : Addr} {xs ys : List V} {g : TG} {tt : TT} {te : TE} {vs : List Nat} {σ : L2.St} {Q : List V → Hp → Prop} {H2 : Hp} (hl : xs.length = ys.length) (hz : xs.length ≤ sizeLine) (Pv : Nat → List V → Hp → Prop) (h0 : Pv 0 [] H2) (hq : ∀ i zs H, Pv i zs H → Rd.sqB k1 K H a xs ∧ Rd.sqB k2 K H b ys) (hy : ∀ i zs H, Pv i zs H → zs.length ≤ i)
    (hs : ∀ i x y T zs H, xs[i]? = some x → ys[i]? = some y → Pv i zs H → H T = none → g (.ref T) (wipe σ vs) (upd H T (.tup [x, y])) fun σ2 H2 => wipe σ2 vs = wipe σ vs ∧ tt σ2 H2 fun b H3 => if b = true then te σ2 H3 fun y H4 => Pv (i + 1) (zs ++ [y]) H4 else Pv (i + 1) zs H3) (hd : ∀ zs H, Pv xs.length zs H → Q zs H) :
    ∃ W : Nat → Nat → List V → Hp → Prop, (∃ m, W 0 m [] H2) ∧ TurnsC (Rd.ItzM k1 k2 K a b) g tt te vs σ Q W := by
  refine tup_walk hz Pv h0 (fun i zs H hi p => ?_) (fun zs H p => ?_) hy (fun i x zs H H' hi p y => ?_) hd
  · obtain ⟨q1, q2⟩ := hq i zs H p
    exact ⟨xs, ys, _, _, q1, q2, List.getElem?_eq_getElem hi, List.getElem?_eq_getElem (by omega)⟩
  · obtain ⟨q1, q2⟩ := hq _ zs H p
    exact ⟨xs, ys, q1, q2, Nat.le_refl _, by omega, .inl rfl⟩
  · obtain ⟨q1, q2⟩ := hq i zs H p
    obtain ⟨T, x', y', rfl, hT, rfl, f1, f2⟩ := y
    exact hs i x' y' T zs H (f1 xs q1) (f2 ys q2) p hT
theorem all_zipM {K : PySem.W.Frag} {k1 k2 : Bool} {a b : Addr} {xs ys : List V} {g : TG} {tt : TT} {te : TE} {vs : List Nat} {σ : L2.St} {d : Bool} {QT QF : Hp → Prop} {H2 : Hp} (hl : xs.length = ys.length) (Pv : Nat → Hp → Prop) (h0 : Pv 0 H2) (hq : ∀ i H, Pv i H → Rd.sqB k1 K H a xs ∧ Rd.sqB k2 K H b ys)
    (hs : ∀ i x y T H, xs[i]? = some x → ys[i]? = some y → Pv i H → H T = none → g (.ref T) (wipe σ vs) (upd H T (.tup [x, y])) fun σ2 H2 => wipe σ2 vs = wipe σ vs ∧ tt σ2 H2 fun b H3 => if b = true then te σ2 H3 fun y H4 => ∃ c, y = .bl c ∧ (if c = d then Pv (i + 1) H4 else QF H4) else Pv (i + 1) H3) (hd : ∀ H, Pv xs.length H → QT H) :
    ∃ W : Nat → Nat → Hp → Prop, (∃ m, W 0 m H2) ∧ Turns (Rd.ItzM k1 k2 K a b) g tt te vs σ d QT QF W := by
  refine all_walk Pv h0 (fun i H hi p => ?_) (fun H p => ?_) (fun i x H H' hi p y => ?_) hd
  · obtain ⟨q1, q2⟩ := hq i H p
    exact ⟨xs, ys, _, _, q1, q2, List.getElem?_eq_getElem hi, List.getElem?_eq_getElem (by omega)⟩
  · obtain ⟨q1, q2⟩ := hq _ H p
    exact ⟨xs, ys, q1, q2, Nat.le_refl _, by omega, .inl rfl⟩
  · obtain ⟨q1, q2⟩ := hq i H p
    obtain ⟨T, x', y', rfl, hT, rfl, f1, f2⟩ := y
    exact hs i x' y' T H (f1 xs q1) (f2 ys q2) p hT
/-- over the keys of a dict by tuples, held -/
theorem all_keysT {d : Addr} {o : Obj} {kvs : List (List Key × V)} {g : TG} {tt : TT} {te : TE} {vs : List Nat} {σ : L2.St} {dd : Bool} {QT QF : Hp → Prop} {H2 : Hp} (Pv : Nat → Hp → Prop) (h0 : Pv 0 H2) (hl : ∀ i H, Pv i H → H d = some (.frz o (.dT kvs)))
    (hs : ∀ i k v q H, kvs[i]? = some (k, v) → H q = some (.tup (k.map kV)) → Pv i H → g (.ref q) (wipe σ vs) H fun σ2 H2 => wipe σ2 vs = wipe σ vs ∧ tt σ2 H2 fun b H3 => if b = true then te σ2 H3 fun y H4 => ∃ c, y = .bl c ∧ (if c = dd then Pv (i + 1) H4 else QF H4) else Pv (i + 1) H3) (hd : ∀ H, Pv kvs.length H → QT H) :
    ∃ W : Nat → Nat → Hp → Prop, (∃ m, W 0 m H2) ∧ Turns (Itkt d o kvs) g tt te vs σ dd QT QF W := by
  refine all_walk Pv h0 (fun i H hi p => ⟨hl i H p, hi⟩) (fun H p => ⟨hl _ H p, Nat.le_refl _⟩) (fun i x H H' hi p y => ?_) hd
  obtain ⟨rfl, k, v, q, e, rfl, hq⟩ := y
  exact hs i k v q _ e hq p
end Gx
namespace Rd
open PySem PySem.Spec PyProof.Rows L2 Dt
/-- xs[i] of a list or a tuple -/
def rIxE (K : PySem.W.Frag) : R2 := fun x y H Q => ∃ (k : Bool) (p : Addr) (xs : List V) (i : Int) (v : V), x = .ref p ∧ y = .int i ∧ sqB k K H p xs ∧ atI xs i = some v ∧ Q v H
theorem ix_seqE {X : Cx} : IxR X (rIxE X.K) := by
  intro value slice pins s σ H x y v u Q I rx ry h hs
  obtain ⟨k, p, xs, i, z, e1, e2, hq, ha, q⟩ := h
  cases k with
  | true => exact ix_list value slice pins s σ H x y v u Q I rx ry ⟨p, xs, i, z, e1, e2, hq, ha, q⟩ hs
  | false => exact ix_tup value slice pins s σ H x y v u Q I rx ry ⟨p, xs, i, z, e1, e2, hq, ha, q⟩ hs
end Rd
namespace Gx
open PySem PySem.Spec PyProof.Rows L2 GenW
theorem tup_enumT {K : PySem.W.Frag} {a : Addr} {xs : List V} {g : TG} {tt : TT} {te : TE} {vs : List Nat} {σ : L2.St} {Q : List V → Hp → Prop} {H2 : Hp} (hz : xs.length ≤ sizeLine) (Pv : Nat → List V → Hp → Prop) (h0 : Pv 0 [] H2) (hq : ∀ i zs H, Pv i zs H → SqT K H a xs) (hy : ∀ i zs H, Pv i zs H → zs.length ≤ i)
    (hs : ∀ i x T zs H, xs[i]? = some x → Pv i zs H → H T = none → g (.ref T) (wipe σ vs) (upd H T (.tup [.int (i : Nat), x])) fun σ2 H2 => wipe σ2 vs = wipe σ vs ∧ tt σ2 H2 fun b H3 => if b = true then te σ2 H3 fun y H4 => Pv (i + 1) (zs ++ [y]) H4 else Pv (i + 1) zs H3) (hd : ∀ zs H, Pv xs.length zs H → Q zs H) :
    ∃ W : Nat → Nat → List V → Hp → Prop, (∃ m, W 0 m [] H2) ∧ TurnsC (Et.ItE K a) g tt te vs σ Q W := by
  refine tup_walk hz Pv h0 (fun i zs H hi p => ⟨xs, _, hq i zs H p, List.getElem?_eq_getElem hi⟩) (fun zs H p => ⟨xs, hq _ zs H p, rfl⟩) hy (fun i x zs H H' hi p y => ?_) hd
  obtain ⟨T, x', rfl, hT, rfl, f1⟩ := y
  exact hs i x' T zs H (f1 xs (hq i zs H p)) p hT
end Gx
namespace Rd
open PySem PySem.Spec PyProof.Rows L2 Dt
/-- a dict by tuples, over anything of n turns -/
theorem dcT_walk {J : It} {n : Nat} {g : TG} {tt : TT} {tk tv : TE} {vs : List Nat} {σ : L2.St} {H1 : Hp} {D : Addr} {Qd : Hp → Prop} (Pv : Nat → Hp → Prop) (h0 : Pv 0 (upd H1 D (.dT []))) (hgo : ∀ i H, i < n → Pv i H → J.go i H) (hst : ∀ H, Pv n H → J.stop n H)
    (hs : ∀ i x H H', i < n → Pv i H → J.yld i H x H' → g x (wipe σ vs) H' fun σ2 H2 => wipe σ2 vs = wipe σ vs ∧ tt σ2 H2 fun b H3 =>
      if b = true then tk σ2 H3 fun y H4 => tv σ2 H4 fun z H5 => ∃ kvs k b, y = .ref b ∧ H5 b = some (.tup (k.map kV)) ∧ H5 D = some (.dT kvs) ∧ kvs.length < sizeLine ∧ Pv (i + 1) (upd H5 D (.dT (putK kvs k z))) else Pv (i + 1) H3) (hd : ∀ H, Pv n H → Qd H) :
    ∃ W : Nat → Nat → Hp → Prop, (∃ m, W 0 m (upd H1 D (.dT []))) ∧ ∀ i m H, W i m H →
      (J.stop i H ∧ Qd H) ∨ (J.go i H ∧ ∃ Nx : Hp → Prop, (∀ H', Nx H' → ∃ m', m' < m ∧ W (i + 1) m' H') ∧ ∀ x H', J.yld i H x H' → g x (wipe σ vs) H' fun σ2 H2 => wipe σ2 vs = wipe σ vs ∧ tt σ2 H2 fun b H3 =>
        if b = true then tk σ2 H3 fun y H4 => tv σ2 H4 fun z H5 => ∃ kvs k b, y = .ref b ∧ H5 b = some (.tup (k.map kV)) ∧ H5 D = some (.dT kvs) ∧ kvs.length < sizeLine ∧ Nx (upd H5 D (.dT (putK kvs k z))) else Nx H3) := by
  refine ⟨fun i m H => m = n - i ∧ i ≤ n ∧ Pv i H, ⟨n, by simp, Nat.zero_le _, h0⟩, ?_⟩
  rintro i m H ⟨rfl, hi, p⟩
  by_cases hlt : i < n
  · exact .inr ⟨hgo i H hlt p, Pv (i + 1), fun H' p' => ⟨n - (i + 1), by omega, rfl, hlt, p'⟩, fun x H' y => hs i x H H' hlt p y⟩
  · have e : i = n := by omega
    subst e
    exact .inl ⟨hst H p, hd H p⟩
end Rd
namespace Rd
open PySem PySem.Spec PyProof.Rows L2 Dt
/-- a loop over anything of n turns -/
theorem for_walk {J : It} {n : Nat} {g : TG} {tb : TS} {D : Ends} {σ : L2.St} {H : Hp} (Pv : Nat → L2.St → Hp → Prop) (h0 : Pv 0 σ H) (hgo : ∀ i σ H, i < n → Pv i σ H → J.go i H) (hst : ∀ σ H, Pv n σ H → J.stop n H)
    (hs : ∀ i x σ H H', i < n → Pv i σ H → J.yld i H x H' → g x σ H' fun σ2 H2 => tb { D with nx := Pv (i + 1), ct := Pv (i + 1), bk := D.nx } σ2 H2) (hd : ∀ σ H, Pv n σ H → D.nx σ H) :
    ∃ W : Nat → Nat → L2.St → Hp → Prop, (∃ m, W 0 m σ H) ∧ ∀ i m σ H, W i m σ H →
      (J.stop i H ∧ D.nx σ H) ∨ (J.go i H ∧ ∃ N : L2.St → Hp → Prop, (∀ σ' H', N σ' H' → ∃ m', m' < m ∧ W (i + 1) m' σ' H') ∧ ∀ x H', J.yld i H x H' → g x σ H' fun σ2 H2 => tb { D with nx := N, ct := N, bk := D.nx } σ2 H2) := by
  refine ⟨fun i m σ H => m = n - i ∧ i ≤ n ∧ Pv i σ H, ⟨n, by simp, Nat.zero_le _, h0⟩, ?_⟩
  rintro i m σ H ⟨rfl, hi, p⟩
  by_cases hlt : i < n
  · exact .inr ⟨hgo i σ H hlt p, Pv (i + 1), fun σ' H' p' => ⟨n - (i + 1), by omega, rfl, hlt, p'⟩, fun x H' y => hs i x σ H H' hlt p y⟩
  · have e : i = n := by omega
    subst e
    exact .inl ⟨hst σ H p, hd σ H p⟩
end Rd

set_option Elab.async false
set_option linter.all false
set_option maxRecDepth 100000
set_option maxHeartbeats 4000000
/-! wishes apart: what is due -/
namespace Rd
open PySem PySem.Spec PyProof.Rows L2 Dt
def bothF (a b : WD) (fills : List (List Int)) : Option (List Int) := fills.find? fun f => brk f a && brk f b
def pairR (wds : List WD) (fills : List (List Int)) (i j : Nat) : Option (List Int) := match wds[i]?, wds[j]? with
  | some a, some b => if clB a b = true then bothF a b fills else none
  | _, _ => none
theorem pairR_of {wds : List WD} {fills : List (List Int)} {i j : Nat} {a b : WD} (ha : wds[i]? = some a) (hb : wds[j]? = some b) : pairR wds fills i j = if clB a b = true then bothF a b fills else none := by
  unfold pairR
  rw [ha, hb]
abbrev ApR := Option (Nat × Nat × List Int)
def Apt (wds : List WD) (fills : List (List Int)) : ApR → Prop
  | none => ∀ i j, i < j → j < wds.length → pairR wds fills i j = none
  | some (i, j, f) => i < j ∧ j < wds.length ∧ pairR wds fills i j = some f ∧ ∀ i' j', i' < j' → j' < wds.length → (i' < i ∨ (i' = i ∧ j' < j)) → pairR wds fills i' j' = none
theorem Apt.one {wds : List WD} {fills : List (List Int)} : ∀ {r r' : ApR}, Apt wds fills r → Apt wds fills r' → r = r'
  | none, none, _, _ => rfl
  | none, some (i, j, f), h, ⟨a, b, c, _⟩ => by rw [h i j a b] at c; cases c
  | some (i, j, f), none, ⟨a, b, c, _⟩, h => by rw [h i j a b] at c; cases c
  | some (i, j, f), some (i', j', f'), ⟨a, b, c, d⟩, ⟨a', b', c', d'⟩ => by
    have h1 : ¬ (i' < i ∨ (i' = i ∧ j' < j)) := fun z => by rw [d i' j' a' b' z] at c'; cases c'
    have h2 : ¬ (i < i' ∨ (i = i' ∧ j < j')) := fun z => by rw [d' i j a b z] at c; cases c
    have e1 : i = i' := by omega
    have e2 : j = j' := by omega
    subst e1
    subst e2
    rw [c] at c'
    cases c'
    rfl
/-! ### what the law asks ahead of it -/
def shd (a b : WD) : List Int := a.1.filter fun p => decide (p ∈ b.1)
def agreeB (a b : WD) (r s : List Int) : Bool := (shd a b).all fun p => decide (r.getD (a.1.idxOf p) 0 = s.getD (b.1.idxOf p) 0)
def meetB (a b : WD) : Bool := a.2.any fun r => b.2.any fun s => agreeB a b r s
theorem shd_nil (a b : WD) : shd a b = [] ↔ clB a b = false := by
  unfold shd clB
  rw [List.filter_eq_nil_iff, List.any_eq_false]
theorem at_idx {fs ps : List Int} {p : Int} (h : p ∈ ps) : (huesA fs ps).getD (ps.idxOf p) 0 = atF fs p := by
  have hl := List.idxOf_lt_length_of_mem h
  unfold huesA
  rw [List.getD_eq_getElem?_getD, List.getElem?_map, List.getElem?_eq_getElem hl, List.getElem_idxOf]
  rfl
theorem meet_of {a b : WD} {f : List Int} (ha : brk f a = true) (hb : brk f b = true) : meetB a b = true := by
  have h1 := of_decide_eq_true ha
  have h2 := of_decide_eq_true hb
  unfold meetB
  rw [List.any_eq_true]
  refine ⟨_, h1, ?_⟩
  rw [List.any_eq_true]
  refine ⟨_, h2, ?_⟩
  unfold agreeB
  rw [List.all_eq_true]
  intro p hp
  obtain ⟨p1, p2⟩ := List.mem_filter.mp hp
  have p3 := of_decide_eq_true p2
  rw [at_idx p1, at_idx p3]
  simp
theorem pairR_meet {wds : List WD} {fills : List (List Int)} {i j : Nat} {a b : WD} (ha : wds[i]? = some a) (hb : wds[j]? = some b) (h : ¬ (clB a b = true ∧ meetB a b = true)) : pairR wds fills i j = none := by
  rw [pairR_of ha hb]
  split
  · rename_i hc
    unfold bothF
    rw [List.find?_eq_none]
    intro f _ hf
    rw [Bool.and_eq_true] at hf
    exact h ⟨hc, meet_of hf.1 hf.2⟩
  · rfl
/-! ### rising numbers of those that clash -/
theorem clsL_rise (wds : List WD) (a : WD) (i : Nat) : (clsL wds a i).Pairwise (· < ·) := by
  unfold clsL
  rw [List.pairwise_map]
  refine List.Pairwise.imp (fun {x y} h => ?_) (List.Pairwise.filter _ List.pairwise_lt_range)
  omega
theorem clsL_in {wds : List WD} {a b : WD} {j n : Nat} (hj : j < n) (hb : wds[j]? = some b) (h : clB a b = true) : (j : Int) ∈ clsL wds a n := by
  unfold clsL
  refine List.mem_map.mpr ⟨j, List.mem_filter.mpr ⟨List.mem_range.mpr hj, ?_⟩, rfl⟩
  rw [clAt_of hb]
  exact h
theorem rise_take {l : List Int} (h : l.Pairwise (· < ·)) {k : Nat} {x y : Int} (hx : l[k]? = some x) (hy : y ∈ l) (hyx : y < x) : y ∈ l.take k := by
  obtain ⟨m, hm, rfl⟩ := List.mem_iff_getElem.mp hy
  obtain ⟨hk, rfl⟩ := List.getElem?_eq_some_iff.mp hx
  have lt : m < k := by
    rcases Nat.lt_trichotomy m k with z | z | z
    · exact z
    · subst z; omega
    · have := List.pairwise_iff_getElem.mp h k m hk hm z
      omega
  rw [List.mem_iff_getElem]
  exact ⟨m, by rw [List.length_take]; omega, by rw [List.getElem_take]⟩
/-! ### what is told -/
def IsOpt (H : Hp) (v : V) : Option (List Int) → Prop
  | none => v = .non
  | some f => ∃ fa, v = .ref fa ∧ IsRow H fa f
def IsAp (H : Hp) (t : Addr) : ApR → Prop
  | none => H t = some (.tup [.str "apart"])
  | some (i, j, f) => ∃ fa, H t = some (.tup [.str "both", .int (i : Nat), .int (j : Nat), .ref fa]) ∧ IsRow H fa f
def apD : ApR → PyData
  | none => .tuple [.str "apart"]
  | some (i, j, f) => .tuple [.str "both", .int (i : Nat), .int (j : Nat), rowD f]
theorem IsAp.mono {H H' : Hp} {t : Addr} (h : Tups H H') : ∀ {r : ApR}, IsAp H t r → IsAp H' t r
  | none, e => h _ _ e
  | some (i, j, f), ⟨fa, e1, e2⟩ => ⟨fa, h _ _ e1, h _ _ e2⟩
theorem dpAp {K : PySem.W.Frag} {H : Hp} {t : Addr} : ∀ {r : ApR}, IsAp H t r → Dp K H (.ref t) (apD r)
  | none, e => .tup (.inl (.inl e)) (.cons (.str _) .nil)
  | some (i, j, f), ⟨fa, e1, e2⟩ => .tup (.inl (.inl e1)) (.cons (.str _) (.cons (.int _) (.cons (.int _) (.cons (dpRow e2) .nil))))
theorem find_take {α : Type} {p : α → Bool} {l : List α} {i : Nat} {x : α} (hx : l[i]? = some x) (h : ∀ y ∈ l.take i, p y = false) (hp : p x = true) : l.find? p = some x := by
  obtain ⟨hi, e⟩ := List.getElem?_eq_some_iff.mp hx
  have e2 : l = l.take i ++ x :: l.drop (i + 1) := by
    rw [← e, List.getElem_cons_drop, List.take_append_drop]
  rw [e2, List.find?_append, List.find?_eq_none.mpr (fun y hy => by rw [h y hy]; decide), List.find?_cons, hp]
  rfl
theorem bothF_none {a b : WD} {l : List (List Int)} (h : ∀ f ∈ l, (brk f a && brk f b) = false) : bothF a b l = none := List.find?_eq_none.mpr fun f hf => by rw [h f hf]; decide
end Rd

set_option Elab.async false
set_option linter.all false
set_option maxRecDepth 100000
set_option maxHeartbeats 4000000
/-! keys that are tuples of whole numbers; boxes of such tuples -/
namespace Rd
open PySem PySem.Spec PyProof.Rows L2 Dt
def keyB (f : List Int) : List Key := f.map Sum.inl
theorem keyB_kV (f : List Int) : (keyB f).map kV = f.map V.int := by
  unfold keyB
  rw [List.map_map]
  rfl
theorem keyB_inj {f g : List Int} (h : keyB f = keyB g) : f = g := (List.map_inj_right fun a b z => by injection z).mp h
theorem keyB_nodup {fs : List (List Int)} (h : fs.Nodup) : (fs.map keyB).Nodup := List.pairwise_map.mpr (h.imp fun n z => n (keyB_inj z))
/-- all lists of numbers below these -/
def boxL : List Nat → List (List Int)
  | [] => [[]]
  | n :: r => (List.range n).flatMap fun (k : Nat) => (boxL r).map ((k : Int) :: ·)
def prodL : List Nat → Nat
  | [] => 1
  | n :: r => n * prodL r
theorem box_len : ∀ l : List Nat, (boxL l).length = prodL l
  | [] => rfl
  | n :: r => by
    show ((List.range n).flatMap fun (k : Nat) => (boxL r).map ((k : Int) :: ·)).length = n * prodL r
    rw [List.length_flatMap]
    have : ((List.range n).map fun (k : Nat) => ((boxL r).map ((k : Int) :: ·)).length) = (List.range n).map fun _ => prodL r := List.map_congr_left fun k _ => by rw [List.length_map, box_len r]
    rw [this]
    have z : ∀ (m : Nat), ((List.range m).map fun _ => prodL r).sum = m * prodL r := fun m => by
      rw [List.map_const', List.length_range, List.sum_replicate_nat]
    exact z n
theorem box_mem : ∀ {l : List Nat} {t : List Int}, t.length = l.length → (∀ p : Nat, p < l.length → 0 ≤ t.getD p 0 ∧ t.getD p 0 < ((l.getD p 0 : Nat) : Int)) → t ∈ boxL l
  | [], t, hl, _ => by
    rw [List.length_eq_zero_iff.mp hl]
    exact List.mem_singleton.mpr rfl
  | n :: r, [], hl, _ => nomatch hl
  | n :: r, k :: t, hl, h => by
    have h0 := h 0 (by simp)
    have h0 : 0 ≤ k ∧ k < (n : Int) := h0
    refine List.mem_flatMap.mpr ⟨k.toNat, List.mem_range.mpr (by omega), List.mem_map.mpr ⟨t, box_mem (by simpa using hl) (fun p hp => ?_), ?_⟩⟩
    · exact h (p + 1) (by simpa using hp)
    · have e : ((k.toNat : Nat) : Int) = k := by omega
      rw [e]
/-- as many as there are draws, at most -/
theorem box_few {l : List Nat} {ts : List (List Int)} (nd : ts.Nodup) (h : ∀ t ∈ ts, t ∈ boxL l) : ts.length ≤ prodL l := by
  rw [← box_len]
  exact List.Nodup.length_le_of_subset nd h
end Rd

set_option Elab.async false
set_option linter.all false
set_option maxRecDepth 100000
set_option maxHeartbeats 4000000
/-! an exception that is caught and kept: try / except x as n, the exception's object tracked from then on -/
namespace Rd
open PySem PySem.Spec PyProof.Rows L2 Dt
/-- the object of an exception, of which the class and the dict are known -/
def ExD (cls : Value) (d : Option Addr) (a : Addr) : HO := .ext fun h => ∃ (oe : Obj) (vs : Array Value), h.get? a = some oe ∧ Zc cls d oe ∧ oe.data = .fields vs
theorem exD_ok {P : Program} {w : World} {H : Hp} {h : Heap} {a : Addr} {cls : Value} {d : Option Addr} {oe : Obj} {vs : Array Value} (e : h.get? a = some oe) (z : Zc cls d oe) (y : oe.data = .fields vs) : ObjOk P w H h a (ExD cls d a) :=
  ⟨⟨oe, vs, e, z, y⟩, ⟨oe, e⟩, fun h1 h2 ⟨o', vs', e', z', y'⟩ k => ⟨o', vs', k _ e', z', y'⟩⟩
section
variable {X : Cx} {pins : List (Addr × Obj)} {σ : L2.St} {H : Hp} {s : Shared}
theorem track_ok (I : Inv X pins σ H s) {a : Addr} {o : HO} (na : H a = none) (n0 : X.s_0.heap.get? a = none) (nL : a ≠ X.env.locals) (nC : ∀ x c, X.env.cells.lookup x = some c → c ≠ a) (nP : ∀ p ∈ X.pn ++ pins, p.1 ≠ a) (new : ObjOk X.prog X.w (upd H a o) s.heap a o) : Inv X pins σ (upd H a o) s :=
  ⟨I.ok, I.os, I.bare, ⟨I.base.keep, I.base.slot, fun b u e n hx => by
      rw [upd_ne (fun z => by rw [z, n0] at e; cases e)]
      exact I.base.free b u e n hx, I.base.there, fun b xs e => by
      have q := I.base.tups b xs e
      rw [upd_ne (ne_of_none q na)]
      exact q, fun b u xs e => by
      have q := I.base.frzs b u xs e
      rw [upd_ne (ne_of_none q na)]
      exact q, fun b ps e => by
      obtain ⟨more, q⟩ := I.base.tbls b ps e
      exact ⟨more, by rw [upd_ne (ne_of_none q na)]; exact q⟩⟩, I.loc, I.cell, by
    rw [upd_ne (Ne.symm nL)]
    exact I.free, fun x c e => by
    rw [upd_ne (nC x c e)]
    exact I.freeC x c e, fun p hp => by
    obtain ⟨p1, p2, p3⟩ := I.pin p hp
    exact ⟨p1, by rw [upd_ne (nP p hp)]; exact p2, p3⟩, I.hok.laidN (fun _ _ e => e) na new, I.len⟩
end
/-- the clause 'except x as n', the exception tracked in its suite and behind it -/
def wKeep (K : PySem.W.Frag) (c : Value) (i : Nat) (ts : Addr → TS) (Wout : WX) (D : Ends) : WX := fun cls d σ H =>
  ∃ b, PySem.W.exmOne K cls c = some b ∧ (b = true → ∀ a, H a = none → ts a { nx := fun σ' H' => D.nx (σ'.set i none) H', rt := D.rt, bk := fun σ' H' => D.bk (σ'.set i none) H', ct := fun σ' H' => D.ct (σ'.set i none) H' } (σ.set i (some (.ref a))) (upd H a (ExD cls d a))) ∧ (b = false → Wout cls d σ H)
section
variable {X : Cx} {x n : Str} {c : Value} {i : Nat} {body suite : List Stmt} {b₀ : Stmt} {np pos pos' : Pos} {tb : WX → TS} {ts : Addr → TS} {Wout : WX}
theorem ps_try_keep (hex : X.ex = []) (hs : X.stack = X.env :: X.outer) (hf : X.env.frame = some X.env.locals) (hN : X.N.Nodup) (hi : X.N[i]? = some n) (hln : X.env.kindOf n = some .local) (hc : Names X x c) (tk : Takes X Wout)
    (hb : ∀ (W : WX) (pn : List (Addr × Obj)) (xe : Value → Shared → Prop), Takes (X.tr pn xe) W → PassesOwn (model X.prog X.w) X.A X.env xe → PSs (X.tr pn xe) body (tb W)) (hsu : ∀ (a : Addr) (pn : List (Addr × Obj)), PSs (X.suite a pn) (b₀ :: suite) (ts a)) :
    PS X (.Try body [.ExceptHandler (some (.Name x np)) (some n) (b₀ :: suite) pos'] [] [] pos) (fun D σ H => tb (wKeep X.K c i ts Wout D) D σ H) := ⟨fun pins s σ H D I h => by
  have ok := I.ok; have hfr : X.A.frames = some (X.env :: X.outer) := (by rw [ok.frames, hs])
  have hloc : Loc X.env.scope n := .inl hln; refine wpAny_Try_except ?_
  refine wpAny_mono ((hb (wKeep X.K c i ts Wout D) (X.pn ++ pins) (fun e s₁ => wpAny (model X.prog X.w) X.A (noteFrame e X.env) (fun _ s₂ => wpAny (model X.prog X.w) X.A (setFlight e none) (fun _ s₃ => wpAny (model X.prog X.w) X.A (handleBy e X.env [.ExceptHandler (some (.Name x np)) (some n) (b₀ :: suite) pos']) (SP X pins D) X.xe s₃) X.xe s₂) X.xe s₁) (fun u s' xx => ?_) PassesOwn.looking).run [] s σ H D (I.toTry _) h) (fun f s1 hsp => ?_) (fun e s1 he => he)
  · obtain ⟨a, B, sI, pins', σ', H', cls, d, rfl, J', nb, up, sky, na, os, ag, b, hb1, hyes, hno⟩ := xx; have J : Inv X pins σ' H' sI := J'.ofTry ok
    have sky' : Sky B (X.env :: X.outer) a (Zc cls d) X.env.locals s'.heap := (by rw [← hs]; exact sky)
    show wpAny (model X.prog X.w) X.A (noteFrame (.ref a) X.env) _ _ _; refine Sky.land Zc.steady hfr hf sky' fun h3 fl3 up3 => ?_
    have J3 : Inv X pins σ' H' { s' with heap := h3 } := J.landed nb fl3.1 (up.trans up3) os ag; obtain ⟨oe3, vs3, he3, hz3, hd3⟩ := fl3.there
    have nfr : a ∉ frs (X.env :: X.outer) := fun hm => by
      obtain ⟨_, o', e', hnf⟩ := fl3.2.2.1.mem hm; rw [he3] at e'; cases e'; exact hnf _ hd3
    have nL : a ≠ X.env.locals := fun z => nfr (List.mem_filterMap.mpr ⟨X.env, List.mem_cons_self, by rw [hf, z]⟩); have nF : a ∉ X.fs := fun hm => (by
      obtain ⟨e, he, q⟩ := List.mem_filterMap.mp hm
      exact nfr (List.mem_filterMap.mpr ⟨e, List.mem_cons_of_mem _ he, q⟩))
    have nI : sI.heap.get? a = none := by
      cases q : sI.heap.get? a with
      | none => rfl
      | some o =>
        have z := nb a o q (by rw [hs]; exact nfr)
        rw [fl3.2.1] at z
        cases z
    have n0 : X.s_0.heap.get? a = none := by
      cases q : X.s_0.heap.get? a with
      | none => rfl
      | some o =>
        obtain ⟨o', z⟩ := J.base.there a o q (by rw [hex]; exact List.not_mem_nil)
        rw [nI] at z
        cases z
    have nC : ∀ y z, X.env.cells.lookup y = some z → z ≠ a := fun y z e q => by
      obtain ⟨v, o, eo, _⟩ := J.cell y z e
      rw [q, nI] at eo
      cases eo
    have nP : ∀ p ∈ X.pn ++ pins, p.1 ≠ a := fun p hp q => by
      have e := (J.pin p hp).1
      rw [q, nI] at e
      cases e
    have S3 := J3.suite he3 hd3 na nL nF; refine wpAny_handleBy_cons (codeAny_handlers_test ?_) (by intro q; cases q)
    have LT : PySem.W.Looks (model X.prog X.w) h3 (typeOf (.ref a)) cls := fun A Q E s k q => wpAny_typeOf_ref (k _ _ he3) (by rw [hz3.1]; exact q); have LM := PySem.W.exm_one (M := model X.prog X.w) (J3.kIn) LT hb1
    have test : ∀ {Q : Value → Shared → Prop} {E : Value → Shared → Prop}, Q c { s' with heap := h3 } → wpAny (model X.prog X.w) (X.A.mark (some (.ref a))) (eval (.Name x np) X.env) Q E { s' with heap := h3 } := fun {Q E} q => (by
      obtain ⟨hg, hdbg, hm | ⟨hm, hv, hnn⟩⟩ := hc
      · exact ld_glob (X := X.suite a ((a, oe3) :: (X.pn ++ pins))) S3 hg hm q hdbg
      · exact ld_blt (X := X.suite a ((a, oe3) :: (X.pn ++ pins))) S3 hg hm hv q hnn hdbg)
    refine test (LM.here ?_); cases b with
    | true =>
      refine codeAny_handlers_suite_as (HandSPX.lands_againZ fl3 fun h4 fl4 up4 => ?_)
      have J4 : Inv X pins σ' H' { s' with heap := h4 } := J.landed nb fl4.1 ((up.trans up3).trans up4) os ag; obtain ⟨oe4, vs4, he4, hz4, hd4⟩ := fl4.there
      have T4 : Inv X pins σ' (upd H' a (ExD cls d a)) { s' with heap := h4 } := track_ok J4 na n0 nL nC nP (exD_ok he4 hz4 hd4)
      have S4 : Inv (X.suite a (X.pn ++ pins)) [] σ' (upd H' a (ExD cls d a)) { s' with heap := h4 } := ⟨ok.suite _ _, T4.os, T4.bare, T4.base, T4.loc, T4.cell, T4.free, T4.freeC, fun p hp => T4.pin p (by rw [List.append_nil] at hp; exact hp), T4.hok, T4.len⟩
      refine store_ok (X := X.suite a (X.pn ++ pins)) (v := .ref a) S4 hN hi hloc rfl (fun s5 S5 => ?_) (.inr hln)
      refine wpAny_mono ((hsu a (X.pn ++ pins)).run [] s5 _ _ _ S5 (hyes rfl a na)) (fun f s6 hsp => ?_) (fun _ _ z => False.elim z)
      have back : ∀ {σ6 : L2.St} {H6 : Hp} {Q : Shared → Prop}, Inv (X.suite a (X.pn ++ pins)) [] σ6 H6 s6 → (∀ s7, Inv X pins (σ6.set i none) H6 s7 → Q s7) → wpAny (model X.prog X.w) X.A (do bindName X.env n .none; unbindBehindTheSuite X.env n pos') (fun _ s7 => Q s7) X.xe s6 := fun {σ6 H6 Q} S6 hq =>
        gone_ok (X := X) (pins := pins) ⟨ok, S6.os, S6.bare, S6.base, S6.loc, S6.cell, S6.free, S6.freeC, fun p hp => S6.pin p (List.mem_append_left _ hp), S6.hok, S6.len⟩ hN hi hln hq
      cases f with
      | ret u => obtain ⟨v6, σ6, H6, S6, r6, q6⟩ := hsp; exact back S6 fun s7 J7 => ⟨_, _, _, J7, r6, q6⟩
      | next => obtain ⟨σ6, H6, S6, q6⟩ := hsp; exact back S6 fun s7 J7 => ⟨_, _, J7, q6⟩
      | brk => obtain ⟨σ6, H6, S6, q6⟩ := hsp; exact back S6 fun s7 J7 => ⟨_, _, J7, q6⟩
      | cont => obtain ⟨σ6, H6, S6, q6⟩ := hsp; exact back S6 fun s7 J7 => ⟨_, _, J7, q6⟩
    | false =>
      show wpAny _ X.A (handleBy (.ref a) X.env []) _ _ _; refine wpAny_handleBy_nil ?_; obtain ⟨k1, k2, k3, oe, vs, T, oT, ts', he, hz, hd, h1, hr⟩ := id fl3
      unfold PySem.passOn; refine wpAny_bind (wpAny_field he hd h1 ?_); rw [if_neg (show ¬ ((Value.ref T == Value.none) = true) from by simp)]
      have fin : wpAny (model X.prog X.w) X.A (setFlight (.ref a) X.env.frame) (fun _ s4 => wpAny (model X.prog X.w) X.A (throw (.ref a) : Sem Flow) (SP X pins D) X.xe s4) X.xe { s' with heap := h3 } := (by
        rw [hf]; refine HandSPX.setFlight_upZ fl3 fun h4 hh4 up4 => wpAny_throw (tk _ _ ?_)
        exact ⟨a, B, sI, pins, σ', H', cls, d, rfl, J, nb, (up.trans up3).trans up4, .inr (.inr (by rw [hs]; exact hh4)), na, os, ag, hno rfl⟩)
      first | exact wpAny_bind (wpAny_pure (wpAny_bind fin)) | exact wpAny_bind fin
  · cases f with
    | ret u => obtain ⟨v, σ', H', J', r, q⟩ := hsp; exact ⟨v, σ', H', J'.ofTry ok, r, q⟩
    | next => obtain ⟨σ', H', J', q⟩ := hsp; exact wpAny_execs_nil ⟨σ', H', J'.ofTry ok, q⟩
    | brk => obtain ⟨σ', H', J', q⟩ := hsp; exact ⟨σ', H', J'.ofTry ok, q⟩
    | cont => obtain ⟨σ', H', J', q⟩ := hsp; exact ⟨σ', H', J'.ofTry ok, q⟩⟩
end
end Rd

set_option Elab.async false
set_option linter.all false
set_option maxRecDepth 100000
set_option maxHeartbeats 4000000
/-! the refusals' classes; isinstance of one that was caught; calls that may let one out -/
namespace Rd
open PySem PySem.Spec PyProof.Rows L2 Dt
theorem pe_gref {X : Cx} {x : Str} {a : Addr} {pos : Pos} (hg : Gl X x) (hm : X.mg x = some (.ref a)) (hd : (x == ("__debug__" : Str)) = false := by decide) : PE X (.Name x pos) (tC (.ref a)) := pe_glob hg hm rfl hd
def rIsD (K : PySem.W.Frag) : List V → Hp → VK → Prop := fun xs H Q => ∃ (a D : Addr) (c : V) (cv : Value) (b : Bool), xs = [.ref a, c] ∧ H a = some (ExD (.ref D) none a) ∧ ExcC K D ∧ ClsV c cv ∧ PySem.W.kitOne K (.ref D) cv = some b ∧ Q (.bl b) H
theorem call_isD {X : Cx} : CallR X (.builtin "isinstance") (rIsD X.K) := by
  intro pins s σ H xs us Q I r h
  obtain ⟨a, D, c, cv, b, rfl, ha, C, k, e, q⟩ := h
  obtain ⟨u1, u2, rfl, r1, r2⟩ := vals2 r
  have e2 := k.eq r2
  subst e2
  cases (show u1 = Value.ref a from r1)
  obtain ⟨⟨oe, vs, hget, hz, hd⟩, _, _⟩ := I.hok a _ ha
  have J : PySem.W.InstAt s.heap a oe D none := by
    obtain ⟨oc, od, oda, osl⟩ := oe
    obtain ⟨h1, h2⟩ := hz
    dsimp only at h1 h2 hd
    subst h1 h2 hd
    exact ⟨hget, rfl, rfl, trivial⟩
  exact PySem.W.kia_one (PySem.W.handS_kitx_exc C.hg C.hk C.hs C.hd C.ha C.hn C.ht C.hm) I.kIn J e (fun z => nomatch z) fun tk => ⟨.bl b, H, I.tok tk, rfl, q⟩
/-- the classes: the eleven refusals as _law_kinds names them, then the one above -/
structure ClsX (K : PySem.W.Frag) (mg : Str → Option Value) (C : Nat → Addr) : Prop where
  g_NoEnd : mg "NoEnd" = some (.ref (C 0))
  g_NoLog : mg "NoLog" = some (.ref (C 1))
  g_NoName : mg "NoName" = some (.ref (C 2))
  g_NoRow : mg "NoRow" = some (.ref (C 3))
  g_NoStep : mg "NoStep" = some (.ref (C 4))
  g_NoTable : mg "NoTable" = some (.ref (C 5))
  g_NoText : mg "NoText" = some (.ref (C 6))
  g_NoWish : mg "NoWish" = some (.ref (C 7))
  g_Spent : mg "Spent" = some (.ref (C 8))
  g_Told : mg "Told" = some (.ref (C 9))
  g_TooMany : mg "TooMany" = some (.ref (C 10))
  g_DrawError : mg "DrawError" = some (.ref (C 11))
  m_isinstance : mg "isinstance" = none
  m_ValueError : mg "ValueError" = none
  x : ∀ i, i < 12 → PySem.W.excIn K (C i) [.type "ValueError", .type "Exception", .type "BaseException", .type "object"] "ValueError.__new__" = true
  k : ∀ i, i < 12 → PySem.W.keepIn K (.ref (C i)) = true
  e : ∀ i, i < 12 → ExcC K (C i)
  kit : ∀ i, i < 12 → ∀ j, j < 11 → PySem.W.kitOne K (.ref (C i)) (.ref (C j)) = some (decide (i = j))
  kitV : ∀ i, i < 12 → PySem.W.kitOne K (.ref (C i)) (.type "ValueError") = some true
  ty : ∀ i, i < 12 → PySem.W.typeIn K (.ref (C i)) = some (.type "type")
  exm : ∀ i, i < 12 → PySem.W.exmOne K (.ref (C i)) (.ref (C 11)) = some true
theorem ClsX.raises {K : PySem.W.Frag} {mg : Str → Option Value} {C : Nat → Addr} (T : ClsX K mg C) {X : Cx} (hK : X.K = K) {i : Nat} (hi : i < 12) : Raises X (.ref (C i)) := raises_own (by rw [hK]; exact (T.e i hi).hs) (by rw [hK]; exact T.ty i hi)
/-- a def that may raise -/
def CalX (P : Program) (w : World) (K : PySem.W.Frag) (mg : Str → Option Value) (base : Heap) (k : Nat) (x : Str) (ps : List Str) (sp : Sp) : Prop :=
  ∃ (f : Addr) (fd : FuncData), FnOk P w K mg base (L2.CX P w) k f fd ps sp ∧ mg x = some (.ref f) ∧ PySem.W.keepIn K (.ref f) = true ∧ Binds K fd ps []
theorem pe_calX {X : Cx} {W : WX} {k : Nat} {x : Str} {ps : List Str} {sp : Sp} {p pos : Pos} {e : Expr} {es : List Expr} {t : TA} (C : CalX X.prog X.w X.K X.mg X.base k x ps sp) (hr : Room k X.A) (tk : Takes X W) (hg : Gl X x)
    (ha : PA X (e :: es) t) (hdb : (x == ("__debug__" : Str)) = false := by decide) (he : starEach (e :: es) X.env = (false, eval e X.env) :: starEach es X.env := by rfl) (hpl : (backTo pos (starEach es X.env)).any (·.1) = false := by rfl) : PE X (.Call (.Name x p) (e :: es) [] pos) (tCallS sp (WE W) t) := by
  obtain ⟨f, fd, F, hm, hk, hb⟩ := C
  exact pe_callS F hr hg hm hk hb (passAt tk) ha hdb he hpl
/-- of what _law_kinds tells -/
def kindsB (i : Nat) : List Bool := ((List.range 11).map fun j => decide (i = j)) ++ [true]
def spKnd (C : Nat → Addr) : Sp := fun vs H Q _ => ∃ (a : Addr) (i : Nat), vs = [.ref a] ∧ i < 12 ∧ H a = some (ExD (.ref (C i)) none a) ∧
  ∀ H' p, Same H H' → H p = none → H' p = some (.lst ((kindsB i).map V.bl)) → Q (.ref p) H'
end Rd

set_option Elab.async false
set_option linter.all false
set_option maxRecDepth 100000
set_option maxHeartbeats 4000000
/-! defs that repr is called in: run where no repr is under way; isinstance of one that was caught, with a tuple of classes -/
namespace Rd
open PySem PySem.Spec PyProof.Rows L2 Dt
structure FnG (P : Program) (w : World) (K : PySem.W.Frag) (mg : Str → Option Value) (base : Heap) (k : Nat) (f : Addr) (fd : FuncData) (ps : List Str) (sp : Sp) : Prop where
  len : ∀ vs H Q E, sp vs H Q E → vs.length = ps.length
  run : ∀ (A : Around) (outer : List Env) (s : Shared) (H : Hp) (args : Args) (us : List Value) (vs : List V) (Q : VK), A.guards = some [] → Room k A → Env0 P w K mg base A outer s H → BindsTo s fd args (ps.zip us) → Vals vs us → sp vs H Q E0 →
    codeAny (model P w) A (.call (.ref f) args) (CR CX0 outer P w H s Q E0) s
theorem Fun.okG {P : Program} {w : World} {K : PySem.W.Frag} {mg : Str → Option Value} {base : Heap} {x qual : Str} {st : Stmt} {f : Addr} {fd : FuncData} {N ps : List Str} {k : Nat} {sp : Sp} (F : Fun K x qual st f fd) (S : FnScope N ps (defScope st)) (len : ∀ vs H Q E, sp vs H Q E → vs.length = ps.length)
    (body : ∀ (cdv : Value) (A : Around) (outer : List Env) (s : Shared) (H : Hp) (vs : List V) (Q : VK), A.guards = some [] → Room k (A.deeper (envOfC qual (defScope st) s.heap.objs.size f cdv)) → sp vs H Q E0 →
      ∃ t, PSs (cxOf CX0 P w K mg base N qual (defScope st) f cdv A outer s H E0).nox (defBody st) t ∧ t { nx := fun _ H' => Q .non H', rt := Q } (start N vs) H) : FnG P w K mg base (k + 1) f fd ps sp :=
  ⟨len, fun A outer s H args us vs Q hg hr e0 hb r hsp => Lg.run_at F S hr e0 hb r (len _ _ _ _ hsp) fun cdv hr' => body cdv A outer s H vs Q hg hr' hsp⟩
def CalG (P : Program) (w : World) (K : PySem.W.Frag) (mg : Str → Option Value) (base : Heap) (k : Nat) (x : Str) (ps : List Str) (sp : Sp) : Prop :=
  ∃ (f : Addr) (fd : FuncData), FnG P w K mg base k f fd ps sp ∧ mg x = some (.ref f) ∧ PySem.W.keepIn K (.ref f) = true ∧ Binds K fd ps []
theorem pe_calG {X : Cx} {k : Nat} {x : Str} {ps : List Str} {sp : Sp} {p pos : Pos} {e : Expr} {es : List Expr} {t : TA} (C : CalG X.prog X.w X.K X.mg X.base k x ps sp) (gd : X.A.guards = some []) (hr : Room k X.A) (hg : Gl X x)
    (ha : PA X (e :: es) t) (hdb : (x == ("__debug__" : Str)) = false := by decide) (he : starEach (e :: es) X.env = (false, eval e X.env) :: starEach es X.env := by rfl) (hpl : (backTo pos (starEach es X.env)).any (·.1) = false := by rfl) :
    PE X (.Call (.Name x p) (e :: es) [] pos) (tCallS sp (fun _ => E0) t) := by
  obtain ⟨f, fd, F, hm, hk, hb⟩ := C
  constructor
  intro pins s σ H Q I h
  apply wpAny_Call_Name_kw
  apply ld_glob I hg hm _ hdb
  apply PySem.W.callWith_K (h₀ := X.base) I.ok.mod.kin hk _ he hpl
  refine thn (ha.run pos pins s σ H _ I h) ?_
  rintro us s1 ⟨vs, H1, I1, rv, qv⟩
  have lv := F.len _ _ _ _ qv
  have bd := hb s1 us I1.kIn (by rw [List.append_nil, ← rv.length]; exact lv)
  rw [List.append_nil] at bd
  have run := F.run X.A X.stack s1 H1 ⟨us, []⟩ us vs Q gd hr I1.env0 bd rv qv
  exact ⟨I1.kIn, wpAny_call (codeAny_mono run fun res s2 out => match res, out with
    | .ok (.ret u), out => I1.after out
    | .ok .next, out => out.elim
    | .ok .brk, out => out.elim
    | .ok .cont, out => out.elim
    | .error _, out => False.elim out)⟩
/-- isinstance of one that was caught, with a tuple of classes -/
def rIsDT (K : PySem.W.Frag) : List V → Hp → VK → Prop := fun xs H Q => ∃ (a D tp : Addr) (cs : List Addr) (b : Bool), xs = [.ref a, .ref tp] ∧ H a = some (ExD (.ref D) none a) ∧ ExcC K D ∧ SqT K H tp (cs.map V.ref) ∧ PySem.W.kitAny K (.ref D) (cs.map Value.ref) = some b ∧ Q (.bl b) H
theorem vals_refs : ∀ {cs : List Addr} {us : List Value}, Vals (cs.map V.ref) us → us = cs.map Value.ref
  | [], _, h => by cases h; rfl
  | c :: q, _, h => by
    cases h with
    | cons h1 h2 =>
      rw [vals_refs h2]
      cases (show _ = Value.ref c from h1)
      rfl
theorem call_isDT {X : Cx} : CallR X (.builtin "isinstance") (rIsDT X.K) := by
  intro pins s σ H xs us Q I r h
  obtain ⟨a, D, tp, cs, b, rfl, ha, C, ht, e, q⟩ := h
  obtain ⟨u1, u2, rfl, r1, r2⟩ := vals2 r
  cases (show u1 = Value.ref a from r1)
  cases (show u2 = Value.ref tp from r2)
  obtain ⟨its, o, n, vi, ho, hc, hd⟩ := sqT_at I.hok I.kIn ht
  obtain ⟨tc, td, tda, tsl⟩ := o
  dsimp only at hc hd
  subst hc hd
  rw [← vals_refs vi] at e
  obtain ⟨⟨oe, vs, hget, hz, hx⟩, _, _⟩ := I.hok a _ ha
  have J : PySem.W.InstAt s.heap a oe D none := by
    obtain ⟨oc, od, oda, osl⟩ := oe
    obtain ⟨h1, h2⟩ := hz
    dsimp only at h1 h2 hx
    subst h1 h2 hx
    exact ⟨hget, rfl, rfl, trivial⟩
  exact PySem.W.kia_tup (PySem.W.handS_kitx_exc C.hg C.hk C.hs C.hd C.ha C.hn C.ht C.hm) I.kIn J ho e (fun z => nomatch z) fun tk => ⟨.bl b, H, I.tok tk, rfl, q⟩
/-- none of them -/
theorem kit_none {K : PySem.W.Frag} {t : Value} : ∀ {cs : List Value}, (∀ c ∈ cs, PySem.W.kitOne K t c = some false) → PySem.W.kitAny K t cs = some false
  | [], _ => rfl
  | c :: q, h => by
    rw [PySem.W.kitAny.eq_2, h c List.mem_cons_self]
    exact kit_none fun d hd => h d (List.mem_cons_of_mem _ hd)
/-! repr of what is no container -/
def rRepS : List V → Hp → VK → Prop := fun xs H Q => (xs = [.non] ∧ Q (.str "None") H) ∨ (∃ i, xs = [.int i] ∧ i.natAbs.log2 < 1920 ∧ Q (.str (Str.ofString (toString i))) H) ∨ (∃ b, xs = [.bl b] ∧ Q (.str (if b = true then "True" else "False")) H) ∨
  ∃ z : Str, xs = [.str z] ∧ (reprText z).length ≤ sizeLine ∧ Q (.str (reprText z)) H
theorem call_reprS {X : Cx} : CallR X (.builtin "repr") rRepS := by
  intro pins s σ H xs us Q I r h
  rcases h with ⟨rfl, q⟩ | ⟨i, rfl, hi, q⟩ | ⟨b, rfl, q⟩ | ⟨z, rfl, hz, q⟩
  · obtain ⟨u, rfl, ru⟩ := vals1 r
    cases (show u = Value.none from ru)
    exact PySem.P.repr_of_none ⟨.str "None", H, I.tok _, ⟨_, rfl⟩, q⟩
  · obtain ⟨u, rfl, ru⟩ := vals1 r
    obtain ⟨tk, rfl⟩ := (show ∃ tk, u = Value.int i tk from ru)
    exact PySem.P.repr_of_int hi ⟨.str (Str.ofString (toString i)), H, I.tok _, ⟨_, rfl⟩, q⟩
  · obtain ⟨u, rfl, ru⟩ := vals1 r
    cases (show u = Value.bool b from ru)
    refine PySem.P.repr_of_bool ⟨.str (if b = true then "True" else "False"), H, I.tok _, ⟨_, rfl⟩, ?_⟩
    exact q
  · obtain ⟨u, rfl, ru⟩ := vals1 r
    obtain ⟨tk, rfl⟩ := (show ∃ tk, u = Value.str z tk from ru)
    exact PySem.P.repr_of_str ⟨.str (reprText z), H, I.tok _, ⟨_, rfl⟩, q⟩ hz
/-! repr of {text: number} -/
def rRepD (K : PySem.W.Frag) : List V → Hp → VK → Prop := fun xs H Q => ∃ (a : Addr) (z : Str) (i : Int), xs = [.ref a] ∧ H a = some (.dK [(.inr z, .int i)]) ∧ (PyData.dict [(.str z, .int i)]).showable = true ∧ (PyData.dict [(.str z, .int i)]).shown.length ≤ sizeLine ∧ Q (.str (PyData.dict [(.str z, .int i)]).shown) H
theorem call_reprD {X : Cx} (hg : X.A.guards = some []) (hu : X.A.units + 64 < cLine) : CallR X (.builtin "repr") (rRepD X.K) := by
  intro pins s σ H xs us Q I r h
  obtain ⟨a, z, i, rfl, ha, h1, h4, q⟩ := h
  obtain ⟨u, rfl, ru⟩ := vals1 r
  cases (show u = Value.ref a from ru)
  obtain ⟨_, nm, vs, kv, o, es, ep, ho, hx, hd, hk, hp, _⟩ := I.hok a _ ha
  have rd : Reads s.heap (.ref a) (.dict [(.str z, .int i)]) (a :: [] ++ []) := by
    cases kv with
    | cons k1 k2 =>
      cases k2
      obtain ⟨e1, e2⟩ := k1
      obtain ⟨tk, e2⟩ := (show ∃ tk, _ = Value.int i tk from e2)
      generalize hel : es.toList = el at hp
      cases hp with
      | cons p1 p2 p3 =>
        rename_i de es'
        cases p3
        rw [← e1] at p1
        rw [e2] at p2
        obtain ⟨tk2, ek⟩ : ∃ tk2, de.key = Value.str z tk2 := by
          have p1 : Value.isStrOf z de.key = true := p1
          cases hk0 : de.key with
          | str y t2 =>
            rw [hk0] at p1
            refine ⟨t2, ?_⟩
            have : y = z := by simpa [Value.isStrOf] using p1
            rw [this]
          | _ => rw [hk0] at p1; simp [Value.isStrOf] at p1
        refine .dict ho hx.1 hd ?_ ?_
        · rw [hel]
          show ReadsAll _ [de.key] [PyData.str z] []
          rw [ek]
          exact .cons (.str z tk2) .nil
        · rw [hel]
          show ReadsAll _ [de.val] [PyData.int i] []
          rw [p2]
          exact .cons (.int i tk) .nil
  refine repr_of_reads' rd h1 (fun _ m => ?_) hg (by simp [PyData.depth, PyData.depthKv]; omega) (fun _ _ e => e) (fun h' u tk hk => ?_) h4
  · have : sysModules = a := by simpa using m
    rw [this] at nm
    simp at nm
  · exact ⟨.str _, H, I.kept (t' := _) hk, ⟨_, rfl⟩, q⟩
/-! repr of any of these -/
def RepV (K : PySem.W.Frag) (H : Hp) (v : V) (r : Str) : Prop := (∀ (X : List V → Hp → VK → Prop), X = rRepS → ∀ Q : VK, Q (.str r) H → X [v] H Q) ∨
  (∃ (a : Addr) (d : PyData), v = .ref a ∧ Dp K H (.ref a) d ∧ d.showable = true ∧ d.hasDict = false ∧ d.depth < 63 ∧ d.shown.length ≤ sizeLine ∧ r = d.shown) ∨
  ∃ (a : Addr) (z : Str) (i : Int), v = .ref a ∧ H a = some (.dK [(.inr z, .int i)]) ∧ (PyData.dict [(.str z, .int i)]).showable = true ∧ (PyData.dict [(.str z, .int i)]).shown.length ≤ sizeLine ∧ r = (PyData.dict [(.str z, .int i)]).shown
def rRepV (K : PySem.W.Frag) : List V → Hp → VK → Prop := fun xs H Q => ∃ (v : V) (r : Str), xs = [v] ∧ RepV K H v r ∧ Q (.str r) H
theorem call_reprV {X : Cx} (hg : X.A.guards = some []) (hu : X.A.units + 64 < cLine) : CallR X (.builtin "repr") (rRepV X.K) := by
  intro pins s σ H xs us Q I r h
  obtain ⟨v, z, rfl, rv, q⟩ := h
  rcases rv with rv | ⟨a, d, rfl, h1, h2, h3, h4, h5, rfl⟩ | ⟨a, y, i, rfl, h1, h2, h3, rfl⟩
  · exact call_reprS pins s σ H _ us Q I r (rv _ rfl Q q)
  · exact Lg.call_repr hg hu pins s σ H _ us Q I r ⟨a, d, rfl, h1, h2, h3, h4, h5, q⟩
  · exact call_reprD hg hu pins s σ H _ us Q I r ⟨a, y, i, rfl, h1, h2, h3, q⟩
end Rd

set_option Elab.async false
set_option linter.all false
set_option maxRecDepth 100000
set_option maxHeartbeats 4000000
/-! things of any kind: data on the heap, small dicts within it; repr and isinstance of them -/
namespace Rd
open PySem PySem.Spec PyProof.Rows L2 Dt
/-- the dicts that occur -/
inductive Lf (H : Hp) (a : Addr) : PyData → Prop
  | e : H a = some (.dK []) → Lf H a (.dict [])
  | n : H a = some (.dK [(.inl 0, .int 0)]) → Lf H a (.dict [(.int 0, .int 0)])
  | t : H a = some (.dT [([.inl 0], .int 0)]) → Lf H a (.dict [(.tuple [.int 0], .int 0)])
mutual
inductive An (Av : Addr → Prop) (H : Hp) : V → PyData → Prop
  | non : An Av H .non .none
  | bl (b : Bool) : An Av H (.bl b) (.bool b)
  | int (i : Int) : An Av H (.int i) (.int i)
  | str (x : Str) : An Av H (.str x) (.str x)
  | lst {a : Addr} {xs : List V} {ds : List PyData} : H a = some (.lst xs) → ¬ Av a → AnAll Av H xs ds → An Av H (.ref a) (.list ds)
  | tup {a : Addr} {xs : List V} {ds : List PyData} : H a = some (.tup xs) → AnAll Av H xs ds → An Av H (.ref a) (.tuple ds)
  | dct {a : Addr} {d : PyData} : Lf H a d → An Av H (.ref a) d
inductive AnAll (Av : Addr → Prop) (H : Hp) : List V → List PyData → Prop
  | nil : AnAll Av H [] []
  | cons {v : V} {vs : List V} {d : PyData} {ds : List PyData} : An Av H v d → AnAll Av H vs ds → AnAll Av H (v :: vs) (d :: ds)
end
/-- all but tables of code objects and the lists that are to be avoided stay -/
def NoTb (Av : Addr → Prop) (H H' : Hp) : Prop := ∀ b o, (∀ ps, o ≠ .tbl ps) → (¬ ∃ xs, o = .lst xs ∧ Av b) → H b = some o → H' b = some o
theorem NoTb.trans {Av : Addr → Prop} {H H1 H2 : Hp} (a : NoTb Av H H1) (b : NoTb Av H1 H2) : NoTb Av H H2 := fun x o n m e => b x o n m (a x o n m e)
theorem NoTb.same {Av : Addr → Prop} {H H' : Hp} (s : Same H H') : NoTb Av H H' := fun b o _ _ e => s b o e
theorem NoTb.refl {Av : Addr → Prop} (H : Hp) : NoTb Av H H := fun _ _ _ _ e => e
theorem NoTb.tups {Av : Addr → Prop} {H H' : Hp} (k : NoTb Av H H') : Tups H H' := ⟨fun b xs e => k b _ (fun _ z => nomatch z) (fun ⟨_, z, _⟩ => nomatch z) e, fun b o xs e => k b _ (fun _ z => nomatch z) (fun ⟨_, z, _⟩ => nomatch z) e⟩
theorem NoTb.weak {Av Bv : Addr → Prop} {H H' : Hp} (k : NoTb Av H H') (w : ∀ b, Av b → Bv b) : NoTb Bv H H' := fun b o n m e => k b o n (fun ⟨xs, z, y⟩ => m ⟨xs, z, w b y⟩) e
theorem FrS.noTb {Av : Addr → Prop} {Ps : List Addr} {H H' : Hp} (t : Tabs Ps H) (f : FrS Ps H H') : NoTb Av H H' := fun b o n _ e => f.1 b o (fun z => by
  obtain ⟨ps, q, _⟩ := t b z
  rw [e] at q
  exact n ps (Option.some.inj q)) e
theorem Lf.mono {Av : Addr → Prop} {H H' : Hp} {a : Addr} {d : PyData} (k : NoTb Av H H') (h : Lf H a d) : Lf H' a d := by
  cases h with
  | e h => exact .e (k _ _ (fun _ z => nomatch z) (fun ⟨_, z, _⟩ => nomatch z) h)
  | n h => exact .n (k _ _ (fun _ z => nomatch z) (fun ⟨_, z, _⟩ => nomatch z) h)
  | t h => exact .t (k _ _ (fun _ z => nomatch z) (fun ⟨_, z, _⟩ => nomatch z) h)
mutual
theorem An.mono {Av : Addr → Prop} {H H' : Hp} (k : NoTb Av H H') : ∀ (d : PyData) (v : V), An Av H v d → An Av H' v d
  | .none, _, h => by
    cases h with
    | non => exact .non
    | dct l => cases l
  | .bool b, _, h => by
    cases h with
    | bl => exact .bl b
    | dct l => cases l
  | .int i, _, h => by
    cases h with
    | int => exact .int i
    | dct l => cases l
  | .str x, _, h => by
    cases h with
    | str => exact .str x
    | dct l => cases l
  | .list ds, _, h => by
    cases h with
    | lst e n t => exact .lst (k _ _ (fun _ z => nomatch z) (fun ⟨_, _, z⟩ => n z) e) n (An.monoAll k ds _ t)
    | dct l => cases l
  | .tuple ds, _, h => by
    cases h with
    | tup e t => exact .tup (k _ _ (fun _ z => nomatch z) (fun ⟨_, z, _⟩ => nomatch z) e) (An.monoAll k ds _ t)
    | dct l => cases l
  | .dict _, _, h => by
    cases h with
    | dct l => exact .dct (l.mono k)
theorem An.monoAll {Av : Addr → Prop} {H H' : Hp} (k : NoTb Av H H') : ∀ (ds : List PyData) (vs : List V), AnAll Av H vs ds → AnAll Av H' vs ds
  | [], _, h => by
    cases h
    exact .nil
  | d :: ds, _, h => by
    cases h with
    | cons h t => exact .cons (An.mono k d _ h) (An.monoAll k ds _ t)
end
theorem An.up {Av : Addr → Prop} {H H' : Hp} {v : V} {d : PyData} (h : An Av H v d) (k : NoTb Av H H') : An Av H' v d := An.mono k d v h
theorem AnAll.up {Av : Addr → Prop} {H H' : Hp} {vs : List V} {ds : List PyData} (h : AnAll Av H vs ds) (k : NoTb Av H H') : AnAll Av H' vs ds := An.monoAll k ds vs h
theorem AnAll.len {Av : Addr → Prop} {H : Hp} : ∀ {vs : List V} {ds : List PyData}, AnAll Av H vs ds → vs.length = ds.length
  | _, _, .nil => rfl
  | _, _, .cons _ t => congrArg (· + 1) t.len
theorem AnAll.get {Av : Addr → Prop} {H : Hp} : ∀ {vs : List V} {ds : List PyData} {i : Nat} {v : V}, AnAll Av H vs ds → vs[i]? = some v → ∃ d, ds[i]? = some d ∧ An Av H v d
  | _, _, 0, _, .cons h _, e => by
    cases e
    exact ⟨_, rfl, h⟩
  | _, _, i + 1, v, .cons _ t, e => AnAll.get (i := i) t e
theorem AnAll.append {Av : Addr → Prop} {H : Hp} : ∀ {vs ws : List V} {ds es : List PyData}, AnAll Av H vs ds → AnAll Av H ws es → AnAll Av H (vs ++ ws) (ds ++ es)
  | _, _, _, _, .nil, h => h
  | _, _, _, _, .cons a t, h => .cons a (t.append h)
theorem AnAll.take {Av : Addr → Prop} {H : Hp} : ∀ {vs : List V} {ds : List PyData} (n : Nat), AnAll Av H vs ds → AnAll Av H (vs.take n) (ds.take n)
  | _, _, 0, _ => .nil
  | _, _, _ + 1, .nil => .nil
  | _, _, n + 1, .cons a t => .cons a (t.take n)
theorem AnAll.drop {Av : Addr → Prop} {H : Hp} : ∀ {vs : List V} {ds : List PyData} (n : Nat), AnAll Av H vs ds → AnAll Av H (vs.drop n) (ds.drop n)
  | _, _, 0, h => h
  | _, _, _ + 1, .nil => .nil
  | _, _, n + 1, .cons _ t => t.drop n
theorem AnAll.rev {Av : Addr → Prop} {H : Hp} : ∀ {vs : List V} {ds : List PyData}, AnAll Av H vs ds → AnAll Av H vs.reverse ds.reverse
  | _, _, .nil => .nil
  | _, _, .cons a t => by
    rw [List.reverse_cons, List.reverse_cons]
    exact t.rev.append (.cons a .nil)
theorem AnAll.ints {Av : Addr → Prop} {H : Hp} : ∀ ns : List Int, AnAll Av H (ns.map V.int) (ns.map PyData.int)
  | [] => .nil
  | n :: r => .cons (.int n) (AnAll.ints r)
mutual
theorem An.weak {Av Bv : Addr → Prop} {H : Hp} (w : ∀ b, Bv b → Av b) : ∀ (d : PyData) (v : V), An Av H v d → An Bv H v d
  | .none, _, h => by
    cases h with
    | non => exact .non
    | dct l => exact .dct l
  | .bool b, _, h => by
    cases h with
    | bl => exact .bl b
    | dct l => exact .dct l
  | .int i, _, h => by
    cases h with
    | int => exact .int i
    | dct l => exact .dct l
  | .str x, _, h => by
    cases h with
    | str => exact .str x
    | dct l => exact .dct l
  | .list ds, _, h => by
    cases h with
    | lst e n t => exact .lst e (fun z => n (w _ z)) (An.weakAll w ds _ t)
    | dct l => exact .dct l
  | .tuple ds, _, h => by
    cases h with
    | tup e t => exact .tup e (An.weakAll w ds _ t)
    | dct l => exact .dct l
  | .dict _, _, h => by
    cases h with
    | dct l => exact .dct l
theorem An.weakAll {Av Bv : Addr → Prop} {H : Hp} (w : ∀ b, Bv b → Av b) : ∀ (ds : List PyData) (vs : List V), AnAll Av H vs ds → AnAll Bv H vs ds
  | [], _, h => by
    cases h
    exact .nil
  | d :: ds, _, h => by
    cases h with
    | cons h t => exact .cons (An.weak w d _ h) (An.weakAll w ds _ t)
end
abbrev Any (H : Hp) : V → PyData → Prop := An (fun _ => False) H
abbrev AnyAll (H : Hp) : List V → List PyData → Prop := AnAll (fun _ => False) H
theorem An.any {Av : Addr → Prop} {H : Hp} {v : V} {d : PyData} (h : An Av H v d) : Any H v d := An.weak (fun _ z => z.elim) d v h
theorem AnAll.any {Av : Addr → Prop} {H : Hp} {vs : List V} {ds : List PyData} (h : AnAll Av H vs ds) : AnyAll H vs ds := An.weakAll (fun _ z => z.elim) ds vs h
/-- what is handed to isinstance -/
def tyD : PyData → String
  | .none => "NoneType"
  | .bool _ => "bool"
  | .int _ => "int"
  | .str _ => "str"
  | .list _ => "list"
  | .tuple _ => "tuple"
  | .dict _ => "dict"
theorem An.ty {Av : Addr → Prop} {K : PySem.W.Frag} {H : Hp} {v : V} {d : PyData} (h : An Av H v d) : TyX K H v (.type (tyD d)) := by
  cases h with
  | non => exact .base .non
  | bl b => exact .base (.bl b)
  | int i => exact .base (.int i)
  | str x => exact .base (.str x)
  | lst e _ _ => exact .base (.lst e)
  | tup e _ => exact .base (.tup e)
  | dct l =>
    cases l with
    | e h => exact .base (.dK h)
    | n h => exact .base (.dK h)
    | t h => exact .base (.dT h)
/-! ### read -/
section
variable {X : Cx} {pins : List (Addr × Obj)} {σ : L2.St} {H : Hp} {s : Shared}
theorem str_key {z : Str} {k : Value} (h : Value.isStrOf z k = true) : ∃ t, k = .str z t := by
  cases k with
  | str y t =>
    have : y = z := by simpa [Value.isStrOf] using h
    exact ⟨t, by rw [this]⟩
  | _ => simp [Value.isStrOf] at h
theorem lf_reads (I : Inv X pins σ H s) {a : Addr} {d : PyData} (h : Lf H a d) : ∃ as, Reads s.heap (.ref a) d as ∧ sysModules ∉ as := by
  cases h with
  | e ha =>
    obtain ⟨_, nm, vs, kv, o, es, ep, ho, hx, hd, hk, hp, _⟩ := I.hok a _ ha
    cases kv
    generalize hel : es.toList = el at hp
    cases hp
    refine ⟨a :: [] ++ [], .dict ho hx.1 hd ?_ ?_, fun m => ?_⟩
    · rw [hel]; exact .nil
    · rw [hel]; exact .nil
    · have : sysModules = a := by simpa using m
      rw [this] at nm
      simp at nm
  | n ha =>
    obtain ⟨_, nm, vs, kv, o, es, ep, ho, hx, hd, hk, hp, _⟩ := I.hok a _ ha
    cases kv with
    | cons k1 k2 =>
      cases k2
      obtain ⟨e1, e2⟩ := k1
      obtain ⟨tk, e2⟩ := (show ∃ tk, _ = Value.int 0 tk from e2)
      generalize hel : es.toList = el at hp
      cases hp with
      | cons p1 p2 p3 =>
        rename_i de es'
        cases p3
        rw [← e1] at p1
        rw [e2] at p2
        obtain ⟨tk2, ek⟩ : ∃ tk2, de.key = Value.int 0 tk2 := by
          rcases keyIs_shape (show keyIs (Sum.inl 0) de.key = true from p1) with ⟨i, t, q1, q2⟩ | ⟨y, t, q1, q2⟩
          · cases q1
            exact ⟨t, q2⟩
          · cases q1
        refine ⟨a :: [] ++ [], .dict ho hx.1 hd ?_ ?_, fun m => ?_⟩
        · rw [hel]
          show ReadsAll _ [de.key] [PyData.int 0] []
          rw [ek]
          exact .cons (.int 0 tk2) .nil
        · rw [hel]
          show ReadsAll _ [de.val] [PyData.int 0] []
          rw [p2]
          exact .cons (.int 0 tk) .nil
        · have : sysModules = a := by simpa using m
          rw [this] at nm
          simp at nm
  | t ha =>
    obtain ⟨_, nm, xs, pr, o, es, ep, ho, hx, hd, hk, _⟩ := I.hok a _ ha
    cases pr with
    | @cons _ q _ _ p1 p2 =>
      cases p2
      obtain ⟨e1, e2, e3⟩ := p1
      obtain ⟨tk, e3⟩ := (show ∃ tk, q.2.2 = Value.int 0 tk from e3)
      obtain ⟨_, its, rv, o2, ho2, hc2, n2, hd2⟩ := I.hok q.2.1 _ e2
      refine ⟨a :: [] ++ [], .dict ho hx.1 hd ?_ ?_, fun m => ?_⟩
      · rw [hk]
        show ReadsAll _ [Value.ref q.2.1] [PyData.tuple [.int 0]] []
        refine .cons (as := []) (.tuple ho2 hc2 hd2 ?_) .nil
        cases rv with
        | cons r1 r2 =>
          cases r2
          obtain ⟨t1, r1⟩ := (show ∃ t, _ = Value.int 0 t from r1)
          show ReadsAll _ [_] [PyData.int 0] []
          rw [r1]
          exact .cons (.int 0 t1) .nil
      · rw [hk]
        show ReadsAll _ [q.2.2] [PyData.int 0] []
        rw [e3]
        exact .cons (.int 0 tk) .nil
      · have : sysModules = a := by simpa using m
        rw [this] at nm
        simp at nm
mutual
theorem an_reads (I : Inv X pins σ H s) : ∀ (d : PyData) (v : V) (u : Value), An Av H v d → RelV v u → ∃ as, Reads s.heap u d as
  | .none, _, _, h, r => by
    cases h with
    | non => cases r; exact ⟨_, .none⟩
    | dct l => cases l
  | .bool b, _, _, h, r => by
    cases h with
    | bl => cases r; exact ⟨_, .bool b⟩
    | dct l => cases l
  | .int i, _, _, h, r => by
    cases h with
    | int => obtain ⟨t, rfl⟩ := r; exact ⟨_, .int i t⟩
    | dct l => cases l
  | .str x, _, _, h, r => by
    cases h with
    | str => obtain ⟨t, rfl⟩ := r; exact ⟨_, .str x t⟩
    | dct l => cases l
  | .list ds, _, _, h, r => by
    cases h with
    | lst e _ t =>
      cases r
      obtain ⟨_, its, n, rv, hg⟩ := I.hok _ _ e
      obtain ⟨as, q⟩ := an_readsAll I ds _ its t rv
      exact ⟨_, .list hg rfl rfl q⟩
    | dct l => cases l
  | .tuple ds, _, _, h, r => by
    cases h with
    | tup e t =>
      cases r
      obtain ⟨_, its, rv, o, hg, hc, n, hd⟩ := I.hok _ _ e
      obtain ⟨as, q⟩ := an_readsAll I ds _ its t rv
      exact ⟨_, .tuple hg hc hd q⟩
    | dct l => cases l
  | .dict _, _, _, h, r => by
    cases h with
    | dct l =>
      cases r
      obtain ⟨as, q, _⟩ := lf_reads I l
      exact ⟨as, q⟩
theorem an_readsAll (I : Inv X pins σ H s) : ∀ (ds : List PyData) (vs : List V) (us : List Value), AnAll Av H vs ds → Vals vs us → ∃ as, ReadsAll s.heap us ds as
  | [], _, _, h, r => by
    cases h
    cases r
    exact ⟨_, .nil⟩
  | d :: ds, _, _, h, r => by
    cases h with
    | cons a t =>
      cases r with
      | cons r1 r2 =>
        obtain ⟨as, q1⟩ := an_reads I d _ _ a r1
        obtain ⟨bs, q2⟩ := an_readsAll I ds _ _ t r2
        exact ⟨_, .cons q1 q2⟩
end
/-! ### shown -/
mutual
theorem an_repr (I : Inv X pins σ H s) : ∀ (d : PyData) (v : V) (u : Value), An Av H v d → RelV v u → d.showable = true → d.shown.length ≤ sizeLine → ∃ bs, ReadAtMost s.heap d.depth bs ∧ ReprK X.prog X.w bs s.heap d.depth u d.shown
  | .list ds, v, u, h, r, sh, sz => by
    obtain ⟨as, rd⟩ := an_reads I (.list ds) v u h r
    cases h with
    | dct l => cases l
    | lst e _ t =>
      cases r
      obtain ⟨_, its, n, rv, hg⟩ := I.hok _ _ e
      have sz2 : (listText (PyData.shownAll ds)).length ≤ sizeLine := by simpa only [PyData.shown] using sz
      obtain ⟨bs, b1, b2⟩ := an_reprAll I ds _ its t rv (by simpa [PyData.showable] using sh) fun x hx => Nat.le_trans (listText_mem_le hx) sz2
      have dp : PyData.depth (.list ds) = PyData.depthAll ds + 1 := by simp only [PyData.depth]
      have out := not_mem_of_deeper rd (by rw [dp]; exact Nat.lt_succ_self _) b1
      refine ⟨_ :: bs, ReadAtMost.cons rd (by rw [dp]; exact Nat.le_succ _) b1, ?_⟩
      rw [dp]
      simp only [PyData.shown]
      cases its with
      | nil =>
        cases rv
        cases t
        simp only [PyData.shownAll, listText_nil]
        exact ReprK.listEmpty hg rfl rfl
      | cons x l => exact ReprK.list hg rfl rfl out (by simpa using b2.length_eq) fun i y q => b2.item i y (by simpa using q)
  | .tuple ds, v, u, h, r, sh, sz => by
    obtain ⟨as, rd⟩ := an_reads I (.tuple ds) v u h r
    cases h with
    | dct l => cases l
    | tup e t =>
      cases r
      obtain ⟨_, its, rv, o, hg, hc, n, hd⟩ := I.hok _ _ e
      have sz2 : (tupleText (PyData.shownAll ds)).length ≤ sizeLine := by simpa only [PyData.shown] using sz
      obtain ⟨bs, b1, b2⟩ := an_reprAll I ds _ its t rv (by simpa [PyData.showable] using sh) fun x hx => Nat.le_trans (tupleText_mem_le hx) sz2
      have dp : PyData.depth (.tuple ds) = PyData.depthAll ds + 1 := by simp only [PyData.depth]
      have out := not_mem_of_deeper rd (by rw [dp]; exact Nat.lt_succ_self _) b1
      refine ⟨_ :: bs, ReadAtMost.cons rd (by rw [dp]; exact Nat.le_succ _) b1, ?_⟩
      rw [dp]
      simp only [PyData.shown]
      exact ReprK.tuple hg hc hd out b2
  | .dict kvs, v, u, h, r, sh, sz => by
    cases h with
    | dct l =>
      cases r
      obtain ⟨as, rd, no⟩ := lf_reads I l
      exact ReprK.of_reads rd sh (fun _ => no) sz
  | .none, v, u, h, r, sh, sz => by
    obtain ⟨as, rd⟩ := an_reads I .none v u h r
    exact ReprK.of_reads rd sh (fun z => nomatch z) sz
  | .bool b, v, u, h, r, sh, sz => by
    obtain ⟨as, rd⟩ := an_reads I (.bool b) v u h r
    exact ReprK.of_reads rd sh (fun z => nomatch z) sz
  | .int i, v, u, h, r, sh, sz => by
    obtain ⟨as, rd⟩ := an_reads I (.int i) v u h r
    exact ReprK.of_reads rd sh (fun z => nomatch z) sz
  | .str x, v, u, h, r, sh, sz => by
    obtain ⟨as, rd⟩ := an_reads I (.str x) v u h r
    exact ReprK.of_reads rd sh (fun z => nomatch z) sz
theorem an_reprAll (I : Inv X pins σ H s) : ∀ (ds : List PyData) (vs : List V) (us : List Value), AnAll Av H vs ds → Vals vs us → PyData.showableAll ds = true → (∀ t ∈ PyData.shownAll ds, t.length ≤ sizeLine) → ∃ bs, ReadAtMost s.heap (PyData.depthAll ds) bs ∧ ReprAllK X.prog X.w bs s.heap (PyData.depthAll ds) us (PyData.shownAll ds)
  | [], _, _, h, r, _, _ => by
    cases h
    cases r
    refine ⟨[], (fun _ m => nomatch m), ?_⟩
    simp only [PyData.shownAll]
    exact .nil
  | d :: ds, _, _, h, r, sh, sz => by
    cases h with
    | cons a t =>
      cases r with
      | cons r1 r2 =>
        obtain ⟨s1, s2⟩ : d.showable = true ∧ PyData.showableAll ds = true := by simpa [PyData.showableAll] using sh
        simp only [PyData.shownAll] at sz
        obtain ⟨bs, b1, b2⟩ := an_repr I d _ _ a r1 s1 (sz _ List.mem_cons_self)
        obtain ⟨cs, c1, c2⟩ := an_reprAll I ds _ _ t r2 s2 fun x hx => sz x (List.mem_cons_of_mem _ hx)
        have m1 : d.depth ≤ PyData.depthAll (d :: ds) := by simp only [PyData.depthAll]; exact Nat.le_max_left _ _
        have m2 : PyData.depthAll ds ≤ PyData.depthAll (d :: ds) := by simp only [PyData.depthAll]; exact Nat.le_max_right _ _
        refine ⟨bs ++ cs, (b1.mono m1).append (c1.mono m2), ?_⟩
        simp only [PyData.shownAll]
        exact .cons ((b2.more fun b hb => List.mem_append_left _ hb).level_le m1) (c2.more_le (fun b hb => List.mem_append_right _ hb) m2)
end
end
/-- repr(x), x anything -/
def rRepA : List V → Hp → VK → Prop := fun xs H Q => ∃ (Av : Addr → Prop) (v : V) (d : PyData), xs = [v] ∧ An Av H v d ∧ d.showable = true ∧ d.depth < 60 ∧ d.shown.length ≤ sizeLine ∧ Q (.str d.shown) H
theorem call_reprA {X : Cx} (hg : X.A.guards = some []) (hu : X.A.units + 64 < cLine) : CallR X (.builtin "repr") rRepA := by
  intro pins s σ H xs us Q I r h
  obtain ⟨Av, v, d, rfl, an, sh, dp, sz, q⟩ := h
  obtain ⟨u, rfl, ru⟩ := vals1 r
  have kept : ∀ {h' : Heap} {u tk}, (∀ b o, s.heap.get? b = some o → h'.get? b = some o) → EP X pins σ Q (.str d.shown u) { s with heap := h', toks := tk } := fun {h' u tk} hk => ⟨.str d.shown, H, I.kept (t' := tk) hk, ⟨_, rfl⟩, q⟩
  cases d with
  | none =>
    cases an with
    | non => cases (show u = Value.none from ru); exact PySem.P.repr_of_none ⟨.str "None", H, I.tok _, ⟨_, rfl⟩, q⟩
    | dct l => cases l
  | bool b =>
    cases an with
    | bl => cases (show u = Value.bool b from ru); exact PySem.P.repr_of_bool ⟨.str _, H, I.tok _, ⟨_, rfl⟩, q⟩
    | dct l => cases l
  | int i =>
    cases an with
    | int =>
      obtain ⟨tk, rfl⟩ := (show ∃ tk, u = Value.int i tk from ru)
      have hi : i.natAbs.log2 < 1920 := by simpa [PyData.showable] using sh
      exact PySem.P.repr_of_int hi ⟨.str _, H, I.tok _, ⟨_, rfl⟩, q⟩
    | dct l => cases l
  | str x =>
    cases an with
    | str =>
      obtain ⟨tk, rfl⟩ := (show ∃ tk, u = Value.str x tk from ru)
      exact PySem.P.repr_of_str ⟨.str _, H, I.tok _, ⟨_, rfl⟩, q⟩ sz
    | dct l => cases l
  | list ds =>
    obtain ⟨as, rd⟩ := an_reads I (.list ds) v u an ru
    cases an with
    | dct l => cases l
    | @lst a xs0 _ e _ t =>
      cases (show u = Value.ref a from ru)
      obtain ⟨_, its, n, rv, hg1⟩ := I.hok _ _ e
      have sz2 : (listText (PyData.shownAll ds)).length ≤ sizeLine := by simpa only [PyData.shown] using sz
      obtain ⟨bs, b1, b2⟩ := an_reprAll I ds _ its t rv (by simpa [PyData.showable] using sh) fun x hx => Nat.le_trans (listText_mem_le hx) sz2
      have dpe : PyData.depth (.list ds) = PyData.depthAll ds + 1 := by simp only [PyData.depth]
      have out := not_mem_of_deeper rd (by rw [dpe]; exact Nat.lt_succ_self _) b1
      refine call_repr_slot (T := "list") (idr := "list.__repr__") (by omega) ⟨_, hg1, rfl⟩ F.slot_list_repr.toG ?_
      have e1 : PyData.shown (.list ds) = listText (PyData.shownAll ds) := by simp only [PyData.shown]
      cases its with
      | nil =>
        cases rv
        cases t
        exact call_list_repr_empty ⟨_, hg1, rfl⟩ hg1 rfl ⟨_, _, rfl, kept (fun _ _ e => e)⟩
      | cons x l =>
        refine call_list_reprK hg1 rfl rfl out (by simpa using b2.length_eq) (fun i y q => b2.item i y (by simpa using q)) hg (fun b _ => Clear.nil b) (by rw [dpe] at dp; show X.A.units + 1 + _ < _; omega) (fun _ _ e => e) (fun h' w tk hk => ⟨_, _, rfl, ?_⟩) sz2
        have z := kept (u := w) (tk := tk) hk
        rw [e1] at z
        exact z
  | tuple ds =>
    obtain ⟨as, rd⟩ := an_reads I (.tuple ds) v u an ru
    cases an with
    | dct l => cases l
    | @tup a xs0 _ e t =>
      cases (show u = Value.ref a from ru)
      obtain ⟨_, its, rv, o, hg1, hc, n, hd⟩ := I.hok _ _ e
      have sz2 : (tupleText (PyData.shownAll ds)).length ≤ sizeLine := by simpa only [PyData.shown] using sz
      obtain ⟨bs, b1, b2⟩ := an_reprAll I ds _ its t rv (by simpa [PyData.showable] using sh) fun x hx => Nat.le_trans (tupleText_mem_le hx) sz2
      have dpe : PyData.depth (.tuple ds) = PyData.depthAll ds + 1 := by simp only [PyData.depth]
      have out := not_mem_of_deeper rd (by rw [dpe]; exact Nat.lt_succ_self _) b1
      refine call_repr_slot (T := "tuple") (idr := "tuple.__repr__") (by omega) ⟨_, hg1, hc⟩ F.slot_tuple_repr ?_
      have e1 : PyData.shown (.tuple ds) = tupleText (PyData.shownAll ds) := by simp only [PyData.shown]
      refine call_tuple_reprK hg1 hc hd out b2 hg (fun b _ => Clear.nil b) (by rw [dpe] at dp; show X.A.units + 1 + _ < _; omega) (fun _ _ e => e) (fun h' w tk hk => ⟨_, _, rfl, ?_⟩) sz2
      have z := kept (u := w) (tk := tk) hk
      rw [e1] at z
      exact z
  | dict kvs =>
    cases an with
    | @dct a _ l =>
      cases (show u = Value.ref a from ru)
      obtain ⟨as, rd, no⟩ := lf_reads I l
      exact repr_of_reads' rd sh (fun _ => no) hg (by omega) (fun _ _ e => e) (fun h' w tk hk => kept hk) sz
end Rd

set_option Elab.async false
set_option linter.all false
set_option maxRecDepth 100000
set_option maxHeartbeats 4000000
/-! {(..): v}: a dict of one pair, its key a tuple -/
namespace Rd
open PySem PySem.Spec PyProof.Rows L2 Dt
def tDisp1T (tk tv : TE) : TE := fun σ H Q => ∀ p, H p = none → tk σ (upd H p (.dT [])) fun x H1 => tv σ H1 fun v H2 => ∃ (b : Addr) (k : List Key), x = .ref b ∧ H2 p = some (.dT []) ∧ H2 b = some (.tup (k.map kV)) ∧ Q (.ref p) (upd H2 p (.dT [(k, v)]))
theorem pe_disp1T {X : Cx} {pos : Pos} {ke ve : Expr} {tk tv : TE} (hu : X.A.units + 1 < cLine) (hk : PE X ke tk) (hv : PE X ve tv) : PE X (.Dict [some ke] [ve] pos) (tDisp1T tk tv) := by
  refine ⟨fun pins s σ H Q I q => ?_⟩
  have hn := I.hok.fresh (Nat.le_refl s.heap.objs.size)
  have I1 := I.laid (a := s.heap.objs.size) (o := .dT []) (h' := s.heap.push { cls := .type "dict", data := .dict #[] }) (t' := s.toks) (fun _ _ q => Heap.get?_push_of_some _ q) (Nat.le_refl _) (dt_empty s.heap I.big)
  have room : (tupleKind (mixKind X.prog X.w)).room X.A := Nat.lt_of_succ_lt hu
  rw [arm_eval_Dict, zip_pairTrees [some ke] [ve] X.env pos rfl rfl, dictDisplay_pairs (pairTrees [some ke] [ve] X.env pos) (fun z => by cases z) (by show 1 < 17; decide)]
  refine wpAny_bind (wpAny_standAt (wpAny_bind (wpAny_subDictH (knd := tupleKind (mixKind X.prog X.w)) room (by show 1 ≤ 15; decide) ?_)))
  refine pairTrees_cons_walk (thn (hk.run pins _ σ _ _ I1 (q _ hn)) fun x1 s1 ⟨x, H1, J1, rx, q1⟩ => thn (hv.run pins s1 σ H1 _ J1 q1) fun v1 s2 ⟨v, H2, J2, rv, b, k, ex, e, eb, q2⟩ => pairTrees_nil_walk ?_)
  subst ex
  obtain rfl : x1 = Value.ref b := rx
  obtain ⟨z, hd, xs, rel, dd⟩ := dt_of J2.hok e
  cases rel
  refine ⟨[(k, b, v1)], ⟨rfl, rfl, key_of J2.hok eb, trivial⟩, dd, fun h' tk' dk hs => wpAny_pure ⟨.ref s.heap.objs.size, _, ?_, rfl, q2⟩⟩
  obtain ⟨o, es, ep, hq, g2, g3, g4, _, g5⟩ := dk
  refine d_write J2 (by rw [e]; exact True.intro) hs ⟨o, hq⟩ ⟨by show 1 ≤ sizeLine; decide, hd, [(k, b, v1)], .cons ⟨rfl, ?_, rv⟩ .nil, o, es, ep, hq, g2, g3, g4, g5⟩
  show upd H2 _ _ b = _
  rw [upd_ne (ne_of eb e (fun z => nomatch z))]
  exact eb
end Rd

set_option Elab.async false
set_option linter.all false
set_option maxRecDepth 100000
set_option maxHeartbeats 4000000
/-! runs step by step, and the draws told back -/
namespace Dt
open PySem PySem.Spec PyProof.Rows L2
inductive Steps (wds : List WD) (tb : List (List Int)) (ord : List Int) : List Int → Log → List Int → Log → Prop
  | refl (tk : List Int) (log : Log) : Steps wds tb ord tk log tk log
  | step {tk tk' : List Int} {log log' : Log} {k : Int} : firstB (stand tb tk) wds ord = some k → canN tb tk (plc wds k) = true → Steps wds tb ord (bumpA tk (plc wds k)) (log ++ [(k, huesA (stand tb tk) (plc wds k))]) tk' log' → Steps wds tb ord tk log tk' log'
/-- how a run ends -/
structure EndsAt (wds : List WD) (tb : List (List Int)) (ord : List Int) (tk : List Int) (b : Bool) : Prop where
  kept : b = true → firstB (stand tb tk) wds ord = none
  spent : b = false → ∃ k, firstB (stand tb tk) wds ord = some k ∧ canN tb tk (plc wds k) = false
theorem goR_steps {wds : List WD} {tb : List (List Int)} {ord : List Int} {R : Res} : ∀ (n : Nat) (tk : List Int) (log : Log), goR wds tb ord n tk log = some R → ∃ tkE, Steps wds tb ord tk log tkE R.2.2 ∧ R.2.1 = stand tb tkE ∧ EndsAt wds tb ord tkE R.1
  | 0, _, _, h => nomatch h
  | n + 1, tk, log, h => by
    rw [goR] at h
    cases e : firstB (stand tb tk) wds ord with
    | none =>
      rw [e] at h
      have z := Option.some.inj h
      rw [← z]
      exact ⟨tk, .refl _ _, rfl, fun _ => e, fun z => nomatch z⟩
    | some k =>
      rw [e] at h
      dsimp only at h
      cases c : canN tb tk (plc wds k) with
      | false =>
        rw [c, if_neg (by decide)] at h
        have z := Option.some.inj h
        rw [← z]
        exact ⟨tk, .refl _ _, rfl, (fun z => nomatch z), fun _ => ⟨k, e, c⟩⟩
      | true =>
        rw [c, if_pos rfl] at h
        obtain ⟨tkE, h1, h2, h3⟩ := goR_steps n _ _ h
        exact ⟨tkE, .step e c h1, h2, h3⟩
theorem steps_goR {wds : List WD} {tb : List (List Int)} {ord : List Int} {tk tk' : List Int} {log log' : Log} (s : Steps wds tb ord tk log tk' log') : ∃ c : Nat, ∀ m, goR wds tb ord (m + c) tk log = goR wds tb ord m tk' log' := by
  induction s with
  | refl tk log => exact ⟨0, fun m => rfl⟩
  | @step tk tk' log log' k e c s ih =>
    obtain ⟨n, hn⟩ := ih
    refine ⟨n + 1, fun m => ?_⟩
    show goR wds tb ord (m + n + 1) tk log = _
    rw [goR, e]
    dsimp only
    rw [c, if_pos rfl]
    exact hn m
theorem ends_goR {wds : List WD} {tb : List (List Int)} {ord : List Int} {tk : List Int} {b : Bool} (h : EndsAt wds tb ord tk b) (m : Nat) (log : Log) : goR wds tb ord (m + 1) tk log = some (b, stand tb tk, log) := by
  rw [goR]
  cases b with
  | true => rw [h.kept rfl]
  | false =>
    obtain ⟨k, h1, h2⟩ := h.spent rfl
    rw [h1]
    dsimp only
    rw [h2, if_neg (by decide)]
theorem goR_more {wds : List WD} {tb : List (List Int)} {ord : List Int} {R : Res} : ∀ (n : Nat) (tk : List Int) (log : Log) (m : Nat), goR wds tb ord n tk log = some R → goR wds tb ord (n + m) tk log = some R
  | 0, _, _, _, h => nomatch h
  | n + 1, tk, log, m, h => by
    rw [show n + 1 + m = (n + m) + 1 by omega]
    rw [goR] at h ⊢
    cases e : firstB (stand tb tk) wds ord with
    | none => rw [e] at h; exact h
    | some k =>
      rw [e] at h
      dsimp only at h ⊢
      cases c : canN tb tk (plc wds k) with
      | false => rw [c, if_neg (by decide)] at h; rw [if_neg (by decide)]; exact h
      | true =>
        rw [c, if_pos rfl] at h
        rw [if_pos rfl]
        exact goR_more n _ _ m h
theorem goR_one {wds : List WD} {tb : List (List Int)} {ord : List Int} {R R' : Res} {n n' : Nat} {tk : List Int} {log : Log} (h : goR wds tb ord n tk log = some R) (h' : goR wds tb ord n' tk log = some R') : R = R' := by
  have a := goR_more n tk log n' h
  have b := goR_more n' tk log n h'
  rw [Nat.add_comm] at b
  exact Option.some.inj (a.symm.trans b)
/-- a run by its steps -/
theorem runOf_of {many hues : Int} {wds : List WD} {tb : List (List Int)} {ord : List Int} (gr : GoodR many hues wds) (nd : ∀ wd ∈ wds, wd.1.Nodup) (gt : GoodT many hues tb) (go : GoodO wds.length ord) {tk : List Int} {log : Log} {b : Bool} (s : Steps wds tb ord (zerosI tb.length) [] tk log) (e : EndsAt wds tb ord tk b) : runOf wds tb ord = some (b, stand tb tk, log) := by
  obtain ⟨R, hR, _⟩ := runOf_some gr nd gt go
  obtain ⟨c, hc⟩ := steps_goR s
  have z := ends_goR e 0 log
  rw [← hc (0 + 1)] at z
  rw [hR]
  exact congrArg some (goR_one hR z)
theorem runOf_steps {wds : List WD} {tb : List (List Int)} {ord : List Int} {R : Res} (h : runOf wds tb ord = some R) : ∃ tkE, Steps wds tb ord (zerosI tb.length) [] tkE R.2.2 ∧ R.2.1 = stand tb tkE ∧ EndsAt wds tb ord tkE R.1 := goR_steps _ _ _ h
/-! ### what stays along steps -/
structure Fit (many hues : Int) (wds : List WD) (tb : List (List Int)) (ord : List Int) : Prop where
  gr : GoodR many hues wds
  nd : ∀ wd ∈ wds, wd.1.Nodup
  len : (tb.length : Int) = many
  go : GoodO wds.length ord
theorem can_fit {many hues : Int} {wds : List WD} {tb : List (List Int)} {tk : List Int} {ord : List Int} {k : Int} (f : Fit many hues wds tb ord) (e : firstB (stand tb tk) wds ord = some k) (h : canN tb tk (plc wds k) = true) : Can tb tk (plc wds k) ∧ ∃ wd, wds[k.toNat]? = some wd ∧ plc wds k = wd.1 ∧ brkAt (stand tb tk) wds k.toNat = true ∧ 0 ≤ k ∧ k < (wds.length : Int) := by
  obtain ⟨hk, hb⟩ := first_some e
  obtain ⟨k0, k1⟩ := f.go.mem k hk
  obtain ⟨wd, hw, he⟩ := wd_of k0 k1
  refine ⟨⟨?_, fun p hp => ?_, fun p hp => of_decide_eq_true (List.all_eq_true.mp h p hp)⟩, wd, hw, he, hb, k0, k1⟩
  · rw [he]; exact f.nd wd (List.mem_of_getElem? hw)
  · rw [he] at hp
    have := (f.gr.each wd (List.mem_of_getElem? hw)).pl p hp
    have := f.len
    omega
theorem steps_good {many hues : Int} {wds : List WD} {tb : List (List Int)} {ord : List Int} (f : Fit many hues wds tb ord) {tk tk' : List Int} {log log' : Log} (s : Steps wds tb ord tk log tk' log') (g : GoodK tb tk) : GoodK tb tk' := by
  induction s with
  | refl => exact g
  | step e c s ih => exact ih (bumpA_good g (can_fit f e c).1).1
theorem atF_bump (tk : List Int) (p q : Int) (h0 : 0 ≤ p) (h1 : p < (tk.length : Int)) (hq : 0 ≤ q) : atF (bump tk p.toNat) q = atF tk q + (if q = p then 1 else 0) := by
  unfold atF
  rw [bump_get]
  by_cases e : q = p
  · subst e
    rw [if_pos ⟨rfl, by omega⟩, if_pos rfl]
  · rw [if_neg (fun z => e (by omega)), if_neg e, Int.add_zero]
theorem atF_bumpA : ∀ (ps : List Int) (tk : List Int) (q : Int), ps.Nodup → (∀ p ∈ ps, 0 ≤ p ∧ p < (tk.length : Int)) → 0 ≤ q → atF (bumpA tk ps) q = atF tk q + (if q ∈ ps then 1 else 0)
  | [], tk, q, _, _, _ => by simp [bumpA]
  | p :: r, tk, q, nd, h, hq => by
    have hp := h p List.mem_cons_self
    have nd2 := List.nodup_cons.mp nd
    show atF (bumpA (bump tk p.toNat) r) q = _
    rw [atF_bumpA r (bump tk p.toNat) q nd2.2 (fun x hx => by rw [bump_len]; exact h x (List.mem_cons_of_mem _ hx)) hq, atF_bump tk p q hp.1 hp.2 hq]
    by_cases e : q = p
    · subst e
      rw [if_pos rfl, if_neg nd2.1, if_pos List.mem_cons_self]
      omega
    · rw [if_neg e, Int.add_zero]
      by_cases e2 : q ∈ r
      · rw [if_pos e2, if_pos (List.mem_cons_of_mem _ e2)]
      · rw [if_neg e2, if_neg (fun z => (List.mem_cons.mp z).elim e e2)]
def cntP (wds : List WD) (log : Log) (p : Int) : Nat := (log.filter fun e => decide (p ∈ plc wds e.1)).length
theorem cntP_snoc (wds : List WD) (log : Log) (e : Int × List Int) (p : Int) : cntP wds (log ++ [e]) p = cntP wds log p + (if p ∈ plc wds e.1 then 1 else 0) := by
  unfold cntP
  rw [List.filter_append, List.length_append]
  by_cases h : p ∈ plc wds e.1
  · simp [h]
  · simp [h]
theorem steps_cnt {many hues : Int} {wds : List WD} {tb : List (List Int)} {ord : List Int} (f : Fit many hues wds tb ord) {tk tk' : List Int} {log log' : Log} (s : Steps wds tb ord tk log tk' log') (g : GoodK tb tk) (h : ∀ p, 0 ≤ p → p < (tb.length : Int) → atF tk p = cntP wds log p) : ∀ p, 0 ≤ p → p < (tb.length : Int) → atF tk' p = cntP wds log' p := by
  induction s with
  | refl => exact h
  | @step tk tk' log log' k e c s ih =>
    have cf := (can_fit f e c).1
    refine ih (bumpA_good g cf).1 fun p p0 p1 => ?_
    rw [atF_bumpA _ _ _ cf.nd (fun x hx => by rw [g.len]; exact cf.pl x hx) p0, cntP_snoc, h p p0 p1]
    by_cases e2 : p ∈ plc wds k
    · rw [if_pos e2, if_pos e2]; rfl
    · rw [if_neg e2, if_neg e2]; rfl
theorem steps_le {many hues : Int} {wds : List WD} {tb : List (List Int)} {ord : List Int} (f : Fit many hues wds tb ord) {tk tk' : List Int} {log log' : Log} (s : Steps wds tb ord tk log tk' log') (g : GoodK tb tk) : ∀ p, 0 ≤ p → atF tk p ≤ atF tk' p := by
  induction s with
  | refl => exact fun _ _ => Int.le_refl _
  | @step tk tk' log log' k e c s ih =>
    intro p p0
    have cf := (can_fit f e c).1
    have a := ih (bumpA_good g cf).1 p p0
    rw [atF_bumpA _ _ _ cf.nd (fun x hx => by rw [g.len]; exact cf.pl x hx) p0] at a
    split at a <;> omega
theorem steps_pre {wds : List WD} {tb : List (List Int)} {ord : List Int} {tk tk' : List Int} {log log' : Log} (s : Steps wds tb ord tk log tk' log') : ∃ more, log' = log ++ more := by
  induction s with
  | refl => exact ⟨[], by rw [List.append_nil]⟩
  | step e c s ih =>
    obtain ⟨more, h⟩ := ih
    exact ⟨_, by rw [h, List.append_assoc]⟩
/-! ### tables that agree so far -/
structure Agree (tb tb' : List (List Int)) (tk : List Int) : Prop where
  len : tb'.length = tb.length
  long : ∀ p : Nat, p < tb.length → tk.getD p 0 < ((tb'.getD p []).length : Int)
  eq : ∀ p : Nat, p < tb.length → (tb'.getD p []).take ((tk.getD p 0).toNat + 1) = (tb.getD p []).take ((tk.getD p 0).toNat + 1)
theorem take_at {a b : List Int} {n j : Nat} (h : a.take (n + 1) = b.take (n + 1)) (hj : j ≤ n) : a.getD j 0 = b.getD j 0 := by
  have z := congrArg (fun l : List Int => l[j]?) h
  simp only [List.getElem?_take] at z
  rw [if_pos (by omega), if_pos (by omega)] at z
  rw [List.getD_eq_getElem?_getD, List.getD_eq_getElem?_getD, z]
theorem Agree.stand {tb tb' : List (List Int)} {tk tkE : List Int} (a : Agree tb tb' tkE) (g : GoodK tb tk) (h : ∀ p, 0 ≤ p → atF tk p ≤ atF tkE p) : stand tb' tk = stand tb tk := by
  have g' : GoodK tb' tk := by
    refine ⟨by rw [a.len]; exact g.len, fun p hp => ?_⟩
    rw [a.len] at hp
    have b := g.at_ p hp
    have c := a.long p hp
    have d := h p (by omega)
    unfold atF at d
    rw [Int.toNat_natCast] at d
    omega
  refine List.ext_getElem? fun i => ?_
  by_cases hi : i < tb.length
  · rw [stand_get g' (by rw [a.len]; exact hi), stand_get g hi]
    have b := g.at_ i hi
    have d := h i (by omega)
    unfold atF at d ⊢
    rw [Int.toNat_natCast] at d
    rw [take_at (a.eq i hi) (by omega)]
  · rw [List.getElem?_eq_none (by rw [stand_len g', a.len]; omega), List.getElem?_eq_none (by rw [stand_len g]; omega)]
theorem agree_good {tb tb' : List (List Int)} {tk tkE : List Int} (a : Agree tb tb' tkE) (g : GoodK tb tk) (h : ∀ p, 0 ≤ p → atF tk p ≤ atF tkE p) : GoodK tb' tk := by
  refine ⟨by rw [a.len]; exact g.len, fun p hp => ?_⟩
  rw [a.len] at hp
  have b := g.at_ p hp
  have c := a.long p hp
  have d := h p (by omega)
  unfold atF at d
  rw [Int.toNat_natCast] at d
  omega
theorem steps_agree {many hues : Int} {wds : List WD} {tb tb' : List (List Int)} {ord : List Int} (f : Fit many hues wds tb ord) {tk tkE : List Int} {log log' : Log} (s : Steps wds tb ord tk log tkE log') (g : GoodK tb tk) (a : Agree tb tb' tkE) : Steps wds tb' ord tk log tkE log' := by
  induction s with
  | refl => exact .refl _ _
  | @step tk tkE log log' k e c s ih =>
    have cf := (can_fit f e c).1
    have g2 := (bumpA_good g cf).1
    have le2 := steps_le f s g2
    have le1 := steps_le f (.step e c s) g
    have es := a.stand g le1
    have ih2 := ih g2 a
    refine .step (k := k) (by rw [es]; exact e) ?_ (by rw [es]; exact ih2)
    refine List.all_eq_true.mpr fun p hp => decide_eq_true ?_
    have pp := cf.pl p hp
    have b := le2 p pp.1
    rw [atF_bumpA _ _ _ cf.nd (fun x hx => by rw [g.len]; exact cf.pl x hx) pp.1, if_pos hp] at b
    have d := a.long p.toNat (by omega)
    unfold atF lenAt at *
    omega
/-! ### the draws told back -/
def app1 (tb : List (List Int)) (p : Nat) (h : Int) : List (List Int) := tb.set p (tb.getD p [] ++ [h])
def appA (tb : List (List Int)) (ps row : List Int) : List (List Int) := (ps.zip row).foldl (fun t x => app1 t x.1.toNat x.2) tb
def toldL (wds : List WD) (n : Nat) (log : Log) : List (List Int) := log.foldl (fun t e => appA t (plc wds e.1) e.2) (List.replicate n [])
def finA (tb : List (List Int)) (fs : List Int) (i : Nat) : List (List Int) := (List.range i).foldl (fun t j => app1 t j (fs.getD j 0)) tb
def toldT (wds : List WD) (fs : List Int) (log : Log) : List (List Int) := finA (toldL wds fs.length log) fs fs.length
def takes (tb : List (List Int)) (tk : List Int) : List (List Int) := List.zipWith (fun ds k => ds.take k.toNat) tb tk
def firsts (tb : List (List Int)) (tk : List Int) : List (List Int) := List.zipWith (fun ds k => ds.take (k.toNat + 1)) tb tk
theorem app1_len (tb : List (List Int)) (p : Nat) (h : Int) : (app1 tb p h).length = tb.length := by simp [app1]
theorem app1_get (tb : List (List Int)) (p i : Nat) (h : Int) : (app1 tb p h).getD i [] = if i = p ∧ p < tb.length then tb.getD p [] ++ [h] else tb.getD i [] := by
  unfold app1
  rw [List.getD_eq_getElem?_getD, List.getElem?_set]
  by_cases e : p = i
  · subst e
    by_cases h2 : p < tb.length
    · rw [if_pos rfl, if_pos h2, if_pos ⟨rfl, h2⟩]; rfl
    · rw [if_pos rfl, if_neg h2, if_neg (fun z => h2 z.2), List.getD_eq_getElem?_getD, List.getElem?_eq_none (by omega)]
  · rw [if_neg e, if_neg (fun z => e z.1.symm), List.getD_eq_getElem?_getD]
theorem appA_len : ∀ (ps row : List Int) (tb : List (List Int)), (appA tb ps row).length = tb.length
  | [], _, _ => rfl
  | _ :: _, [], _ => rfl
  | p :: r, h :: q, tb => by
    show (appA (app1 tb p.toNat h) r q).length = _
    rw [appA_len r q, app1_len]
theorem toldL_len (wds : List WD) (n : Nat) : ∀ log : Log, (toldL wds n log).length = n := fun log => by
  unfold toldL
  have : ∀ (log : Log) (tb : List (List Int)), (log.foldl (fun t e => appA t (plc wds e.1) e.2) tb).length = tb.length := by
    intro log
    induction log with
    | nil => intro _; rfl
    | cons e r ih => intro tb; rw [List.foldl_cons, ih, appA_len]
  rw [this, List.length_replicate]
theorem toldL_snoc (wds : List WD) (n : Nat) (log : Log) (e : Int × List Int) : toldL wds n (log ++ [e]) = appA (toldL wds n log) (plc wds e.1) e.2 := by
  unfold toldL
  rw [List.foldl_append]
  rfl
theorem finA_succ (tb : List (List Int)) (fs : List Int) (i : Nat) : finA tb fs (i + 1) = app1 (finA tb fs i) i (fs.getD i 0) := by
  unfold finA
  rw [List.range_succ, List.foldl_append]
  rfl
theorem finA_len (tb : List (List Int)) (fs : List Int) : ∀ i : Nat, (finA tb fs i).length = tb.length
  | 0 => rfl
  | i + 1 => by rw [finA_succ, app1_len, finA_len tb fs i]
theorem finA_get (tb : List (List Int)) (fs : List Int) : ∀ (i q : Nat), i ≤ tb.length → (finA tb fs i).getD q [] = if q < i then tb.getD q [] ++ [fs.getD q 0] else tb.getD q []
  | 0, q, _ => by rw [if_neg (Nat.not_lt_zero _)]; rfl
  | i + 1, q, h => by
    rw [finA_succ, app1_get, finA_len, finA_get tb fs i q (by omega), finA_get tb fs i i (by omega)]
    by_cases e : q = i
    · subst e
      rw [if_pos ⟨rfl, by omega⟩, if_neg (Nat.lt_irrefl _), if_pos (Nat.lt_succ_self _)]
    · rw [if_neg (fun z => e z.1)]
      by_cases e2 : q < i
      · rw [if_pos e2, if_pos (by omega)]
      · rw [if_neg e2, if_neg (by omega)]
theorem toldT_len (wds : List WD) (fs : List Int) (log : Log) : (toldT wds fs log).length = fs.length := by
  rw [toldT, finA_len, toldL_len]
theorem toldT_get (wds : List WD) (fs : List Int) (log : Log) {q : Nat} (h : q < fs.length) : (toldT wds fs log).getD q [] = (toldL wds fs.length log).getD q [] ++ [fs.getD q 0] := by
  rw [toldT, finA_get _ _ _ _ (by rw [toldL_len]; exact Nat.le_refl _), if_pos h]
theorem takes_len {tb : List (List Int)} {tk : List Int} (g : GoodK tb tk) : (takes tb tk).length = tb.length := by
  unfold takes
  rw [List.length_zipWith, g.len, Nat.min_self]
theorem takes_get {tb : List (List Int)} {tk : List Int} (g : GoodK tb tk) {p : Nat} (hp : p < tb.length) : (takes tb tk)[p]? = some ((tb.getD p []).take (tk.getD p 0).toNat) := by
  have h2 : p < tk.length := by rw [g.len]; exact hp
  unfold takes
  rw [List.getElem?_zipWith, List.getElem?_eq_getElem hp, List.getElem?_eq_getElem h2, getD_get hp, getD_get h2]
theorem firsts_len {tb : List (List Int)} {tk : List Int} (g : GoodK tb tk) : (firsts tb tk).length = tb.length := by
  unfold firsts
  rw [List.length_zipWith, g.len, Nat.min_self]
theorem firsts_get {tb : List (List Int)} {tk : List Int} (g : GoodK tb tk) {p : Nat} (hp : p < tb.length) : (firsts tb tk)[p]? = some ((tb.getD p []).take ((tk.getD p 0).toNat + 1)) := by
  have h2 : p < tk.length := by rw [g.len]; exact hp
  unfold firsts
  rw [List.getElem?_zipWith, List.getElem?_eq_getElem hp, List.getElem?_eq_getElem h2, getD_get hp, getD_get h2]
theorem getD_of {α : Type} {l : List α} {i : Nat} {a d : α} (h : l[i]? = some a) : l.getD i d = a := by
  rw [List.getD_eq_getElem?_getD, h]
  rfl
theorem take1 {tb : List (List Int)} {tk : List Int} {p : Nat} (g : GoodK tb tk) (hp : p < tb.length) (h : tk.getD p 0 + 1 < ((tb.getD p []).length : Int)) : app1 (takes tb tk) p (atF (tb.getD p []) (tk.getD p 0)) = takes tb (bump tk p) := by
  have g2 := good_bump g hp h
  have a := g.at_ p hp
  refine List.ext_getElem? fun i => ?_
  unfold app1
  rw [List.getElem?_set]
  by_cases hi : i < tb.length
  · rw [takes_get g2 hi, bump_get]
    by_cases e : p = i
    · subst e
      rw [if_pos rfl, if_pos (by rw [takes_len g]; exact hp), if_pos ⟨rfl, by rw [g.len]; exact hp⟩, getD_of (takes_get g hp)]
      have en : (tk.getD p 0 + 1).toNat = (tk.getD p 0).toNat + 1 := by omega
      have hl : (tk.getD p 0).toNat < (tb.getD p []).length := by omega
      rw [en, List.take_add_one, atF, getD_get hl, List.getElem?_eq_getElem hl]
      rfl
    · rw [if_neg e, if_neg (fun z => e z.1.symm), takes_get g hi]
  · rw [if_neg (by omega), List.getElem?_eq_none (by rw [takes_len g]; omega), List.getElem?_eq_none (by rw [takes_len g2]; omega)]
theorem takeA : ∀ (ps : List Int) {tb : List (List Int)} {tk : List Int} (w : Int → Int), GoodK tb tk → Can tb tk ps → (∀ p ∈ ps, w p = atF (tb.getD p.toNat []) (atF tk p)) → appA (takes tb tk) ps (ps.map w) = takes tb (bumpA tk ps)
  | [], _, _, _, _, _, _ => rfl
  | p :: r, tb, tk, w, g, c, h => by
    have hp := c.pl p List.mem_cons_self
    have hn := c.nx p List.mem_cons_self
    have hpn : p.toNat < tb.length := by omega
    show appA (app1 (takes tb tk) p.toNat (w p)) r (r.map w) = takes tb (bumpA (bump tk p.toNat) r)
    rw [h p List.mem_cons_self, show atF tk p = tk.getD p.toNat 0 from rfl, take1 g hpn hn]
    refine takeA r w (good_bump g hpn hn) c.tail fun q hq => ?_
    have hq2 := c.pl q (List.mem_cons_of_mem _ hq)
    have hne : q ≠ p := fun z => (List.nodup_cons.mp c.nd).1 (z ▸ hq)
    rw [h q (List.mem_cons_of_mem _ hq), atF_bump tk p q hp.1 (by rw [g.len]; exact hp.2) hq2.1, if_neg hne, Int.add_zero]
theorem steps_told {many hues : Int} {wds : List WD} {tb : List (List Int)} {ord : List Int} (f : Fit many hues wds tb ord) {tk tk' : List Int} {log log' : Log} (s : Steps wds tb ord tk log tk' log') (g : GoodK tb tk) (h : toldL wds tb.length log = takes tb tk) : toldL wds tb.length log' = takes tb tk' := by
  induction s with
  | refl => exact h
  | @step tk tk' log log' k e c s ih =>
    have cf := (can_fit f e c).1
    refine ih (bumpA_good g cf).1 ?_
    rw [toldL_snoc, h]
    refine takeA _ _ g cf fun p hp => ?_
    have pp := cf.pl p hp
    have hpn : p.toNat < tb.length := by omega
    show atF (stand tb tk) p = _
    rw [atF, getD_of (stand_get g hpn)]
    rfl
theorem told_end {wds : List WD} {tb : List (List Int)} {tk : List Int} {log : Log} (g : GoodK tb tk) (h : toldL wds tb.length log = takes tb tk) : toldT wds (stand tb tk) log = firsts tb tk := by
  refine List.ext_getElem? fun i => ?_
  by_cases hi : i < tb.length
  · have hs : i < (stand tb tk).length := by rw [stand_len g]; exact hi
    have e := toldT_get wds (stand tb tk) log hs
    rw [stand_len g, h, getD_of (takes_get g hi), getD_of (stand_get g hi)] at e
    have hl : i < (toldT wds (stand tb tk) log).length := by rw [toldT_len]; exact hs
    rw [getD_get hl] at e
    rw [List.getElem?_eq_getElem hl, e, firsts_get g hi]
    have a := g.at_ i hi
    have hl2 : (tk.getD i 0).toNat < (tb.getD i []).length := by omega
    rw [List.take_add_one, atF, getD_get hl2, List.getElem?_eq_getElem hl2]
    rfl
  · rw [List.getElem?_eq_none (by rw [toldT_len, stand_len g]; omega), List.getElem?_eq_none (by rw [firsts_len g]; omega)]
theorem takes_zero {tb : List (List Int)} : toldL wds tb.length [] = takes tb (zerosI tb.length) := by
  show List.replicate tb.length [] = _
  unfold takes zerosI
  refine List.ext_getElem? fun i => ?_
  rw [List.getElem?_zipWith, List.getElem?_replicate, List.getElem?_replicate]
  by_cases hi : i < tb.length
  · rw [if_pos hi, if_pos hi, List.getElem?_eq_getElem hi]
    rfl
  · rw [if_neg hi, if_neg hi, List.getElem?_eq_none (by omega)]
/-- all of a run -/
structure RunEnd (many hues : Int) (wds : List WD) (tb : List (List Int)) (ord : List Int) (R : Res) (tk : List Int) : Prop where
  gk : GoodK tb tk
  st : Steps wds tb ord (zerosI tb.length) [] tk R.2.2
  fs : R.2.1 = stand tb tk
  en : EndsAt wds tb ord tk R.1
  told : toldT wds R.2.1 R.2.2 = firsts tb tk
  cnt : ∀ p, 0 ≤ p → p < (tb.length : Int) → atF tk p = cntP wds R.2.2 p
theorem runEnd_of {many hues : Int} {wds : List WD} {tb : List (List Int)} {ord : List Int} {R : Res} (gr : GoodR many hues wds) (nd : ∀ wd ∈ wds, wd.1.Nodup) (gt : GoodT many hues tb) (go : GoodO wds.length ord) (h : runOf wds tb ord = some R) : ∃ tk, RunEnd many hues wds tb ord R tk := by
  obtain ⟨tk, s, e, en⟩ := runOf_steps h
  have f : Fit many hues wds tb ord := ⟨gr, nd, gt.len, go⟩
  have g0 := zeros_good gt
  have gk := steps_good f s g0
  refine ⟨tk, gk, s, e, en, ?_, steps_cnt f s g0 fun p p0 _ => ?_⟩
  · rw [e]
    exact told_end gk (steps_told f s g0 takes_zero)
  · unfold atF
    rw [zeros_get]
    rfl
theorem firsts_good {many hues : Int} {tb : List (List Int)} {tk : List Int} (gt : GoodT many hues tb) (g : GoodK tb tk) : GoodT many hues (firsts tb tk) := by
  have key : ∀ ds ∈ firsts tb tk, ∃ d ∈ tb, ∃ n, ds = d.take (n + 1) := fun ds h => by
    obtain ⟨i, hi, e⟩ := List.getElem_of_mem h
    rw [firsts_len g] at hi
    have z := firsts_get g hi
    rw [List.getElem?_eq_getElem (by rw [firsts_len g]; exact hi), e] at z
    exact ⟨_, getD_mem hi, _, Option.some.inj z⟩
  refine ⟨by rw [firsts_len g]; exact gt.len, fun ds h => ?_, fun ds h => ?_, fun ds h z hz => ?_⟩
  · obtain ⟨d, hd, n, rfl⟩ := key ds h
    have := gt.one d hd
    rw [List.length_take]
    omega
  · obtain ⟨d, hd, n, rfl⟩ := key ds h
    have := gt.few d hd
    rw [List.length_take]
    omega
  · obtain ⟨d, hd, n, rfl⟩ := key ds h
    exact gt.hue d hd z (List.mem_of_mem_take hz)
theorem firsts_agree {tb : List (List Int)} {tk : List Int} (g : GoodK tb tk) : Agree tb (firsts tb tk) tk := by
  refine ⟨firsts_len g, fun p hp => ?_, fun p hp => ?_⟩
  · rw [getD_of (firsts_get g hp), List.length_take]
    have := g.at_ p hp
    omega
  · rw [getD_of (firsts_get g hp), List.take_take, Nat.min_self]
/-- the run of the draws taken alone -/
theorem run_firsts {many hues : Int} {wds : List WD} {tb : List (List Int)} {ord : List Int} {R : Res} {tk : List Int} (gr : GoodR many hues wds) (nd : ∀ wd ∈ wds, wd.1.Nodup) (gt : GoodT many hues tb) (go : GoodO wds.length ord) (e : RunEnd many hues wds tb ord R tk) : runOf wds (firsts tb tk) ord = some R := by
  have f : Fit many hues wds tb ord := ⟨gr, nd, gt.len, go⟩
  have ag := firsts_agree e.gk
  have s' := steps_agree f e.st (zeros_good gt) ag
  have es : stand (firsts tb tk) tk = stand tb tk := ag.stand e.gk fun _ _ => Int.le_refl _
  have s2 : Steps wds (firsts tb tk) ord (zerosI (firsts tb tk).length) [] tk R.2.2 := by rw [firsts_len e.gk]; exact s'
  have z := runOf_of gr nd (firsts_good gt e.gk) go (b := R.1) s2 ⟨fun b => by rw [es]; exact e.en.kept b, fun b => by
    obtain ⟨k, h1, h2⟩ := e.en.spent b
    refine ⟨k, by rw [es]; exact h1, ?_⟩
    obtain ⟨hk, hb⟩ := first_some h1
    obtain ⟨k0, k1⟩ := go.mem k hk
    obtain ⟨wd, hw, he⟩ := wd_of k0 k1
    have gw := gr.each wd (List.mem_of_getElem? hw)
    obtain ⟨p, hp⟩ := List.exists_mem_of_length_pos (show 0 < wd.1.length from gw.one)
    rw [canN, List.all_eq_false]
    refine ⟨p, by rw [he]; exact hp, ?_⟩
    have pp := gw.pl p hp
    have hl := gt.len
    have hpn : p.toNat < tb.length := by omega
    have a := e.gk.at_ _ hpn
    rw [decide_eq_true_eq, lenAt, getD_of (firsts_get e.gk hpn), List.length_take]
    unfold atF
    omega⟩
  rw [z, es, ← e.fs]
/-- the run of a table that goes on -/
theorem run_longer {many hues : Int} {wds : List WD} {tb tb' : List (List Int)} {ord : List Int} {R R' : Res} {tk : List Int} (gr : GoodR many hues wds) (nd : ∀ wd ∈ wds, wd.1.Nodup) (gt : GoodT many hues tb) (gt' : GoodT many hues tb') (go : GoodO wds.length ord) (e : RunEnd many hues wds tb ord R tk) (hR' : runOf wds tb' ord = some R')
    (pre : ∀ p : Nat, p < tb.length → ∃ more, tb'.getD p [] = tb.getD p [] ++ more) : (R.1 = true → R' = R) ∧ ∃ more, R'.2.2 = R.2.2 ++ more := by
  have f : Fit many hues wds tb ord := ⟨gr, nd, gt.len, go⟩
  have hl := gt.len
  have hl' := gt'.len
  have ag : Agree tb tb' tk := by
    refine ⟨by omega, fun p hp => ?_, fun p hp => ?_⟩
    · obtain ⟨more, hm⟩ := pre p hp
      have a := e.gk.at_ p hp
      rw [hm, List.length_append]
      omega
    · obtain ⟨more, hm⟩ := pre p hp
      have a := e.gk.at_ p hp
      rw [hm, List.take_append_of_le_length (by omega)]
  have s' := steps_agree f e.st (zeros_good gt) ag
  have es : stand tb' tk = stand tb tk := ag.stand e.gk fun _ _ => Int.le_refl _
  rw [← ag.len] at s'
  refine ⟨fun b => ?_, ?_⟩
  · have z := runOf_of gr nd gt' go (b := R.1) s' ⟨fun b => by rw [es]; exact e.en.kept b, fun z => by rw [b] at z; cases z⟩
    rw [hR', es, ← e.fs] at z
    exact Option.some.inj z
  · obtain ⟨c, hc⟩ := steps_goR s'
    have a := goR_more _ _ _ c hR'
    rw [hc] at a
    obtain ⟨tkE, s2, _⟩ := goR_steps _ _ _ a
    exact steps_pre s2
end Dt

set_option Elab.async false
set_option linter.all false
set_option maxRecDepth 100000
set_option maxHeartbeats 4000000
namespace Rd
open PySem PySem.Spec PyProof.Rows L2 Dt
/-- a statement that is never come to -/
theorem ps_never {X : Cx} {st : Stmt} : PS X st (fun _ _ _ => False) := ⟨fun _ _ _ _ _ _ h => h.elim⟩
/-! ### lists within one that are changed -/
theorem paired_mod {H : Hp} {d : Addr} {l' : List Int} : ∀ {das : List Addr} {T : List (List Int)} {p : Nat}, Paired (IsInts H) das T → das.Nodup → das[p]? = some d → Paired (IsInts (upd H d (.lst (l'.map V.int)))) das (T.set p l')
  | _, _, p, .nil, _, h => by simp at h
  | a :: r, l :: q, 0, .cons h t, nd, e => by
    have ea : a = d := Option.some.inj e
    subst ea
    have nd2 := List.nodup_cons.mp nd
    exact .cons (by show upd H a _ a = _; exact upd_same) (paired_upd t fun x hx (z : x = a) => nd2.1 (by rw [← z]; exact hx))
  | a :: r, l :: q, p + 1, .cons h t, nd, e => by
    have nd2 := List.nodup_cons.mp nd
    have hm : d ∈ r := List.mem_of_getElem? (show r[p]? = some d from e)
    exact .cons (by show upd H d _ a = _; rw [upd_ne (fun z : a = d => nd2.1 (by rw [z]; exact hm))]; exact h) (paired_mod t nd2.2 e)
theorem paired_len_upd {H : Hp} {D : Addr} {o : HO} {das : List Addr} {T : List (List Int)} (p : Paired (IsInts H) das T) (n : D ∉ das) : Paired (IsInts (upd H D o)) das T := paired_upd p fun d hd (z : d = D) => n (by rw [← z]; exact hd)
/-- a new list of new lists, no two one -/
structure NewTab (H H' : Hp) (ta : Addr) (das : List Addr) (T : List (List Int)) : Prop where
  ht : H' ta = some (.lst (das.map V.ref))
  nt : H ta = none
  nd : das.Nodup
  new : ∀ d ∈ das, H d = none ∧ d ≠ ta
  pr : Paired (IsInts H') das T
theorem NewTab.tab {H H' : Hp} {ta : Addr} {das : List Addr} {T : List (List Int)} (h : NewTab H H' ta das T) : IsTab (Old H) H' ta T := ⟨das, h.ht, fun z => z h.nt, fun d hd z => z (h.new d hd).1, h.pr⟩
theorem NewTab.app {H H' : Hp} {ta : Addr} {das : List Addr} {T : List (List Int)} {p : Nat} {d : Addr} {l : List Int} {x : Int} (h : NewTab H H' ta das T) (hd : das[p]? = some d) (hl : T[p]? = some l) : NewTab H (upd H' d (.lst ((l ++ [x]).map V.int))) ta das (app1 T p x) := by
  have hm := List.mem_of_getElem? hd
  refine ⟨by rw [upd_ne (h.new d hm).2.symm]; exact h.ht, h.nt, h.nd, h.new, ?_⟩
  unfold app1
  rw [getD_of hl]
  exact paired_mod h.pr h.nd hd
theorem NewTab.mono {H H' H2 : Hp} {ta : Addr} {das : List Addr} {T : List (List Int)} (h : NewTab H H' ta das T) (s : Seqs H' H2) : NewTab H H2 ta das T := ⟨s.2 _ _ h.ht, h.nt, h.nd, h.new, pairedMap (fun _ _ e => s.2 _ _ e) h.pr⟩
/-! ### how long told draws are -/
theorem app1_le (T : List (List Int)) (p q : Nat) (h : Int) : ((app1 T p h).getD q []).length ≤ (T.getD q []).length + 1 := by
  rw [app1_get]
  split
  · rename_i e
    rw [e.1, List.length_append]
    exact Nat.le_refl _
  · omega
theorem appA_le : ∀ (ps row : List Int) (T : List (List Int)) (q : Nat), ((appA T ps row).getD q []).length ≤ (T.getD q []).length + ps.length
  | [], _, _, _ => Nat.le_refl _
  | _ :: _, [], _, _ => Nat.le_add_right _ _
  | p :: r, h :: s, T, q => by
    have a := appA_le r s (app1 T p.toNat h) q
    have b := app1_le T p.toNat q h
    show ((appA (app1 T p.toNat h) r s).getD q []).length ≤ _
    rw [List.length_cons]
    omega
theorem appA_snoc (T : List (List Int)) : ∀ {ps row : List Int} {j : Nat} {p h : Int}, ps[j]? = some p → row[j]? = some h → appA T (ps.take (j + 1)) (row.take (j + 1)) = app1 (appA T (ps.take j) (row.take j)) p.toNat h := by
  intro ps row j p h hp hh
  unfold appA
  have e : (ps.take (j + 1)).zip (row.take (j + 1)) = (ps.take j).zip (row.take j) ++ [(p, h)] := by
    rw [take_snoc hp, take_snoc hh]
    rw [List.zip_append]
    · rfl
    · rw [List.length_take, List.length_take]
      have a := (List.getElem?_eq_some_iff.mp hp).1
      have b := (List.getElem?_eq_some_iff.mp hh).1
      omega
  rw [e, List.foldl_append]
  rfl
theorem toldL_le {wds : List WD} (h3 : ∀ wd ∈ wds, wd.1.length ≤ 3) (n q : Nat) : ∀ log : Log, ((toldL wds n log).getD q []).length ≤ 3 * log.length := by
  have pl3 : ∀ k : Int, (plc wds k).length ≤ 3 := fun k => by
    unfold plc
    rw [List.getD_eq_getElem?_getD]
    cases e : wds[k.toNat]? with
    | none => simp
    | some wd => exact h3 wd (List.mem_of_getElem? e)
  have key : ∀ (log : Log) (T : List (List Int)), ((log.foldl (fun t e => appA t (plc wds e.1) e.2) T).getD q []).length ≤ (T.getD q []).length + 3 * log.length := by
    intro log
    induction log with
    | nil => intro T; exact Nat.le_refl _
    | cons e r ih =>
      intro T
      rw [List.foldl_cons, List.length_cons]
      have a := ih (appA T (plc wds e.1) e.2)
      have b := appA_le (plc wds e.1) e.2 T q
      have c := pl3 e.1
      omega
  intro log
  have a := key log (List.replicate n [])
  have b : ((List.replicate n ([] : List Int)).getD q []).length = 0 := by
    rw [List.getD_eq_getElem?_getD, List.getElem?_replicate]
    split <;> rfl
  unfold toldL
  omega
/-! ### logs looked at -/
def entB (wds : List WD) (x : Int × List Int) : Bool := decide (0 ≤ x.1 ∧ x.1 < (wds.length : Int) ∧ x.2 ∈ (wds.getD x.1.toNat ([], [])).2)
def logB (wds : List WD) (log : Log) : Bool := log.all (entB wds)
theorem logB_ok {wds : List WD} {log : Log} (h : logB wds log = true) : LogOk wds log := fun e he => by
  obtain ⟨h0, h1, h2⟩ := of_decide_eq_true (List.all_eq_true.mp h e he)
  have hk : e.1.toNat < wds.length := by omega
  rw [getD_get hk] at h2
  exact ⟨h0, h1, _, List.getElem?_eq_getElem hk, h2⟩
theorem logB_of {wds : List WD} {log : Log} (h : LogOk wds log) : logB wds log = true := List.all_eq_true.mpr fun e he => by
  obtain ⟨h0, h1, wd, hw, hr⟩ := h e he
  exact decide_eq_true ⟨h0, h1, by rw [getD_of hw]; exact hr⟩
theorem shaped_row (r : Dt.Row) : SeqAt.shaped (rowD r) = true := by
  have a : ∀ l : List Int, PyData.canLayAll0 (l.map .int) = true := Gv.canAll_ints
  have b : ∀ l : List Int, PyData.depthAll (l.map .int) ≤ 1 := fun l => by
    induction l with
    | nil => simp [PyData.depthAll]
    | cons x q ih => simp only [List.map_cons, PyData.depthAll, PyData.depth]; omega
  show ((rowD r).canLay0 && decide ((rowD r).depth ≤ 64)) = true
  have d : (rowD r).depth ≤ 64 := by
    unfold rowD
    simp only [PyData.depth]
    have := b r
    omega
  have c : (rowD r).canLay0 = true := by
    unfold rowD
    simp only [PyData.canLay0]
    exact a r
  rw [c, decide_eq_true d]
  rfl
theorem row_hue {many hues : Int} {wds : List WD} (gr : GoodR many hues wds) {log : Log} (h : LogOk wds log) : ∀ e ∈ log, ∀ z ∈ e.2, 0 ≤ z ∧ z < hues := fun e he z hz => by
  obtain ⟨_, _, wd, hw, hr⟩ := h e he
  exact ((gr.each wd (List.mem_of_getElem? hw)).row _ hr).2 z hz
theorem app1_all {Pz : Int → Prop} {T : List (List Int)} {p : Nat} {x : Int} (h : ∀ l ∈ T, ∀ z ∈ l, Pz z) (hx : Pz x) : ∀ l ∈ app1 T p x, ∀ z ∈ l, Pz z := fun l hl z hz => by
  rcases List.mem_or_eq_of_mem_set hl with e | e
  · exact h l e z hz
  · rw [e] at hz
    rcases List.mem_append.mp hz with q | q
    · by_cases hp : p < T.length
      · exact h _ (getD_mem (d := []) hp) z q
      · rw [List.getD_eq_getElem?_getD, List.getElem?_eq_none (by omega)] at q
        cases q
    · rw [List.mem_singleton.mp q]; exact hx
theorem appA_all {Pz : Int → Prop} : ∀ (ps row : List Int) (T : List (List Int)), (∀ l ∈ T, ∀ z ∈ l, Pz z) → (∀ z ∈ row, Pz z) → ∀ l ∈ appA T ps row, ∀ z ∈ l, Pz z
  | [], _, _, h, _ => h
  | _ :: _, [], _, h, _ => h
  | p :: r, x :: s, T, h, hr => appA_all r s (app1 T p.toNat x) (app1_all h (hr x List.mem_cons_self)) fun z hz => hr z (List.mem_cons_of_mem _ hz)
theorem toldL_all {Pz : Int → Prop} (wds : List WD) (n : Nat) : ∀ log : Log, (∀ e ∈ log, ∀ z ∈ e.2, Pz z) → ∀ l ∈ toldL wds n log, ∀ z ∈ l, Pz z := by
  have key : ∀ (log : Log) (T : List (List Int)), (∀ l ∈ T, ∀ z ∈ l, Pz z) → (∀ e ∈ log, ∀ z ∈ e.2, Pz z) → ∀ l ∈ log.foldl (fun t e => appA t (plc wds e.1) e.2) T, ∀ z ∈ l, Pz z := by
    intro log
    induction log with
    | nil => intro T h _; exact h
    | cons e r ih =>
      intro T h hl
      rw [List.foldl_cons]
      exact ih _ (appA_all _ _ _ h (hl e List.mem_cons_self)) fun x hx => hl x (List.mem_cons_of_mem _ hx)
  intro log h
  refine key log _ (fun l hl z hz => ?_) h
  rw [(List.mem_replicate.mp hl).2] at hz
  cases hz
theorem told_good {many hues : Int} {wds : List WD} (gr : GoodR many hues wds) {fs : List Int} {log : Log} (gf : GoodF many hues fs) (h : LogOk wds log) (few : ∀ ds ∈ toldT wds fs log, ds.length ≤ 1000) : GoodT many hues (toldT wds fs log) := by
  have each : ∀ ds ∈ toldT wds fs log, ∃ q, q < fs.length ∧ ds = (toldL wds fs.length log).getD q [] ++ [fs.getD q 0] := fun ds hd => by
    obtain ⟨i, hi, e⟩ := List.getElem_of_mem hd
    rw [toldT_len] at hi
    refine ⟨i, hi, ?_⟩
    rw [← toldT_get wds fs log hi, getD_get (by rw [toldT_len]; exact hi), e]
  refine ⟨by rw [toldT_len]; exact gf.len, fun ds hd => ?_, few, fun ds hd z hz => ?_⟩
  · obtain ⟨q, _, e⟩ := each ds hd
    rw [e, List.length_append]
    exact Nat.le_add_left _ _
  · obtain ⟨q, hq, e⟩ := each ds hd
    rw [e] at hz
    rcases List.mem_append.mp hz with y | y
    · have hq2 : q < (toldL wds fs.length log).length := by rw [toldL_len]; exact hq
      exact toldL_all (Pz := fun z => 0 ≤ z ∧ z < hues) wds _ log (row_hue gr h) _ (getD_mem hq2) z y
    · rw [List.mem_singleton.mp y]
      exact gf.hue _ (Dt.getD_mem hq)
/-! ### equality of what is told -/
theorem eqv_ent (x y : Int × List Int) : PyData.eqv (entD x) (entD y) = decide (x = y) := by
  obtain ⟨a, r⟩ := x
  obtain ⟨b, s⟩ := y
  unfold entD
  have e := eqv_row r s
  simp only [PyData.eqv, PyData.eqvAll, e, Bool.and_true]
  by_cases h : a = b
  · subst h
    by_cases h2 : r = s
    · subst h2; simp
    · simp [h2]
  · simp [h]
theorem eqvAll_ents : ∀ a b : Log, PyData.eqvAll (a.map entD) (b.map entD) = decide (a = b)
  | [], [] => by simp [PyData.eqvAll]
  | [], _ :: _ => by simp [PyData.eqvAll]
  | _ :: _, [] => by simp [PyData.eqvAll]
  | x :: r, y :: q => by
    simp only [List.map_cons, PyData.eqvAll, eqv_ent, eqvAll_ents r q]
    by_cases h : x = y
    · subst h; simp
    · simp [h]
theorem eqv_log (a b : Log) : PyData.eqv (logD a) (logD b) = decide (a = b) := by
  unfold logD
  rw [PyData.eqv]
  exact eqvAll_ents a b
theorem eqv_endS (a b : Bool) : PyData.eqv (.str (endS a)) (.str (endS b)) = decide (a = b) := by
  cases a <;> cases b <;> decide +kernel
theorem eqv_res (R S : Res) : PyData.eqv (resD R) (resD S) = decide (R = S) := by
  obtain ⟨a, f, l⟩ := R
  obtain ⟨b, g, m⟩ := S
  unfold resD
  have e1 := eqv_endS a b
  have e2 := eqv_row f g
  have e3 := eqv_log l m
  rw [PyData.eqv]
  simp only [PyData.eqvAll, e1, e2, e3, Bool.and_true]
  by_cases h1 : a = b
  · by_cases h2 : f = g
    · by_cases h3 : l = m
      · subst h1; subst h2; subst h3; simp
      · simp [h3]
    · simp [h2]
  · simp [h1]
def isRunB (wds : List WD) (ord : List Int) (b : Bool) (fs : List Int) (log : Log) : Bool := logB wds log && decide (runOf wds (toldT wds fs log) ord = some (b, fs, log))
/-! ### frames but for the tape and some tables -/
structure FrT (tp : Addr) (Ps : List Addr) (H H' : Hp) : Prop where
  keep : ∀ b o, b ≠ tp → b ∉ Ps → H b = some o → H' b = some o
  tape : Tape H' tp
  tabs : Tabs Ps H'
theorem FrT.frs {tp : Addr} {Ps : List Addr} {H H' : Hp} (t : Tape H tp) (tt : Tabs Ps H) (f : FrS Ps H H') : FrT tp Ps H H' := ⟨fun b o _ n e => f.1 b o n e, t.seqs (f.seqs tt), f.2⟩
theorem FrT.taped {tp : Addr} {Ps : List Addr} {H H' : Hp} (t : Tape H tp) (tt : Tabs Ps H) (f : Taped tp H H') : FrT tp Ps H H' := ⟨fun b o n _ e => f.1 b o n e, f.2, f.tabs t tt⟩
theorem FrT.trans {tp : Addr} {Ps : List Addr} {H H1 H2 : Hp} (a : FrT tp Ps H H1) (b : FrT tp Ps H1 H2) : FrT tp Ps H H2 := ⟨fun x o n m e => b.keep x o n m (a.keep x o n m e), b.tape, b.tabs⟩
theorem FrT.refl {tp : Addr} {Ps : List Addr} {H : Hp} (t : Tape H tp) (tt : Tabs Ps H) : FrT tp Ps H H := ⟨fun _ _ _ _ e => e, t, tt⟩
theorem FrT.same {tp : Addr} {Ps : List Addr} {H H1 H2 : Hp} (a : FrT tp Ps H H1) (s : Same H1 H2) : FrT tp Ps H H2 := ⟨fun x o n m e => s _ _ (a.keep x o n m e), a.tape.same s, a.tabs.same s⟩
theorem FrT.put {tp : Addr} {Ps : List Addr} {H H1 : Hp} {b : Addr} {o : HO} (a : FrT tp Ps H H1) (n : H b = none) (nt : b ≠ tp) (np : b ∉ Ps) : FrT tp Ps H (upd H1 b o) := ⟨fun x u m k e => by rw [upd_ne (ne_of_none e n)]; exact a.keep x u m k e, a.tape.put nt, a.tabs.put np⟩
theorem FrT.tups {tp : Addr} {Ps : List Addr} {H H' : Hp} (t : Tape H tp) (tt : Tabs Ps H) (f : FrT tp Ps H H') : Tups H H' := ⟨fun b xs e => f.keep b _ (fun z => by
  obtain ⟨_, _, h1, _⟩ := t
  rw [z, h1] at e
  cases e) (tt.tup e) e, fun b o xs e => f.keep b _ (fun z => by
  obtain ⟨_, _, h1, _⟩ := t
  rw [z, h1] at e
  cases e) (tt.frz e) e⟩
theorem FrT.lst {tp : Addr} {Ps : List Addr} {H H' : Hp} (tt : Tabs Ps H) (f : FrT tp Ps H H') {b : Addr} {xs : List V} (n : b ≠ tp) (e : H b = some (.lst xs)) : H' b = some (.lst xs) := f.keep b _ n (tt.lst e) e
theorem FrT.free {tp : Addr} {Ps : List Addr} {H H' : Hp} {b : Addr} (f : FrT tp Ps H H') (h : H' b = none) : H b = none := by
  cases e : H b with
  | none => rfl
  | some o =>
    have h1 := f.tape.new h
    have h2 := f.tabs.new h
    rw [f.keep b o h1 h2 e] at h
    cases h
theorem LI.frt {K : PySem.W.Frag} {a : Addr} {xs : List V} {Ps : List Addr} {tp : Addr} {H H' : Hp} (h : LI K a xs Ps tp H) (f : FrT tp Ps H H') : LI K a xs Ps tp H' := by
  refine ⟨f.tape, f.tabs, ?_, h.far⟩
  by_cases e : a = tp
  · exact h.far e H'
  · rcases h.scr with (z | ⟨o, z⟩) | z
    · exact .inl (.inl (f.lst h.tabs e z))
    · exact .inl (.inr ⟨o, f.keep a _ e (fun y => by obtain ⟨ps, q, _⟩ := h.tabs a y; rw [z] at q; cases q) z⟩)
    · exact .inr z
theorem IsTab.frt {tp : Addr} {Ps : List Addr} {H H' : Hp} {ta : Addr} {tb : List (List Int)} (h : IsTab (· = tp) H ta tb) (tt : Tabs Ps H) (f : FrT tp Ps H H') : IsTab (· = tp) H' ta tb := h.mono fun b xs n e => f.lst tt n e
/-- a list of the items of two lists -/
theorem lc_zipL {K : PySem.W.Frag} {a b : Addr} {xs ys : List V} {g : TG} {tt : TT} {te : TE} {vs : List Nat} {σ : L2.St} {H1 : Hp} {D : Addr} {Qd : Hp → Prop} (hl : xs.length = ys.length) (Pv : Nat → Hp → Prop) (h0 : Pv 0 (upd H1 D (.lst []))) (hq : ∀ i H, Pv i H → SqL K H a xs ∧ SqL K H b ys)
    (hs : ∀ i x y T H, xs[i]? = some x → ys[i]? = some y → Pv i H → H T = none → g (.ref T) (wipe σ vs) (upd H T (.tup [x, y])) fun σ2 H2 => wipe σ2 vs = wipe σ vs ∧ tt σ2 H2 fun b H3 =>
      if b = true then te σ2 H3 fun y H4 => ∃ acc, H4 D = some (.lst acc) ∧ acc.length < sizeLine ∧ Pv (i + 1) (upd H4 D (.lst (acc ++ [y]))) else Pv (i + 1) H3) (hd : ∀ H, Pv xs.length H → Qd H) :
    ∃ W : Nat → Nat → Hp → Prop, (∃ m, W 0 m (upd H1 D (.lst []))) ∧ ∀ i m H, W i m H →
      ((Itz K a b).stop i H ∧ Qd H) ∨ ((Itz K a b).go i H ∧ ∃ Nx : Hp → Prop, (∀ H', Nx H' → ∃ m', m' < m ∧ W (i + 1) m' H') ∧ ∀ x H', (Itz K a b).yld i H x H' → g x (wipe σ vs) H' fun σ2 H2 => wipe σ2 vs = wipe σ vs ∧ tt σ2 H2 fun b H3 =>
        if b = true then te σ2 H3 fun y H4 => ∃ acc, H4 D = some (.lst acc) ∧ acc.length < sizeLine ∧ Nx (upd H4 D (.lst (acc ++ [y]))) else Nx H3) := by
  refine ⟨fun i m H => m = xs.length - i ∧ i ≤ xs.length ∧ Pv i H, ⟨xs.length, by simp, Nat.zero_le _, h0⟩, ?_⟩
  rintro i m H ⟨rfl, hi, p⟩
  obtain ⟨qx, qy⟩ := hq i H p
  by_cases hlt : i < xs.length
  · have hx : xs[i]? = some xs[i] := List.getElem?_eq_getElem hlt
    have hlt2 : i < ys.length := by omega
    have hy : ys[i]? = some ys[i] := List.getElem?_eq_getElem hlt2
    refine .inr ⟨⟨xs, ys, _, _, qx, qy, hx, hy⟩, Pv (i + 1), fun H' p' => ⟨xs.length - (i + 1), by omega, rfl, hlt, p'⟩, fun v H' y => ?_⟩
    obtain ⟨T, x', y', rfl, hT, rfl, f1, f2⟩ := y
    exact hs i x' y' T H (f1 xs qx) (f2 ys qy) p hT
  · have e : i = xs.length := by omega
    subst e
    exact .inl ⟨⟨xs, ys, qx, qy, Or.inl (Nat.le_refl _)⟩, hd H p⟩
theorem pairedTake {α β : Type} {F : α → β → Prop} : ∀ {l : List α} {m : List β} (n : Nat), Paired F l m → Paired F (l.take n) (m.take n)
  | _, _, 0, _ => by rw [List.take_zero, List.take_zero]; exact .nil
  | _, _, _ + 1, .nil => .nil
  | _, _, n + 1, .cons h t => .cons h (pairedTake n t)
theorem pairedDrop {α β : Type} {F : α → β → Prop} : ∀ {l : List α} {m : List β} (n : Nat), Paired F l m → Paired F (l.drop n) (m.drop n)
  | _, _, 0, h => h
  | _, _, _ + 1, .nil => .nil
  | _, _, n + 1, .cons _ t => pairedDrop n t
end Rd

set_option Elab.async false
set_option linter.all false
set_option maxRecDepth 100000
set_option maxHeartbeats 4000000
/-! what is told is held as it stands; walks over a dict's items -/
namespace Rd
open PySem PySem.Spec PyProof.Rows L2 Dt
def tFrz (te : TE) : TE := fun σ H Q => te σ H fun v H1 => ∃ (d : Addr) (u : HO), v = .ref d ∧ H1 d = some u ∧ Mut (some u) ∧ ∀ od, Q v (upd H1 d (.frz od u))
theorem pe_frz {X : Cx} {e : Expr} {te : TE} (he : PE X e te) : PE X e (tFrz te) := by
  refine ⟨fun pins s σ H Q I h => ?_⟩
  refine thn (he.run pins s σ H _ I h) fun v s1 ⟨x, H1, I1, r1, d, u, ex, hd, mu, q⟩ => ?_
  obtain ⟨od, I2⟩ := I1.lock hd mu
  exact ⟨x, _, I2, r1, q od⟩
theorem for_items {d : Addr} {o : Obj} {kvs : List (Key × V)} {g : TG} {tb : TS} {D : Ends} {σ : L2.St} {H : Hp} (Pv : Nat → L2.St → Hp → Prop) (h0 : Pv 0 σ H) (hl : ∀ i σ H, i ≤ kvs.length → Pv i σ H → H d = some (.frz o (.dK kvs)))
    (hs : ∀ i k v σ H T, kvs[i]? = some (k, v) → Pv i σ H → H T = none → g (.ref T) σ (upd H T (.tup [kV k, v])) fun σ2 H2 => tb { D with nx := Pv (i + 1), ct := Pv (i + 1), bk := D.nx } σ2 H2) (hd : ∀ σ H, Pv kvs.length σ H → D.nx σ H) :
    ∃ W : Nat → Nat → L2.St → Hp → Prop, (∃ m, W 0 m σ H) ∧ ∀ i m σ H, W i m σ H →
      ((Iti d o kvs).stop i H ∧ D.nx σ H) ∨ ((Iti d o kvs).go i H ∧ ∃ N : L2.St → Hp → Prop, (∀ σ' H', N σ' H' → ∃ m', m' < m ∧ W (i + 1) m' σ' H') ∧ ∀ x H', (Iti d o kvs).yld i H x H' → g x σ H' fun σ2 H2 => tb { D with nx := N, ct := N, bk := D.nx } σ2 H2) := by
  refine ⟨fun i m σ H => m = kvs.length - i ∧ i ≤ kvs.length ∧ Pv i σ H, ⟨kvs.length, by simp, Nat.zero_le _, h0⟩, ?_⟩
  rintro i m σ H ⟨rfl, hi, p⟩
  have q := hl i σ H hi p
  by_cases hlt : i < kvs.length
  · refine .inr ⟨⟨q, hlt⟩, Pv (i + 1), fun σ' H' p' => ⟨kvs.length - (i + 1), by omega, rfl, hlt, p'⟩, fun x H' y => ?_⟩
    obtain ⟨T, k, v, e, rfl, nT, rfl⟩ := y
    exact hs i k v σ H T e p nT
  · have e : i = kvs.length := by omega
    subst e
    exact .inl ⟨⟨q, Nat.le_refl _⟩, hd σ H p⟩
end Rd

set_option Elab.async false
set_option linter.all false
set_option maxRecDepth 100000
set_option maxHeartbeats 4000000
/-! fractions, weights, and what they show -/
namespace Gx
open PySem PySem.Spec PyProof.Rows L2
theorem all_enumL {K : PySem.W.Frag} {a : Addr} {xs : List V} {g : TG} {tt : TT} {te : TE} {vs : List Nat} {σ : L2.St} {d : Bool} {QT QF : Hp → Prop} {H2 : Hp} (Pv : Nat → Hp → Prop) (h0 : Pv 0 H2) (hl : ∀ i H, i ≤ xs.length → Pv i H → SqL K H a xs)
    (hs : ∀ i x H T, xs[i]? = some x → Pv i H → H T = none → g (.ref T) (wipe σ vs) (upd H T (.tup [.int (i : Nat), x])) fun σ2 H2 => wipe σ2 vs = wipe σ vs ∧ tt σ2 H2 fun b H3 => if b = true then te σ2 H3 fun y H4 => ∃ c, y = .bl c ∧ (if c = d then Pv (i + 1) H4 else QF H4) else Pv (i + 1) H3) (hd : ∀ H, Pv xs.length H → QT H) :
    ∃ W : Nat → Nat → Hp → Prop, (∃ m, W 0 m H2) ∧ Turns (Ite K a) g tt te vs σ d QT QF W := by
  refine ⟨fun i m H => m = xs.length - i ∧ i ≤ xs.length ∧ Pv i H, ⟨xs.length, by simp, Nat.zero_le _, h0⟩, ?_⟩
  rintro i m H ⟨rfl, hi, p⟩
  have q := hl i H hi p
  by_cases hlt : i < xs.length
  · refine .inr ⟨⟨xs, xs[i], q, by simp [hlt]⟩, Pv (i + 1), fun H' p' => ⟨xs.length - (i + 1), by omega, rfl, hlt, p'⟩, fun v H' hy => ?_⟩
    obtain ⟨T, x, rfl, nT, rfl, fx⟩ := hy
    exact hs i x H T (fx xs q) p nT
  · have e : i = xs.length := by omega
    subst e
    exact .inl ⟨⟨xs, q, Nat.le_refl _⟩, hd H p⟩
end Gx
namespace Rd
open PySem PySem.Spec PyProof.Rows L2 Dt
abbrev Fc := Int × Int
def gcdI (a b : Int) : Int := ((Nat.gcd a.toNat b.toNat : Nat) : Int)
def lowI (a b : Int) : Fc := (a / gcdI a b, b / gcdI a b)
theorem gcdI_step {a b : Int} (ha : 0 ≤ a) (hb : 0 < b) : gcdI b (a % b) = gcdI a b := by
  obtain ⟨m, rfl⟩ : ∃ m : Nat, a = m := ⟨a.toNat, by omega⟩
  obtain ⟨n, rfl⟩ : ∃ n : Nat, b = n := ⟨b.toNat, by omega⟩
  unfold gcdI
  rw [← Int.natCast_emod, Int.toNat_natCast, Int.toNat_natCast, Int.toNat_natCast, Nat.gcd_comm m n, Nat.gcd_rec n m, Nat.gcd_comm]
theorem gcdI_zero {a : Int} (ha : 0 ≤ a) : gcdI a 0 = a := by
  unfold gcdI
  rw [show (0 : Int).toNat = 0 from rfl, Nat.gcd_zero_right]
  omega
theorem gcdI_pos {a b : Int} (hb : 1 ≤ b) : 1 ≤ gcdI a b := by
  unfold gcdI
  have := Nat.gcd_pos_of_pos_right a.toNat (show 0 < b.toNat by omega)
  omega
theorem gcdI_le {a b : Int} (hb : 1 ≤ b) : gcdI a b ≤ b := by
  unfold gcdI
  have := Nat.le_of_dvd (show 0 < b.toNat by omega) (Nat.gcd_dvd_right a.toNat b.toNat)
  omega
theorem low_mul {a b : Int} (ha : 0 ≤ a) (hb : 1 ≤ b) : a = gcdI a b * (lowI a b).1 ∧ b = gcdI a b * (lowI a b).2 := by
  unfold lowI
  dsimp only
  have d1 : gcdI a b ∣ a := by
    have := Int.natCast_dvd_natCast.mpr (Nat.gcd_dvd_left a.toNat b.toNat)
    rw [Int.toNat_of_nonneg ha] at this
    exact this
  have d2 : gcdI a b ∣ b := by
    have := Int.natCast_dvd_natCast.mpr (Nat.gcd_dvd_right a.toNat b.toNat)
    rw [Int.toNat_of_nonneg (show 0 ≤ b by omega)] at this
    exact this
  exact ⟨(Int.mul_ediv_cancel' d1).symm, (Int.mul_ediv_cancel' d2).symm⟩
theorem pos_of_mul {g x : Int} (hg : 1 ≤ g) (h : 1 ≤ g * x) : 1 ≤ x := by
  by_cases c : 1 ≤ x
  · exact c
  · have : g * x ≤ g * 0 := Int.mul_le_mul_of_nonneg_left (by omega) (by omega)
    omega
theorem lt_of_mul {g x y : Int} (hg : 1 ≤ g) (h : g * x < g * y) : x < y := by
  by_cases c : x < y
  · exact c
  · have : g * y ≤ g * x := Int.mul_le_mul_of_nonneg_left (by omega) (by omega)
    omega
theorem le_mul {g x : Int} (hg : 1 ≤ g) (h : 0 ≤ x) : x ≤ g * x := by
  have : 1 * x ≤ g * x := Int.mul_le_mul_of_nonneg_right hg h
  omega
theorem low_ok {a b : Int} (ha : 0 ≤ a) (hb : 1 ≤ b) : 0 ≤ (lowI a b).1 ∧ 1 ≤ (lowI a b).2 ∧ (lowI a b).2 ≤ b ∧ (lowI a b).1 ≤ a := by
  have g1 := gcdI_pos (a := a) hb
  obtain ⟨e1, e2⟩ := low_mul ha hb
  have p1 : 0 ≤ (lowI a b).1 := Int.ediv_nonneg ha (by omega)
  have p2 : 1 ≤ (lowI a b).2 := pos_of_mul g1 (by omega)
  have l1 := le_mul g1 p1
  have l2 := le_mul g1 (show 0 ≤ (lowI a b).2 by omega)
  omega
theorem low_lt {a b : Int} (ha : 1 ≤ a) (h : a < b) : 1 ≤ (lowI a b).1 ∧ (lowI a b).1 < (lowI a b).2 := by
  have g1 := gcdI_pos (a := a) (show 1 ≤ b by omega)
  obtain ⟨e1, e2⟩ := low_mul (show 0 ≤ a by omega) (show 1 ≤ b by omega)
  exact ⟨pos_of_mul g1 (by omega), lt_of_mul g1 (by omega)⟩
theorem low_le {r e A B : Int} (hr : 0 ≤ r) (he : 1 ≤ e) (hA : 0 ≤ A) (hB : 1 ≤ B) : (lowI r e).1 * (lowI A B).2 ≤ (lowI A B).1 * (lowI r e).2 ↔ r * B ≤ A * e := by
  have g1 := gcdI_pos (a := r) he
  have k1 := gcdI_pos (a := A) hB
  obtain ⟨e1, e2⟩ := low_mul hr he
  obtain ⟨e3, e4⟩ := low_mul hA hB
  generalize gcdI r e = g at *
  generalize gcdI A B = k at *
  generalize (lowI r e).1 = r', (lowI r e).2 = e', (lowI A B).1 = A', (lowI A B).2 = B' at *
  subst e1 e2 e3 e4
  have gk : 0 < g * k := Int.mul_pos (by omega) (by omega)
  have x1 : g * r' * (k * B') = g * k * (r' * B') := by
    rw [Int.mul_assoc, Int.mul_assoc, Int.mul_left_comm r' k B']
  have x2 : k * A' * (g * e') = g * k * (A' * e') := by
    rw [Int.mul_assoc, Int.mul_comm g k, Int.mul_assoc, Int.mul_left_comm A' g e']
  rw [x1, x2]
  constructor
  · exact fun h => Int.mul_le_mul_of_nonneg_left h (by omega)
  · exact fun h => Int.le_of_mul_le_mul_left h gk
/-! ### weights -/
def wAt (ws : List Fc) (i : Nat) : Fc := ws.getD i (1, 2)
structure GoodW (B : Int) (ws : List Fc) : Prop where
  each : ∀ x ∈ ws, 1 ≤ x.1 ∧ x.1 < x.2 ∧ x.2 ≤ B
def IsFrs (H : Hp) (l : Addr) (ws : List Fc) : Prop := ∃ ts : List Addr, H l = some (.lst (ts.map V.ref)) ∧ Paired (IsPr H) ts ws
theorem IsFrs.mono {H H' : Hp} {l : Addr} {ws : List Fc} (h : IsFrs H l ws) (t : Tups H H') (k : ∀ xs, H l = some (.lst xs) → H' l = some (.lst xs)) : IsFrs H' l ws := let ⟨ts, h1, h2⟩ := h; ⟨ts, k _ h1, pairedMap (fun _ _ e => t _ _ e) h2⟩
theorem IsFrs.seqs {H H' : Hp} {l : Addr} {ws : List Fc} (h : IsFrs H l ws) (s : Seqs H H') : IsFrs H' l ws := h.mono s.1 fun xs e => s.2 _ _ e
def frD (x : Fc) : PyData := .tuple [.int x.1, .int x.2]
def frsD (ws : List Fc) : PyData := .list (ws.map frD)
theorem dpFrL {K : PySem.W.Frag} {H : Hp} : ∀ {ts : List Addr} {ws : List Fc}, Paired (IsPr H) ts ws → DpAll K H (ts.map V.ref) (ws.map frD)
  | _, _, .nil => .nil
  | _, _, .cons h t => .cons (.tup (.inl (.inl h)) (.cons (.int _) (.cons (.int _) .nil))) (dpFrL t)
theorem dpFrs {K : PySem.W.Frag} {H : Hp} {l : Addr} {ws : List Fc} (h : IsFrs H l ws) : Dp K H (.ref l) (frsD ws) := let ⟨ts, h1, h2⟩ := h; .lst (.inl (.inl h1)) (dpFrL h2)
theorem fine_intX {i : Int} (h0 : 0 ≤ i) (h1 : i < 10 ^ 9) : Fine (.int i) 1 34 := by
  obtain ⟨n, rfl⟩ : ∃ n : Nat, i = n := ⟨i.toNat, by omega⟩
  have hn : n < 10 ^ 9 := by omega
  have hl : n.log2 ≤ 29 := by
    by_cases e : n = 0
    · subst e; decide
    · have := (Nat.log2_lt e).mpr (show n < 2 ^ 30 by omega)
      omega
  refine ⟨rfl, by simp [PyData.depth], ?_, ?_, rfl, short_int n (by omega)⟩
  · simp only [PyData.weight]
    split
    · omega
    · have e : ((n : Int)).natAbs = n := by omega
      rw [e]
      omega
  · simp only [PyData.showable]
    have e : ((n : Int)).natAbs = n := by omega
    rw [e]
    exact decide_eq_true (by omega)
theorem fine_fr {x : Fc} (h1 : 0 ≤ x.1) (h2 : x.1 < 10 ^ 9) (h3 : 0 ≤ x.2) (h4 : x.2 < 10 ^ 9) : Fine (frD x) 2 80 :=
  (Fine.tuple (.cons (fine_intX h1 h2) (.cons (fine_intX h3 h4) (.nil _)))).mono (by omega) (by omega)
theorem fine_frs {B : Int} {ws : List Fc} (hB : B < 10 ^ 9) (g : GoodW B ws) (hl : ws.length ≤ 100) : Fine (frsD ws) 3 9000 := by
  refine (Fine.list (fineAll_map (n := 2) (w := 80) ws fun x hx => ?_)).mono (by omega) (by omega)
  have := g.each x hx
  exact fine_fr (by omega) (by omega) (by omega) (by omega)
theorem wAt_get {ws : List Fc} {i : Nat} (h : i < ws.length) : ws[i]? = some (wAt ws i) := by
  unfold wAt
  rw [List.getD_eq_getElem?_getD, List.getElem?_eq_getElem h]
  rfl
theorem wAt_ok {B : Int} {ws : List Fc} {i : Nat} (g : GoodW B ws) (h : i < ws.length) : 1 ≤ (wAt ws i).1 ∧ (wAt ws i).1 < (wAt ws i).2 ∧ (wAt ws i).2 ≤ B := g.each _ (List.mem_of_getElem? (wAt_get h))
/-! ### the room of a wish -/
def stepW (ws : List Fc) (i : Nat) (p : Fc) (z : Int) : Fc := if z = (i : Int) then p else (p.1 * ((wAt ws z.toNat).2 - (wAt ws z.toNat).1), p.2 * (wAt ws z.toNat).2)
def roomF (ws : List Fc) (i : Nat) (l : List Int) : Fc := l.foldl (stepW ws i) (wAt ws i)
theorem room_snoc (ws : List Fc) (i : Nat) (l : List Int) (z : Int) : roomF ws i (l ++ [z]) = stepW ws i (roomF ws i l) z := by
  unfold roomF
  rw [List.foldl_append]
  rfl
theorem mul_pos1 {x y : Int} (h : 1 ≤ x) (k : 1 ≤ y) : 1 ≤ x * y := by
  have := Int.mul_pos (show 0 < x by omega) (show 0 < y by omega)
  omega
theorem step_ok {B : Int} {ws : List Fc} {i : Nat} {p : Fc} {z : Int} (g : GoodW B ws) (hz : 0 ≤ z) (hz2 : z.toNat < ws.length) (h1 : 1 ≤ p.1) (h2 : 1 ≤ p.2) : 1 ≤ (stepW ws i p z).1 ∧ 1 ≤ (stepW ws i p z).2 := by
  unfold stepW
  have := wAt_ok g hz2
  split
  · exact ⟨h1, h2⟩
  · exact ⟨mul_pos1 h1 (by omega), mul_pos1 h2 (by omega)⟩
theorem room_ok {B : Int} {ws : List Fc} {i : Nat} (g : GoodW B ws) (hi : i < ws.length) (hB : 1 ≤ B) : ∀ (l : List Int), (∀ z ∈ l, 0 ≤ z ∧ z.toNat < ws.length) → ∀ p : Fc, 1 ≤ p.1 → 1 ≤ p.2 → 1 ≤ (l.foldl (stepW ws i) p).1 ∧ 1 ≤ (l.foldl (stepW ws i) p).2 ∧ (l.foldl (stepW ws i) p).2 ≤ p.2 * B ^ l.length
  | [], _, p, h1, h2 => ⟨h1, h2, by simp⟩
  | z :: r, h, p, h1, h2 => by
    have hz := h z List.mem_cons_self
    obtain ⟨s1, s2⟩ := step_ok (i := i) g hz.1 hz.2 h1 h2
    have ih := room_ok g hi hB r (fun y hy => h y (List.mem_cons_of_mem _ hy)) (stepW ws i p z) s1 s2
    rw [List.foldl_cons]
    refine ⟨ih.1, ih.2.1, Int.le_trans ih.2.2 ?_⟩
    have hw := wAt_ok g hz.2
    have e : (stepW ws i p z).2 ≤ p.2 * B := by
      unfold stepW
      split
      · have : p.2 * 1 ≤ p.2 * B := Int.mul_le_mul_of_nonneg_left hB (by omega)
        omega
      · exact Int.mul_le_mul_of_nonneg_left hw.2.2 (by omega)
    have pp : (0 : Int) ≤ B ^ r.length := Int.pow_nonneg (by omega)
    have := Int.mul_le_mul_of_nonneg_right e pp
    rw [List.length_cons, Int.pow_succ, Int.mul_comm (B ^ r.length) B, ← Int.mul_assoc]
    exact this
theorem log_big {x : Int} (h0 : 1 ≤ x) (h : x < 2 ^ 250) : x.natAbs.log2 < 9000 := by
  have hz : x.natAbs ≠ 0 := by omega
  have h2 : x.natAbs < 2 ^ 250 := by
    have e : ((x.natAbs : Nat) : Int) = x := by omega
    have : ((x.natAbs : Nat) : Int) < ((2 ^ 250 : Nat) : Int) := by rw [e]; exact_mod_cast h
    exact_mod_cast this
  have := (Nat.log2_lt hz).mpr h2
  omega
theorem room_log {ws : List Fc} {i : Nat} {l : List Int} (g : GoodW 20000 ws) (hi : i < ws.length) (hl : l.length ≤ 8) (h : ∀ z ∈ l, 0 ≤ z ∧ z.toNat < ws.length) : 1 ≤ (roomF ws i l).1 ∧ 1 ≤ (roomF ws i l).2 ∧ (roomF ws i l).2.natAbs.log2 < 9000 := by
  have hw := wAt_ok g hi
  obtain ⟨a, b, c⟩ := room_ok g hi (by decide) l h (wAt ws i) (by omega) (by omega)
  refine ⟨a, b, log_big b (Int.lt_of_le_of_lt c ?_)⟩
  have p1 : (20000 : Int) ^ l.length ≤ 20000 ^ 8 := by
    have := Nat.pow_le_pow_right (show 0 < 20000 by decide) hl
    exact_mod_cast this
  have p2 : (wAt ws i).2 * (20000 : Int) ^ l.length ≤ 20000 * 20000 ^ 8 := Int.mul_le_mul hw.2.2 p1 (Int.pow_nonneg (by decide)) (by decide)
  refine Int.lt_of_le_of_lt p2 ?_
  have : (20000 * 20000 ^ 8 : Nat) < 2 ^ 250 := by
    refine Nat.lt_of_lt_of_le (show (20000 * 20000 ^ 8 : Nat) < 2 ^ 200 by decide) (Nat.pow_le_pow_right (by decide) (by decide))
  exact_mod_cast this
/-! ### what is shown -/
def everyI (wd : WD) (hues : Int) : Int := hues ^ wd.1.length
def okW (wds : List WD) (hues : Int) (ws : List Fc) (i : Nat) : Bool := match wds[i]? with
  | some wd => decide ((wd.2.length : Int) * (roomF ws i (clsL wds wd wds.length)).2 ≤ (roomF ws i (clsL wds wd wds.length)).1 * everyI wd hues)
  | none => true
def shownB (wds : List WD) (hues : Int) (ws : List Fc) : Bool := (List.range wds.length).all (okW wds hues ws)
theorem okW_of {wds : List WD} {hues : Int} {ws : List Fc} {i : Nat} {wd : WD} (h : wds[i]? = some wd) : okW wds hues ws i = decide ((wd.2.length : Int) * (roomF ws i (clsL wds wd wds.length)).2 ≤ (roomF ws i (clsL wds wd wds.length)).1 * everyI wd hues) := by
  unfold okW
  rw [h]
theorem shown_yes {wds : List WD} {hues : Int} {ws : List Fc} (h : ∀ i, i < wds.length → okW wds hues ws i = true) : shownB wds hues ws = true := by
  unfold shownB
  rw [List.all_eq_true]
  exact fun i hi => h i (List.mem_range.mp hi)
theorem shown_no {wds : List WD} {hues : Int} {ws : List Fc} {i : Nat} (hi : i < wds.length) (h : okW wds hues ws i = false) : shownB wds hues ws = false := by
  unfold shownB
  rw [List.all_eq_false]
  exact ⟨i, List.mem_range.mpr hi, by rw [h]; decide⟩
theorem every_pos {wd : WD} {hues : Int} (h : 2 ≤ hues) : 1 ≤ everyI wd hues := by
  unfold everyI
  have : 0 < hues ^ wd.1.length := Int.pow_pos (by omega)
  omega
theorem every_le {wd : WD} {hues : Int} (h2 : 2 ≤ hues) (h4 : hues ≤ 4) (l3 : wd.1.length ≤ 3) : everyI wd hues ≤ 64 := by
  unfold everyI
  obtain ⟨n, rfl⟩ : ∃ n : Nat, hues = n := ⟨hues.toNat, by omega⟩
  have : n ^ wd.1.length ≤ 64 := Nat.le_trans (Nat.pow_le_pow_left (show n ≤ 4 by omega) _) (Nat.le_trans (Nat.pow_le_pow_right (by decide) l3) (by decide))
  exact_mod_cast this
end Rd

set_option Elab.async false
set_option linter.all false
set_option maxRecDepth 100000
set_option maxHeartbeats 4000000
/-! where a mending may lead, and how likely -/
namespace Rd
open PySem PySem.Spec PyProof.Rows L2 Dt
theorem fill_allC {hues : Nat} : ∀ (n : Nat) (f : List Int), f.length = n → (∀ h ∈ f, 0 ≤ h ∧ h < (hues : Int)) → f ∈ fillL hues n
  | 0, f, hl, _ => by
    rw [List.length_eq_zero_iff.mp hl]
    exact List.mem_singleton.mpr rfl
  | n + 1, f, hl, h => by
    have ne : f ≠ [] := fun z => by rw [z] at hl; cases hl
    have e := List.dropLast_concat_getLast ne
    refine List.mem_flatMap.mpr ⟨f.dropLast, fill_allC n _ (by rw [List.length_dropLast]; omega) fun z hz => h z (by have y : z ∈ f.dropLast ++ [f.getLast ne] := List.mem_append_left _ hz; rw [e] at y; exact y), ?_⟩
    have hb := h _ (List.getLast_mem ne)
    refine List.mem_map.mpr ⟨(f.getLast ne).toNat, List.mem_range.mpr (by omega), ?_⟩
    have e2 : (((f.getLast ne).toNat : Nat) : Int) = f.getLast ne := by omega
    rw [e2]
    exact e
/-- the filling with a row's hues at these places -/
def anewL (f ps r : List Int) : List Int := (ps.zip r).foldl (fun g x => g.set x.1.toNat x.2) f
theorem anewL_len (f ps r : List Int) : (anewL f ps r).length = f.length := by
  unfold anewL
  generalize ps.zip r = zs
  induction zs generalizing f with
  | nil => rfl
  | cons z zs ih => rw [List.foldl_cons, ih, List.length_set]
theorem anewL_mem {P : Int → Prop} {f : List Int} (hf : ∀ h ∈ f, P h) {ps r : List Int} (hr : ∀ h ∈ r, P h) : ∀ h ∈ anewL f ps r, P h := by
  unfold anewL
  have hz : ∀ z ∈ ps.zip r, P z.2 := fun z hz => hr _ (List.of_mem_zip hz).2
  generalize ps.zip r = zs at hz
  induction zs generalizing f with
  | nil => exact hf
  | cons z zs ih =>
    rw [List.foldl_cons]
    refine ih (fun h hh => ?_) fun y hy => hz y (List.mem_cons_of_mem _ hy)
    rcases List.mem_or_eq_of_mem_set hh with e | e
    · exact hf h e
    · rw [e]; exact hz z List.mem_cons_self
/-- the places of the wish of a number -/
def plcs (wds : List WD) (k : Int) : List Int := (wds.getD k.toNat ([], [])).1
/-- where the mending of the first broken wish may lead; nowhere where none is broken -/
def mendsL (hues : Nat) (wds : List WD) (f : List Int) : List (List Int) := match broL f wds wds.length with
  | [] => []
  | k :: _ => (fillL hues (plcs wds k).length).map (anewL f (plcs wds k))
theorem mendsL_nil {hues : Nat} {wds : List WD} {f : List Int} (h : broL f wds wds.length = []) : mendsL hues wds f = [] := by
  unfold mendsL
  rw [h]
theorem mendsL_cons {hues : Nat} {wds : List WD} {f : List Int} {k : Int} {r : List Int} (h : broL f wds wds.length = k :: r) : mendsL hues wds f = (fillL hues (plcs wds k).length).map (anewL f (plcs wds k)) := by
  unfold mendsL
  rw [h]
/-- where it stands one mending later -/
def thL (hues : Nat) (wds : List WD) (f : List Int) : List (List Int) := if mendsL hues wds f = [] then [f] else mendsL hues wds f
structure WdsOk (many hues : Int) (wds : List WD) : Prop where
  good : GoodR many hues wds
  nd : ∀ wd ∈ wds, wd.1.Nodup
section
variable {many hues : Int} {wds : List WD}
theorem plcs_ok (g : WdsOk many hues wds) {f : List Int} {k : Int} {r : List Int} (h : broL f wds wds.length = k :: r) : ∃ wd, wds[k.toNat]? = some wd ∧ wd ∈ wds ∧ plcs wds k = wd.1 ∧ 0 ≤ k ∧ k < wds.length := by
  obtain ⟨k0, k1⟩ := broL_mem (show k ∈ broL f wds wds.length by rw [h]; exact List.mem_cons_self)
  have kl : k.toNat < wds.length := by omega
  refine ⟨wds[k.toNat], List.getElem?_eq_getElem kl, List.getElem_mem kl, ?_, k0, k1⟩
  unfold plcs
  rw [List.getD_eq_getElem?_getD, List.getElem?_eq_getElem kl]
  rfl
/-- at most as many places as there are -/
theorem nodup_le {l : List Int} {n : Int} (hn : 0 ≤ n) (nd : l.Nodup) (h : ∀ p ∈ l, 0 ≤ p ∧ p < n) : (l.length : Int) ≤ n := by
  have sub : l ⊆ (List.range n.toNat).map fun (k : Nat) => (k : Int) := fun p hp => by
    obtain ⟨a, b⟩ := h p hp
    exact List.mem_map.mpr ⟨p.toNat, List.mem_range.mpr (by omega), by omega⟩
  have z := List.Nodup.length_le_of_subset nd sub
  rw [List.length_map, List.length_range] at z
  omega
theorem mends_mem (g : WdsOk many hues wds) {f a : List Int} (hf : f ∈ fillL hues.toNat many.toNat) (ha : a ∈ mendsL hues.toNat wds f) : a ∈ fillL hues.toNat many.toNat := by
  obtain ⟨fl, fh⟩ := fill_good hf
  have h2 := g.good.h2
  cases hb : broL f wds wds.length with
  | nil => rw [mendsL_nil hb] at ha; exact nomatch ha
  | cons k r =>
    rw [mendsL_cons hb] at ha
    obtain ⟨row, hrow, rfl⟩ := List.mem_map.mp ha
    obtain ⟨_, rh⟩ := fill_good hrow
    exact fill_allC _ _ (by rw [anewL_len, fl]) (anewL_mem (P := fun h => 0 ≤ h ∧ h < (hues.toNat : Int)) fh rh)
theorem th_mem (g : WdsOk many hues wds) {f a : List Int} (hf : f ∈ fillL hues.toNat many.toNat) (ha : a ∈ thL hues.toNat wds f) : a ∈ fillL hues.toNat many.toNat := by
  unfold thL at ha
  split at ha
  · rw [List.mem_singleton.mp ha]; exact hf
  · exact mends_mem g hf ha
/-- how many ways there are: a power of the number of hues -/
theorem th_len (g : WdsOk many hues wds) {f : List Int} : ∃ s : Nat, s ≤ 3 ∧ s ≤ many.toNat ∧ (thL hues.toNat wds f).length = hues.toNat ^ s ∧ (s = 0 → thL hues.toNat wds f = [f]) := by
  unfold thL
  split
  · exact ⟨0, by omega, by omega, rfl, fun _ => rfl⟩
  · rename_i hm
    cases hb : broL f wds wds.length with
    | nil => exact (hm (mendsL_nil hb)).elim
    | cons k r =>
      obtain ⟨wd, _, hw, ep, _⟩ := plcs_ok g hb
      have gd := g.good.each wd hw
      have m1 := g.good.m1
      refine ⟨wd.1.length, gd.three, ?_, ?_, fun z => ?_⟩
      · have := nodup_le (n := many) (by omega) (g.nd wd hw) gd.pl
        omega
      · rw [mendsL_cons hb, List.length_map, fill_len, ep]
      · have := gd.one
        omega
end
/-- what comes to g from all that stands at es, where c tells what each of so many ways gets -/
def stpC (th : List Int → List (List Int)) (c : Nat → Int) (es : List (List Int × Int)) (g : List Int) : Int := (es.map fun e => e.2 * c (th e.1).length * ((th e.1).count g : Int)).sum
def valL (es : List (List Int × Int)) (g : List Int) : Int := ((es.find? fun e => decide (e.1 = g)).map (·.2)).getD 0
theorem valL_cons {e : List Int × Int} {es : List (List Int × Int)} {g : List Int} : valL (e :: es) g = if e.1 = g then e.2 else valL es g := by
  unfold valL
  rw [List.find?_cons]
  by_cases h : e.1 = g
  · rw [if_pos h, decide_eq_true h]; rfl
  · rw [if_neg h, decide_eq_false h]
theorem valL_not {es : List (List Int × Int)} {g : List Int} (h : g ∉ es.map (·.1)) : valL es g = 0 := by
  induction es with
  | nil => rfl
  | cons e es ih =>
    rw [List.map_cons, List.mem_cons, not_or] at h
    rw [valL_cons, if_neg (fun z => h.1 z.symm)]
    exact ih h.2
/-- a sum over what stands somewhere is a sum over all -/
theorem sum_all {φ : List Int → Int} : ∀ {es : List (List Int × Int)} {Fs : List (List Int)}, (es.map (·.1)).Nodup → Fs.Nodup → (∀ e ∈ es, e.1 ∈ Fs) → (es.map fun e => e.2 * φ e.1).sum = (Fs.map fun f => valL es f * φ f).sum
  | [], Fs, _, _, _ => by
    have : (Fs.map fun f => valL [] f * φ f) = Fs.map fun _ => (0 : Int) := List.map_congr_left fun f _ => by
      show 0 * φ f = 0
      rw [Int.zero_mul]
    rw [this]
    have z : ∀ l : List (List Int), (l.map fun _ => (0 : Int)).sum = 0 := fun l => by
      induction l with
      | nil => rfl
      | cons f r ih => rw [List.map_cons, List.sum_cons, ih]; rfl
    exact (z Fs).symm
  | e :: es, Fs, nd, nf, sub => by
    rw [List.map_cons, List.nodup_cons] at nd
    have ih := sum_all (φ := φ) (es := es) nd.2 nf fun x hx => sub x (List.mem_cons_of_mem _ hx)
    rw [List.map_cons, List.sum_cons, ih]
    have key : ∀ {l : List (List Int)}, l.Nodup → e.1 ∈ l → (l.map fun f => valL (e :: es) f * φ f).sum = e.2 * φ e.1 + (l.map fun f => valL es f * φ f).sum := by
      intro l nl hm
      induction l with
      | nil => exact nomatch hm
      | cons f r ihl =>
        rw [List.nodup_cons] at nl
        rw [List.map_cons, List.sum_cons, List.map_cons, List.sum_cons]
        by_cases h : e.1 = f
        · subst h
          have same : (r.map fun f => valL (e :: es) f * φ f) = r.map fun f => valL es f * φ f := List.map_congr_left fun g hg => by
            rw [valL_cons, if_neg (fun z : e.1 = g => nl.1 (by rw [z]; exact hg))]
          rw [same, valL_cons, if_pos rfl, valL_not nd.1]
          rw [Int.zero_mul]
          omega
        · rcases List.mem_cons.mp hm with z | z
          · exact (h z).elim
          · rw [ihl nl.2 z, valL_cons, if_neg h]
            omega
    exact (key nf (sub e List.mem_cons_self)).symm
theorem stpC_snoc {th : List Int → List (List Int)} {c : Nat → Int} {es : List (List Int × Int)} {e : List Int × Int} {g : List Int} : stpC th c (es ++ [e]) g = stpC th c es g + e.2 * c (th e.1).length * ((th e.1).count g : Int) := by
  unfold stpC
  rw [List.map_append, List.sum_append]
  simp
/-- the same by a list of values -/
theorem stpC_all {th : List Int → List (List Int)} {c : Nat → Int} {es : List (List Int × Int)} {Fs : List (List Int)} {g : List Int} (nd : (es.map (·.1)).Nodup) (nf : Fs.Nodup) (sub : ∀ e ∈ es, e.1 ∈ Fs) : stpC th c es g = (Fs.map fun f => valL es f * (c (th f).length * ((th f).count g : Int))).sum := by
  rw [← sum_all nd nf sub]
  unfold stpC
  congr 1
  exact List.map_congr_left fun e _ => Int.mul_assoc _ _ _
def withP (Fs : List (List Int)) (p : List Int → Int) : List (List Int × Int) := Fs.map fun f => (f, p f)
theorem stpC_with {th : List Int → List (List Int)} {c : Nat → Int} {Fs : List (List Int)} {p : List Int → Int} {g : List Int} : stpC th c (withP Fs p) g = (Fs.map fun f => p f * (c (th f).length * ((th f).count g : Int))).sum := by
  unfold stpC withP
  rw [List.map_map]
  congr 1
  exact List.map_congr_left fun f _ => Int.mul_assoc _ _ _
theorem sum_mul {α : Type} (φ : α → Int) (k : Int) : ∀ l : List α, (l.map φ).sum * k = (l.map fun x => φ x * k).sum
  | [] => Int.zero_mul _
  | x :: r => by rw [List.map_cons, List.sum_cons, Int.add_mul, sum_mul φ k r, List.map_cons, List.sum_cons]
/-- two ways to reckon one measure: finer by N, finer by F -/
theorem step_same {th : List Int → List (List Int)} {cN cF : Nat → Int} {N F A B : Int} {Fs : List (List Int)} {es : List (List Int × Int)} {p : List Int → Int} (nd : (es.map (·.1)).Nodup) (nf : Fs.Nodup) (sub : ∀ e ∈ es, e.1 ∈ Fs) (h : ∀ f ∈ Fs, p f * A = valL es f * B) (hc : ∀ f ∈ Fs, cN (th f).length * F = cF (th f).length * N) (g : List Int) :
    stpC th cN (withP Fs p) g * (A * F) = stpC th cF es g * (B * N) := by
  rw [stpC_with, stpC_all nd nf sub, sum_mul, sum_mul]
  congr 1
  refine List.map_congr_left fun f hf => ?_
  have h1 := h f hf
  have h2 := hc f hf
  generalize ((th f).count g : Int) = z
  generalize valL es f = v at h1
  generalize cF (th f).length = x at h2
  generalize cN (th f).length = y at h2
  calc p f * (y * z) * (A * F) = (p f * A) * (y * F) * z := by simp only [Int.mul_assoc, Int.mul_comm, Int.mul_left_comm]
    _ = (v * B) * (x * N) * z := by rw [h1, h2]
    _ = v * (x * z) * (B * N) := by simp only [Int.mul_assoc, Int.mul_comm, Int.mul_left_comm]
/-- what the program has behind k mendings -/
def pN (hues : Nat) (n : Nat) (wds : List WD) : Nat → List Int → Int
  | 0, _ => 1
  | k + 1, g => stpC (thL hues wds) (fun l => ((fillL hues n).length : Int) / (l : Int)) (withP (fillL hues n) (pN hues n wds k)) g
end Rd

set_option Elab.async false
set_option linter.all false
set_option maxRecDepth 100000
set_option maxHeartbeats 4000000
/-! a dict walked, told for the first time or held already; dicts by tuples put -/
namespace Rd
open PySem PySem.Spec PyProof.Rows L2 Dt
def tFrzE (te : TE) : TE := fun σ H Q => te σ H fun v H1 => ∃ (d : Addr) (u : HO), v = .ref d ∧ H1 d = some u ∧ ((Mut (some u) ∧ ∀ od, Q v (upd H1 d (.frz od u))) ∨ Q v H1)
theorem pe_frzE {X : Cx} {e : Expr} {te : TE} (he : PE X e te) : PE X e (tFrzE te) := by
  refine ⟨fun pins s σ H Q I h => ?_⟩
  refine thn (he.run pins s σ H _ I h) fun v s1 ⟨x, H1, I1, r1, d, u, ex, hd, q⟩ => ?_
  rcases q with ⟨mu, q⟩ | q
  · obtain ⟨od, I2⟩ := I1.lock hd mu
    exact ⟨x, _, I2, r1, q od⟩
  · exact ⟨x, _, I1, r1, q⟩
theorem pi_keysE {X : Cx} {tg e : Expr} {td : TE} (he : PE X e td) : PI X tg e (iKeys (tFrzE td)) := pi_keys (pe_frzE he)
theorem hu8_of {k : Nat} {A : Around} (r : Room k A) : A.units + 8 < cLine := by have := r.un; omega
theorem mergeT_new : ∀ {more kvs : List (List Key × V)}, ((kvs ++ more).map (·.1)).Nodup → mergeT kvs more = kvs ++ more
  | [], kvs, _ => by rw [List.append_nil]; rfl
  | kv :: r, kvs, h => by
    have h1 : valV kvs kv.1 = none := by
      cases e : valV kvs kv.1 with
      | none => rfl
      | some v =>
        have m := valV_in e
        rw [List.map_append, List.map_cons] at h
        exact ((List.nodup_append.mp h).2.2 _ m _ List.mem_cons_self rfl).elim
    show mergeT (putK kvs kv.1 kv.2) r = kvs ++ kv :: r
    rw [putK_new _ h1]
    have e : kvs ++ [(kv.1, kv.2)] ++ r = kvs ++ kv :: r := by rw [List.append_assoc]; rfl
    rw [mergeT_new (by rw [e]; exact h), e]
/-- one put into a list of values by fillings -/
def putE (es : List (List Int × Int)) (a : List Int) (x : Int) : List (List Int × Int) := if es.any (fun e => decide (e.1 = a)) = true then es.map (fun e => if e.1 = a then (e.1, x) else e) else es ++ [(a, x)]
theorem valL_put {es : List (List Int × Int)} {a g : List Int} {x : Int} : valL (putE es a x) g = if g = a then x else valL es g := by
  unfold putE
  by_cases c : es.any (fun e => decide (e.1 = a)) = true
  · rw [if_pos c]
    by_cases h : g = a
    · subst h
      rw [if_pos rfl]
      induction es with
      | nil => cases c
      | cons e r ih =>
        rw [List.map_cons]
        by_cases z : e.1 = g
        · rw [if_pos z, valL_cons, if_pos z]
        · rw [if_neg z, valL_cons, if_neg z]
          refine ih ?_
          rw [List.any_cons, decide_eq_false z, Bool.false_or] at c
          exact c
    · rw [if_neg h]
      clear c
      induction es with
      | nil => rfl
      | cons e r ih =>
        rw [List.map_cons]
        by_cases z : e.1 = a
        · rw [if_pos z, valL_cons, valL_cons, ih]
          have : ¬ e.1 = g := fun q => h (q.symm.trans z)
          rw [if_neg this, if_neg this]
        · rw [if_neg z, valL_cons, valL_cons, ih]
  · rw [if_neg c]
    have n : a ∉ es.map (·.1) := fun m => by
      obtain ⟨e, he, ea⟩ := List.mem_map.mp m
      exact c (List.any_eq_true.mpr ⟨e, he, decide_eq_true ea⟩)
    clear c
    induction es with
    | nil =>
      show valL [(a, x)] g = _
      rw [valL_cons]
      by_cases h : g = a
      · rw [if_pos h.symm, if_pos h]
      · rw [if_neg (fun z => h z.symm), if_neg h]
    | cons e r ih =>
      rw [List.map_cons, List.mem_cons, not_or] at n
      rw [List.cons_append, valL_cons, valL_cons, ih n.2]
      by_cases z : e.1 = g
      · rw [if_pos z, if_pos z, if_neg (fun q => n.1 (by rw [z, q]))]
      · rw [if_neg z, if_neg z]
theorem putE_keys {es : List (List Int × Int)} {a : List Int} {x : Int} : (putE es a x).map (·.1) = if a ∈ es.map (·.1) then es.map (·.1) else es.map (·.1) ++ [a] := by
  unfold putE
  have c : es.any (fun e => decide (e.1 = a)) = true ↔ a ∈ es.map (·.1) := by
    rw [List.any_eq_true, List.mem_map]
    exact ⟨fun ⟨e, he, q⟩ => ⟨e, he, of_decide_eq_true q⟩, fun ⟨e, he, q⟩ => ⟨e, he, decide_eq_true q⟩⟩
  by_cases m : a ∈ es.map (·.1)
  · rw [if_pos (c.mpr m), if_pos m, List.map_map]
    refine List.map_congr_left fun e _ => ?_
    show (if e.1 = a then (e.1, x) else e).1 = e.1
    split <;> rfl
  · rw [if_neg (fun z => m (c.mp z)), if_neg m, List.map_append]
    rfl
theorem putE_nodup {es : List (List Int × Int)} {a : List Int} {x : Int} (nd : (es.map (·.1)).Nodup) : ((putE es a x).map (·.1)).Nodup := by
  rw [putE_keys]
  split
  · exact nd
  · rename_i h
    refine List.nodup_append.mpr ⟨nd, List.nodup_cons.mpr ⟨List.not_mem_nil, List.nodup_nil⟩, fun b hb c hc => ?_⟩
    rw [List.mem_singleton.mp hc]
    exact fun z => h (z ▸ hb)
theorem putE_sub {es : List (List Int × Int)} {a : List Int} {x : Int} {Fs : List (List Int)} (h : ∀ e ∈ es, e.1 ∈ Fs) (ha : a ∈ Fs) : ∀ e ∈ putE es a x, e.1 ∈ Fs := by
  have k : ∀ g ∈ (putE es a x).map (·.1), g ∈ Fs := fun g hg => by
    rw [putE_keys] at hg
    split at hg
    · obtain ⟨e, he, rfl⟩ := List.mem_map.mp hg
      exact h e he
    · rcases List.mem_append.mp hg with z | z
      · obtain ⟨e, he, rfl⟩ := List.mem_map.mp z
        exact h e he
      · rw [List.mem_singleton.mp z]; exact ha
  exact fun e he => k _ (List.mem_map.mpr ⟨e, he, rfl⟩)
/-- at most as many as there are fillings -/
theorem keys_le {es : List (List Int × Int)} {Fs : List (List Int)} (nd : (es.map (·.1)).Nodup) (h : ∀ e ∈ es, e.1 ∈ Fs) : es.length ≤ Fs.length := by
  have z := List.Nodup.length_le_of_subset nd (l₂ := Fs) fun g hg => by
    obtain ⟨e, he, rfl⟩ := List.mem_map.mp hg
    exact h e he
  rwa [List.length_map] at z
end Rd

set_option Elab.async false
set_option linter.all false
set_option maxRecDepth 100000
set_option maxHeartbeats 4000000
/-! one refusal's class; a def that may let it out -/
namespace Rd
open PySem PySem.Spec PyProof.Rows L2 Dt
structure Cls1 (K : PySem.W.Frag) (D : Addr) : Prop where
  x : PySem.W.excIn K D [.type "ValueError", .type "Exception", .type "BaseException", .type "object"] "ValueError.__new__" = true
  k : PySem.W.keepIn K (.ref D) = true
  b : PySem.W.subIn K (.ref D) (.type "BaseException") = some true
  t : PySem.W.typeIn K (.ref D) = some (.type "type")
  e : PySem.W.exmOne K (.ref D) (.ref D) = some true
def okC1 (K : PySem.W.Frag) (D : Addr) : Bool :=
  PySem.W.excIn K D [.type "ValueError", .type "Exception", .type "BaseException", .type "object"] "ValueError.__new__" && PySem.W.keepIn K (.ref D) &&
  (PySem.W.subIn K (.ref D) (.type "BaseException") == some true) && (PySem.W.typeIn K (.ref D) == some (.type "type")) && (PySem.W.exmOne K (.ref D) (.ref D) == some true)
theorem cls1_of {K : PySem.W.Frag} {D : Addr} (h : okC1 K D = true) : Cls1 K D := by
  unfold okC1 at h
  simp only [Bool.and_eq_true, beq_iff_eq] at h
  obtain ⟨⟨⟨⟨h1, h2⟩, h3⟩, h4⟩, h5⟩ := h
  exact ⟨h1, h2, h3, h4, h5⟩
theorem FunC.okX {P : Program} {w : World} {K : PySem.W.Frag} {mg : Str → Option Value} {base : Heap} {x qual : Str} {st : Stmt} {f : Addr} {fd : FuncData} {cdv : Value} {N ps : List Str} {k : Nat} {sp : Sp} (F : FunC K x qual st f fd cdv) (S : FnScope N ps (defScope st)) (len : ∀ vs H Q E, sp vs H Q E → vs.length = ps.length)
    (body : ∀ (A : Around) (outer : List Env) (s : Shared) (H : Hp) (vs : List V) (Q : VK) (E : XK), Room k (A.deeper (envOfC qual (defScope st) s.heap.objs.size f cdv)) → sp vs H Q E →
      ∃ t, PSs (cxOf (L2.CX P w) P w K mg base N qual (defScope st) f cdv A outer s H E) (defBody st) t ∧ t { nx := fun _ H' => Q .non H', rt := Q } (start N vs) H) : FnOk P w K mg base (L2.CX P w) (k + 1) f fd ps sp := by
  obtain ⟨oc, od, kV, doc, pm, an, ct, osl, rfl, lk, hcd⟩ := F.ex
  exact fn_of lk hcd S len fun A outer s H vs Q E hr hsp => body A outer s H vs Q E hr hsp
end Rd

set_option Elab.async false
set_option linter.all false
set_option maxRecDepth 100000
set_option maxHeartbeats 4000000
/-! xs != [] of any list -/
namespace Rd
open PySem PySem.Spec PyProof.Rows L2 Dt
def rNeE (K : PySem.W.Frag) : R2 := fun x y H Q => ∃ (a b : Addr) (xs : List V), x = .ref a ∧ y = .ref b ∧ SqL K H a xs ∧ SqL K H b [] ∧ Q (.bl (!xs.isEmpty)) H
theorem op_neE {X : Cx} (hu : X.A.units + 64 < cLine) : OpR X (compareOp .NotEq) (rNeE X.K) := by
  intro pins s σ H x y v u Q I rx ry h
  obtain ⟨a, b, xs, rfl, rfl, ha, hb, q⟩ := h
  cases rx
  cases ry
  obtain ⟨its, rv, hl, _⟩ := I.list ha
  obtain ⟨its2, rv2, hl2, _⟩ := I.list hb
  have l1 := rv.length
  have l2 := rv2.length
  cases xs with
  | nil =>
    have z1 : its = [] := List.length_eq_zero_iff.mp l1.symm
    have z2 : its2 = [] := List.length_eq_zero_iff.mp l2.symm
    subst z1 z2
    refine PySem.SeqAt.RcNeAt.lists (e := fun _ => true) hl.isList hl2.isList rfl (by omega) (fun j j1 => absurd j1 (Nat.not_lt_zero j)) _ _ _ _ ⟨.bl _, H, I, rfl, q⟩
  | cons z r =>
    refine PySem.SeqAt.RcNeAt.lists_lengths hl.isList hl2.isList ?_ (by omega) _ _ _ _ ⟨.bl _, H, I, rfl, q⟩
    rw [List.size_toArray, List.size_toArray, ← l1, ← l2]
    rfl
end Rd

set_option Elab.async false
set_option linter.all false
set_option maxRecDepth 100000
set_option maxHeartbeats 4000000
namespace Rd
open PySem PySem.Spec PyProof.Rows L2 Dt
/-- a list comprehension over anything of n turns -/
theorem lc_walk {J : It} {n : Nat} {g : TG} {tt : TT} {te : TE} {vs : List Nat} {σ : L2.St} {H1 : Hp} {D : Addr} {Qd : Hp → Prop} (Pv : Nat → Hp → Prop) (h0 : Pv 0 (upd H1 D (.lst []))) (hgo : ∀ i H, i < n → Pv i H → J.go i H) (hst : ∀ H, Pv n H → J.stop n H)
    (hs : ∀ i x H H', i < n → Pv i H → J.yld i H x H' → g x (wipe σ vs) H' fun σ2 H2 => wipe σ2 vs = wipe σ vs ∧ tt σ2 H2 fun b H3 =>
      if b = true then te σ2 H3 fun y H4 => ∃ acc, H4 D = some (.lst acc) ∧ acc.length < sizeLine ∧ Pv (i + 1) (upd H4 D (.lst (acc ++ [y]))) else Pv (i + 1) H3) (hd : ∀ H, Pv n H → Qd H) :
    ∃ W : Nat → Nat → Hp → Prop, (∃ m, W 0 m (upd H1 D (.lst []))) ∧ ∀ i m H, W i m H →
      (J.stop i H ∧ Qd H) ∨ (J.go i H ∧ ∃ Nx : Hp → Prop, (∀ H', Nx H' → ∃ m', m' < m ∧ W (i + 1) m' H') ∧ ∀ x H', J.yld i H x H' → g x (wipe σ vs) H' fun σ2 H2 => wipe σ2 vs = wipe σ vs ∧ tt σ2 H2 fun b H3 =>
        if b = true then te σ2 H3 fun y H4 => ∃ acc, H4 D = some (.lst acc) ∧ acc.length < sizeLine ∧ Nx (upd H4 D (.lst (acc ++ [y]))) else Nx H3) := by
  refine ⟨fun i m H => m = n - i ∧ i ≤ n ∧ Pv i H, ⟨n, by simp, Nat.zero_le _, h0⟩, ?_⟩
  rintro i m H ⟨rfl, hi, p⟩
  by_cases hlt : i < n
  · exact .inr ⟨hgo i H hlt p, Pv (i + 1), fun H' p' => ⟨n - (i + 1), by omega, rfl, hlt, p'⟩, fun x H' y => hs i x H H' hlt p y⟩
  · have e : i = n := by omega
    subst e
    exact .inl ⟨hst H p, hd H p⟩
end Rd

set_option Elab.async false
set_option linter.all false
set_option maxRecDepth 100000
set_option maxHeartbeats 4000000
/-! a tuple times an int from 1 on -/
namespace L2
open PySem PySem.Spec PyProof.Rows
theorem tuple_mul1 (l : Addr) (items : Array Value) (n : Nat) (sl : Array (Option Value)) (dd : Option Addr) (u : Tok) :
    Meets (Builtin.«tuple.__mul__» ⟨[.ref l, .int 1 u], []⟩) (fun _ R s => s.heap.get? l = some { cls := .type "tuple", dict := dd, data := .seq items n, slots := sl } ∧ R (.ok (.ret (Value.ref l))) s) :=
  .of_wp fun prog w A R s h => by
    obtain ⟨hp, g, d, tk, os⟩ := s
    obtain ⟨hl, h⟩ := h
    have f1 := AutoSeq1.idx_int
    have c1 : (items.isEmpty || (1 : Int) == 1) = true := by simp
    wp_walk using wpAny_loadPart' hl
    repeat (first
      | (refine wpAny_ite_false (decide_eq_false (by decide)) ?_; wp_walk using wpAny_loadPart' hl)
      | (refine wpAny_ite_true (decide_eq_true (by rw [c1])) ?_; wp_walk using wpAny_loadPart' hl))
    exact ⟨_, rfl, h⟩
def rRep1 (K : PySem.W.Frag) : R2 := fun x y H Q => ∃ l xs, x = .ref l ∧ y = .int 1 ∧ SqT K H l xs ∧ Q (.ref l) H
theorem op_rep1 {X : Cx} : OpR X (binaryOp .Mult) (rRep1 X.K) := by
  intro pins s σ H x y v u Q I rx ry h
  obtain ⟨l, xs, rfl, rfl, hT, q⟩ := h
  cases rx
  obtain ⟨t, rfl⟩ := ry
  obtain ⟨its, r, ⟨⟨cls, dd, data, sl⟩, ho, hc, n, hd⟩, hs⟩ := I.tuple hT
  simp only at hc hd
  subst hc hd
  refine wpAny_binaryOp_repeat_ref (T := "tuple") (U := "int") (by decide) ⟨_, ho, rfl⟩ (fun s' => typeIs_int s' 1 t) noFill_tuple_mul F.fills_int_mul F.slot_int_rmul repeat_tuple F.slot_int_index.lookup
    (call_meets F.slot_int_rmul (typeIs_int s 1 t) F.entry_int_rmul (F.args_int_rmul_2 _ _) (int_rmul_tuple 1 t l its.toArray n dd sl)
      ⟨ho, rfl, ⟨_, ho, rfl⟩, call_meets F.slot_tuple_mul ⟨_, ho, rfl⟩ F.entry_tuple_mul (F.args_tuple_mul_2 _ _) (tuple_mul1 l its.toArray n sl dd t) ⟨ho, ?_⟩⟩)
  exact ⟨.ref l, H, I, rfl, q⟩
def rRepU (K : PySem.W.Frag) : R2 := fun x y H Q => rRepT K x y H Q ∨ rRep1 K x y H Q
theorem op_repU {X : Cx} : OpR X (binaryOp .Mult) (rRepU X.K) := OpR.or op_repT op_rep1
end L2

set_option Elab.async false
set_option linter.all false
set_option maxRecDepth 100000
set_option maxHeartbeats 4000000
/-! what an expression comes to, while the tape is drawn from -/
namespace Rd
open PySem PySem.Spec PyProof.Rows L2 Dt
def Tr (tp : Addr) (te : TE) (σ : L2.St) (H : Hp) (Φ : V → Hp → Prop) : Prop := ∀ Q : VK, (∀ v H', Taped tp H H' → Φ v H' → Q v H') → te σ H Q
def TrO (tp : Addr) (t : TO) (σ : L2.St) (H : Hp) : Prop := ∀ Q : Option Int → Hp → Prop, (∀ o H', Taped tp H H' → Q o H') → t σ H Q
/-- what stays while the tape is drawn from -/
def Stays (tp : Addr) (Φ : V → Hp → Prop) : Prop := ∀ v H H', Tape H tp → Taped tp H H' → Φ v H → Φ v H'
theorem tr_var {tp : Addr} {i : Nat} {σ : L2.St} {H : Hp} {Φ : V → Hp → Prop} {v : V} (t : Tape H tp) (h : σ[i]? = some (some v)) (p : Φ v H) : Tr tp (tVar i) σ H Φ := fun Q k => ⟨v, h, k v H (Taped.refl t) p⟩
theorem tr_c {tp : Addr} {v : V} {σ : L2.St} {H : Hp} {Φ : V → Hp → Prop} (t : Tape H tp) (p : Φ v H) : Tr tp (tC v) σ H Φ := fun Q k => k v H (Taped.refl t) p
theorem tr_mono {tp : Addr} {te : TE} {σ : L2.St} {H : Hp} {Φ Ψ : V → Hp → Prop} (h : Tr tp te σ H Φ) (k : ∀ v H', Taped tp H H' → Φ v H' → Ψ v H') : Tr tp te σ H Ψ := fun Q q => h Q fun v H' d p => q v H' d (k v H' d p)
theorem seq_tr {tp : Addr} {te : TE} {i : Nat} {u : TS} {D : Ends} {σ : L2.St} {H : Hp} {Φ : V → Hp → Prop} (h : Tr tp te σ H Φ) (k : ∀ v H', Taped tp H H' → Φ v H' → u D (σ.set i (some v)) H') : tSeq (tAsg te (gName i)) u D σ H := h _ k
theorem seq_trg {tp : Addr} {te : TE} {g : TG} {u : TS} {D : Ends} {σ : L2.St} {H : Hp} {Φ : V → Hp → Prop} (h : Tr tp te σ H Φ) (k : ∀ v H', Taped tp H H' → Φ v H' → g v σ H' (u D)) : tSeq (tAsg te g) u D σ H := h _ k
theorem ret_tr {tp : Addr} {te : TE} {D : Ends} {σ : L2.St} {H : Hp} {Φ : V → Hp → Prop} (h : Tr tp te σ H Φ) (k : ∀ v H', Taped tp H H' → Φ v H' → D.rt v H') : tRet te D σ H := h _ k
/-! ### ints -/
def isI : V → Hp → Prop := fun v _ => ∃ i, v = .int i
theorem tr_add {tp : Addr} {ta tb : TE} {σ : L2.St} {H : Hp} (a : Tr tp ta σ H isI) (b : ∀ H1, Taped tp H H1 → Tr tp tb σ H1 isI) : Tr tp (tOp (rI0 fun i j => .int (i + j)) ta tb) σ H isI := fun Q k => a _ fun x H1 d1 ⟨i, e1⟩ => b H1 d1 _ fun y H2 d2 ⟨j, e2⟩ => ⟨i, j, e1, e2, k _ _ (d1.trans d2) ⟨_, rfl⟩⟩
theorem tro_none {tp : Addr} {σ : L2.St} {H : Hp} (t : Tape H tp) : TrO tp tNoPart σ H := fun Q k => k none H (Taped.refl t)
theorem tro_some {tp : Addr} {te : TE} {σ : L2.St} {H : Hp} (a : Tr tp te σ H isI) : TrO tp (tPart te) σ H := fun Q k => a _ fun x H1 d ⟨i, e⟩ => ⟨i, e, k _ _ d⟩
theorem tr_dig {tp : Addr} {ta tb : TE} {sp : Sp} {σ : L2.St} {H : Hp} {lo hi : Int} (hsp : ∀ (Hx : Hp) (Q : VK) (E : XK) (m : Int), Tape Hx tp → lo ≤ m → m ≤ hi → (∀ H' d, Taped tp Hx H' → 0 ≤ d → d < m → Q (.int d) H') → sp [.ref tp, .int m] Hx Q E)
    (a : Tr tp ta σ H fun v _ => v = .ref tp) (b : ∀ H1, Taped tp H H1 → Tr tp tb σ H1 fun v _ => ∃ m, v = .int m ∧ lo ≤ m ∧ m ≤ hi) : Tr tp (tCall sp [] E0 (tCons ta (tCons tb tNil))) σ H fun v _ => ∃ d, v = .int d ∧ 0 ≤ d ∧ d < hi := fun Q k => a _ fun x H1 d1 e1 => b H1 d1 _ fun y H2 d2 ⟨m, e2, l1, l2⟩ => by
  subst e1
  subst e2
  exact hsp H2 _ _ m d2.2 l1 l2 fun H' d d3 d0 dm => k _ _ ((d1.trans d2).trans d3) ⟨d, rfl, d0, by omega⟩
/-! ### lists of pairs -/
structure EntW (x : Int × List Int) : Prop where
  num : x.1.natAbs < 10 ^ 31
  few : x.2.length ≤ 10
  hue : ∀ z ∈ x.2, -10 < z ∧ z < 10
def WEnt (H : Hp) (e : Addr) : Prop := ∃ x, IsEnt H e x ∧ EntW x
theorem WEnt.mono {H H' : Hp} {e : Addr} (h : WEnt H e) (t : Tups H H') : WEnt H' e := let ⟨x, a, b⟩ := h; ⟨x, a.mono t, b⟩
/-- a list of pairs, not the tape -/
def EntL (tp : Addr) (n : Nat) : V → Hp → Prop := fun v H => ∃ (l : Addr) (es : List Addr), v = .ref l ∧ l ≠ tp ∧ H l = some (.lst (es.map V.ref)) ∧ es.length ≤ n ∧ ∀ e ∈ es, WEnt H e
theorem entL_stays (tp : Addr) (n : Nat) : Stays tp (EntL tp n) := fun v H H' t f ⟨l, es, h1, h2, h3, h4, h5⟩ => ⟨l, es, h1, h2, f.1 _ _ h2 h3, h4, fun e he => (h5 e he).mono (f.tups t)⟩
theorem EntL.up {tp : Addr} {n m : Nat} {v : V} {H : Hp} (h : EntL tp n v H) (k : n ≤ m) : EntL tp m v H := let ⟨l, es, h1, h2, h3, h4, h5⟩ := h; ⟨l, es, h1, h2, h3, Nat.le_trans h4 k, h5⟩
theorem cut_mem {α : Type} {f : α → V} {l : List α} {lo hi : Option Int} : ∃ l' : List α, cutV (l.map f) lo hi = l'.map f ∧ l'.length ≤ l.length ∧ ∀ x ∈ l', x ∈ l := by
  unfold cutV
  refine ⟨(l.drop (HT.sIx (l.map f).length 0 lo)).take (HT.sIx (l.map f).length (l.map f).length hi - HT.sIx (l.map f).length 0 lo), by rw [List.map_take, List.map_drop], ?_, fun x hx => List.mem_of_mem_drop (List.mem_of_mem_take hx)⟩
  rw [List.length_take, List.length_drop]
  omega
theorem tr_sl {K : PySem.W.Frag} {tp : Addr} {ta : TE} {tl th : TO} {σ : L2.St} {H : Hp} {n : Nat} (t : Tape H tp) (a : Tr tp ta σ H (EntL tp n)) (b : ∀ H1, Taped tp H H1 → TrO tp tl σ H1) (c : ∀ H1, Taped tp H H1 → TrO tp th σ H1) : Tr tp (tSl (rSlL K) ta tl th) σ H (EntL tp n) := fun Q k => a _ fun x H1 d1 p1 => b H1 d1 _ fun lo H2 d2 => c H2 (d1.trans d2) _ fun hi H3 d3 => by
  obtain ⟨l, es, rfl, h2, h3, h4, h5⟩ := entL_stays tp n x H1 H3 d1.2 (d2.trans d3) p1
  obtain ⟨es', e1, e2, e3⟩ := cut_mem (f := V.ref) (l := es) (lo := lo) (hi := hi)
  refine ⟨l, _, rfl, .inl (.inl h3), fun p np => ?_⟩
  rw [e1]
  have sp := same_upd (o := .lst (es'.map V.ref)) np
  exact k _ _ ((d1.trans (d2.trans d3)).same sp) ⟨p, es', rfl, d3.2.new np, upd_same, by omega, fun e he => (h5 e (e3 e he)).mono (tups_same sp)⟩
theorem tr_rev {K : PySem.W.Frag} {tp : Addr} {ta : TE} {σ : L2.St} {H : Hp} {n : Nat} (a : Tr tp ta σ H (EntL tp n)) : Tr tp (tRevL K ta) σ H (EntL tp n) := fun Q k => a _ fun x H1 d1 p1 => by
  obtain ⟨l, es, rfl, h2, h3, h4, h5⟩ := p1
  refine ⟨l, _, rfl, .inl (.inl h3), fun p np => ?_⟩
  rw [← List.map_reverse]
  have sp := same_upd (o := .lst (es.reverse.map V.ref)) np
  exact k _ _ (d1.same sp) ⟨p, es.reverse, rfl, d1.2.new np, upd_same, by rw [List.length_reverse]; exact h4, fun e he => (h5 e (List.mem_reverse.mp he)).mono (tups_same sp)⟩
theorem tr_cat {tp : Addr} {ta tb : TE} {σ : L2.St} {H : Hp} {n m : Nat} (hn : n + m ≤ 1000) (a : Tr tp ta σ H (EntL tp n)) (b : ∀ H1, Taped tp H H1 → Tr tp tb σ H1 (EntL tp m)) : Tr tp (tOp rCat ta tb) σ H (EntL tp (n + m)) := fun Q k => a _ fun x H1 d1 p1 => b H1 d1 _ fun y H2 d2 p2 => by
  obtain ⟨l, es, rfl, h2, h3, h4, h5⟩ := entL_stays tp n x H1 H2 d1.2 d2 p1
  obtain ⟨l', es', rfl, g2, g3, g4, g5⟩ := p2
  refine ⟨l, l', _, _, rfl, rfl, h3, g3, by rw [List.length_map, List.length_map]; exact Nat.le_of_lt (small1000 (by omega)), fun p np => ?_⟩
  rw [← List.map_append]
  have sp := same_upd (o := .lst ((es ++ es').map V.ref)) np
  refine k _ _ ((d1.trans d2).same sp) ⟨p, es ++ es', rfl, d2.2.new np, upd_same, by rw [List.length_append]; omega, fun e he => ?_⟩
  rcases List.mem_append.mp he with q | q
  · exact (h5 e q).mono (tups_same sp)
  · exact (g5 e q).mono (tups_same sp)
/-- a row that may stand in a pair -/
def RowW : V → Hp → Prop := fun v H => ∃ (r : Addr) (row : List Int), v = .ref r ∧ IsRow H r row ∧ row.length ≤ 10 ∧ ∀ z ∈ row, -10 < z ∧ z < 10
theorem rowW_stays (tp : Addr) : Stays tp RowW := fun v H H' t f ⟨r, row, h1, h2, h3⟩ => ⟨r, row, h1, f.tups t _ _ h2, h3⟩
def numW : V → Hp → Prop := fun v _ => ∃ i, v = .int i ∧ i.natAbs < 10 ^ 31
theorem tr_pair {tp : Addr} {ta tb : TE} {σ : L2.St} {H : Hp} (a : Tr tp ta σ H numW) (b : ∀ H1, Taped tp H H1 → Tr tp tb σ H1 RowW) : Tr tp (tTup (tCons ta (tCons tb tNil))) σ H fun v H' => ∃ e, v = .ref e ∧ WEnt H' e := fun Q k => a _ fun x H1 d1 ⟨i, e1, hi⟩ => b H1 d1 _ fun y H2 d2 ⟨r, row, e2, h2, h3, h4⟩ => by
  subst e1
  subst e2
  refine ⟨(by show 2 ≤ sizeLine; decide), fun t nt => ?_⟩
  have st := same_upd (o := .tup [.int i, .ref r]) nt
  exact k _ _ ((d1.trans d2).same st) ⟨t, rfl, (i, row), ⟨r, upd_same, st _ _ h2⟩, ⟨hi, h3, h4⟩⟩
theorem tr_one {tp : Addr} {ta : TE} {σ : L2.St} {H : Hp} (a : Tr tp ta σ H fun v H' => ∃ e, v = .ref e ∧ WEnt H' e) : Tr tp (tLst (tCons ta tNil)) σ H (EntL tp 1) := fun Q k => a _ fun x H1 d1 ⟨e, e1, w⟩ => by
  subst e1
  refine ⟨(by show 1 ≤ sizeLine; decide), fun l nl => ?_⟩
  have st := same_upd (o := .lst [.ref e]) nl
  refine k _ _ (d1.same st) ⟨l, [e], rfl, d1.2.new nl, upd_same, Nat.le_refl _, fun b hb => ?_⟩
  rw [List.mem_singleton.mp hb]
  exact w.mono (tups_same st)
/-! ### wide data -/
structure FineW (d : PyData) (n w : Nat) : Prop where
  lay : d.canLay0 = true
  dep : d.depth ≤ n
  wei : d.weight ≤ w
  sho : d.showable = true
  noD : d.hasDict = false
  sh : d.intsShort 40 = true
structure FineWA (ds : List PyData) (n w : Nat) : Prop where
  lay : PyData.canLayAll0 ds = true
  dep : PyData.depthAll ds ≤ n
  wei : PyData.weightAll ds ≤ w
  sho : PyData.showableAll ds = true
  noD : PyData.hasDictAll ds = false
  sh : PyData.intsShortAll 40 ds = true
theorem FineWA.nil (n : Nat) : FineWA [] n 0 := ⟨rfl, Nat.zero_le _, Nat.le_refl _, rfl, rfl, rfl⟩
theorem FineWA.cons {d : PyData} {ds : List PyData} {n w u : Nat} (h : FineW d n w) (t : FineWA ds n u) : FineWA (d :: ds) n (w + 1 + u) := by
  refine ⟨?_, ?_, ?_, ?_, ?_, ?_⟩
  · simp only [PyData.canLayAll0, h.lay, t.lay, Bool.and_self]
  · have a := h.dep
    have b := t.dep
    simp only [PyData.depthAll]
    omega
  · have a := h.wei
    have b := t.wei
    simp only [PyData.weightAll]
    omega
  · simp only [PyData.showableAll, h.sho, t.sho, Bool.and_self]
  · simp only [PyData.hasDictAll, h.noD, t.noD, Bool.or_self]
  · simp only [PyData.intsShortAll, h.sh, t.sh, Bool.and_self]
theorem FineW.tuple {ds : List PyData} {n w : Nat} (t : FineWA ds n w) : FineW (.tuple ds) (n + 1) w := by
  refine ⟨by simp only [PyData.canLay0]; exact t.lay, ?_, by simp only [PyData.weight]; exact t.wei, by simp only [PyData.showable]; exact t.sho, by simp only [PyData.hasDict]; exact t.noD, by simp only [PyData.intsShort]; exact t.sh⟩
  have a := t.dep
  simp only [PyData.depth]
  omega
theorem FineW.list {ds : List PyData} {n w : Nat} (t : FineWA ds n w) : FineW (.list ds) (n + 1) w := by
  refine ⟨by simp only [PyData.canLay0]; exact t.lay, ?_, by simp only [PyData.weight]; exact t.wei, by simp only [PyData.showable]; exact t.sho, by simp only [PyData.hasDict]; exact t.noD, by simp only [PyData.intsShort]; exact t.sh⟩
  have a := t.dep
  simp only [PyData.depth]
  omega
theorem FineW.mono {d : PyData} {n w n' w' : Nat} (h : FineW d n w) (a : n ≤ n') (b : w ≤ w') : FineW d n' w' := ⟨h.lay, Nat.le_trans h.dep a, Nat.le_trans h.wei b, h.sho, h.noD, h.sh⟩
theorem fineWA_map {α : Type} {f : α → PyData} {n w : Nat} : ∀ (l : List α), (∀ x ∈ l, FineW (f x) n w) → FineWA (l.map f) n (l.length * (w + 1))
  | [], _ => by
    have z := FineWA.nil n
    exact ⟨z.lay, z.dep, Nat.le_trans z.wei (Nat.zero_le _), z.sho, z.noD, z.sh⟩
  | x :: r, h => by
    have t := fineWA_map r fun y hy => h y (List.mem_cons_of_mem _ hy)
    have z := FineWA.cons (h x List.mem_cons_self) t
    refine ⟨z.lay, z.dep, ?_, z.sho, z.noD, z.sh⟩
    have := z.wei
    rw [List.length_cons, Nat.succ_mul]
    show PyData.weightAll (f x :: r.map f) ≤ _
    omega
theorem fineW_int {i : Int} (h : i.natAbs < 10 ^ 31) : FineW (.int i) 1 110 := by
  have hl : i.natAbs.log2 ≤ 102 := by
    by_cases e : i.natAbs = 0
    · rw [e]; decide
    · have := (Nat.log2_lt e).mpr (show i.natAbs < 2 ^ 103 from Nat.lt_trans h (by decide))
      omega
  refine ⟨rfl, by simp [PyData.depth], ?_, ?_, rfl, ?_⟩
  · simp only [PyData.weight]
    split <;> omega
  · simp only [PyData.showable]
    exact decide_eq_true (by omega)
  · have e := PySem.int_text_length_le10 (k := 31) (by decide) h
    show decide ((Str.ofString (toString i)).length ≤ 40) = true
    rw [PySem.ofString_length]
    exact decide_eq_true (by omega)
theorem fineW_small {i : Int} (h0 : -100 < i) (h1 : i < 100) : FineW (.int i) 1 110 := fineW_int (Nat.lt_trans (show i.natAbs < 100 by omega) (by decide))
theorem fineW_row {r : List Int} (h : ∀ z ∈ r, -100 < z ∧ z < 100) : FineW (rowD r) 2 (r.length * 111) := FineW.tuple (fineWA_map r fun z hz => fineW_small (h z hz).1 (h z hz).2)
theorem fineW_ent {x : Int × List Int} (h : EntW x) : FineW (entD x) 3 1400 := by
  have a := fineW_int h.num
  have b : FineW (rowD x.2) 2 1110 := (fineW_row fun z hz => by have := h.hue z hz; omega).mono (Nat.le_refl _) (by have := h.few; omega)
  exact (FineW.tuple (FineWA.cons (a.mono (by omega) (Nat.le_refl _)) (FineWA.cons b (FineWA.nil _)))).mono (Nat.le_refl _) (by omega)
theorem fineW_log {log : Log} (h : ∀ e ∈ log, EntW e) (hl : log.length ≤ 200) : FineW (logD log) 4 290000 :=
  (FineW.list (fineWA_map log fun x hx => fineW_ent (h x hx))).mono (Nat.le_refl _) (by omega)
theorem FineW.shows {d : PyData} {n w : Nat} (h : FineW d n w) (hw : w ≤ 380000) : d.shown.length ≤ sizeLine := by
  have a := PyData.shown_le 40 (by decide) d (PyData.leavesShort_of_canLay0 40 d h.lay h.sh)
  have b := h.wei
  have c : (40 + 2) * d.weight + 40 ≤ 16000000 := by omega
  exact Nat.le_trans a (Nat.le_trans c (by decide))
theorem FineW.shaped {d : PyData} {n w : Nat} (h : FineW d n w) (hn : n ≤ 64) : SeqAt.shaped d = true := by
  show (d.canLay0 && decide (d.depth ≤ 64)) = true
  rw [h.lay, decide_eq_true (Nat.le_trans h.dep hn)]
  rfl
/-- the log that a list of pairs is -/
theorem entL_log {H : Hp} : ∀ {es : List Addr}, (∀ e ∈ es, WEnt H e) → ∃ log : Log, Paired (IsEnt H) es log ∧ ∀ x ∈ log, EntW x
  | [], _ => ⟨[], .nil, fun _ h => nomatch h⟩
  | e :: r, h => by
    obtain ⟨x, a, b⟩ := h e List.mem_cons_self
    obtain ⟨log, c, d⟩ := entL_log (es := r) fun y hy => h y (List.mem_cons_of_mem _ hy)
    refine ⟨x :: log, .cons a c, fun y hy => ?_⟩
    rcases List.mem_cons.mp hy with z | z
    · rw [z]; exact b
    · exact d y z
end Rd
namespace Rd
open PySem PySem.Spec PyProof.Rows L2 Dt
def rNotInT (K : PySem.W.Frag) : R2 := fun x y H Q => ∃ d ds, Dp K H x d ∧ Dp K H y (.tuple ds) ∧ SeqAt.shaped d = true ∧ SeqAt.shaped (.tuple ds) = true ∧ Q (.bl (!ds.any fun z => PyData.eqv z d)) H
theorem op_notInT {X : Cx} (hu : X.A.units + 65 < cLine) : OpR X (compareOp .NotIn) (rNotInT X.K) := by
  intro pins s σ H x y v u Q I rx ry h
  obtain ⟨d, ds, hd, he, sd, se, q⟩ := h
  obtain ⟨as, r1⟩ := Dp.reads I d x v hd rx
  obtain ⟨bs, r2⟩ := Dp.reads I (.tuple ds) y u he ry
  exact SeqAt.notIn_tuple_reads r2 r1 (SeqAt.canLay_of_shaped se) (SeqAt.canLay_of_shaped sd) (room_in_shaped sd hu) ⟨.bl _, H, I, rfl, q⟩
end Rd
namespace Rd
open PySem PySem.Spec PyProof.Rows L2 Dt
theorem one_tr {tp : Addr} {te : TE} {σ : L2.St} {H : Hp} {Φ : V → Hp → Prop} {Q : List V → Hp → Prop} (h : Tr tp te σ H Φ) (k : ∀ v H', Taped tp H H' → Φ v H' → Q [v] H') : tCons te tNil σ H Q := h _ k
/-- a new list of pairs -/
def EntN (tp : Addr) (n : Nat) (H0 : Hp) : V → Hp → Prop := fun v H => EntL tp n v H ∧ ∃ l, v = .ref l ∧ H0 l = none
theorem tr_catN {tp : Addr} {ta tb : TE} {σ : L2.St} {H : Hp} {n m : Nat} (hn : n + m ≤ 1000) (a : Tr tp ta σ H (EntL tp n)) (b : ∀ H1, Taped tp H H1 → Tr tp tb σ H1 (EntL tp m)) : Tr tp (tOp rCat ta tb) σ H (EntN tp (n + m) H) := fun Q k => a _ fun x H1 d1 p1 => b H1 d1 _ fun y H2 d2 p2 => by
  obtain ⟨l, es, rfl, h2, h3, h4, h5⟩ := entL_stays tp n x H1 H2 d1.2 d2 p1
  obtain ⟨l', es', rfl, g2, g3, g4, g5⟩ := p2
  refine ⟨l, l', _, _, rfl, rfl, h3, g3, by rw [List.length_map, List.length_map]; exact Nat.le_of_lt (small1000 (by omega)), fun p np => ?_⟩
  rw [← List.map_append]
  have sp := same_upd (o := .lst ((es ++ es').map V.ref)) np
  refine k _ _ ((d1.trans d2).same sp) ⟨⟨p, es ++ es', rfl, d2.2.new np, upd_same, by rw [List.length_append]; omega, fun e he => ?_⟩, p, rfl, (d1.trans d2).free np⟩
  rcases List.mem_append.mp he with q | q
  · exact (h5 e q).mono (tups_same sp)
  · exact (g5 e q).mono (tups_same sp)
theorem EntN.l {tp : Addr} {n : Nat} {H0 H : Hp} {v : V} (h : EntN tp n H0 v H) : EntL tp n v H := h.1
/-- lists of pairs in a list that is no other one of them -/
structure EntLs (tp : Addr) (n : Nat) (H : Hp) (l : Addr) (vs : List V) : Prop where
  nt : l ≠ tp
  hl : H l = some (.lst vs)
  each : ∀ x ∈ vs, EntL tp n x H ∧ x ≠ .ref l
theorem EntLs.stays {tp : Addr} {n : Nat} {H H' : Hp} {l : Addr} {vs : List V} (h : EntLs tp n H l vs) (t : Tape H tp) (f : Taped tp H H') : EntLs tp n H' l vs := ⟨h.nt, f.1 _ _ h.nt h.hl, fun x hx => ⟨entL_stays tp n x H H' t f (h.each x hx).1, (h.each x hx).2⟩⟩
theorem EntL.put {tp : Addr} {n : Nat} {H : Hp} {l : Addr} {vs : List V} {o : HO} {x : V} (h : EntL tp n x H) (hl : H l = some (.lst vs)) (ne : x ≠ .ref l) : EntL tp n x (upd H l o) := by
  obtain ⟨l', es, rfl, h2, h3, h4, h5⟩ := h
  have n' : l' ≠ l := fun z => ne (by rw [z])
  exact ⟨l', es, rfl, h2, by rw [upd_ne n']; exact h3, h4, fun e he => (h5 e he).mono (tups_lst hl)⟩
theorem EntLs.snoc {tp : Addr} {n : Nat} {H : Hp} {l : Addr} {vs : List V} {v : V} (h : EntLs tp n H l vs) (hv : EntL tp n v H) (ne : v ≠ .ref l) : EntLs tp n (upd H l (.lst (vs ++ [v]))) l (vs ++ [v]) := by
  refine ⟨h.nt, upd_same, fun x hx => ?_⟩
  rcases List.mem_append.mp hx with z | z
  · exact ⟨(h.each x z).1.put h.hl (h.each x z).2, (h.each x z).2⟩
  · rw [List.mem_singleton.mp z]
    exact ⟨hv.put h.hl ne, ne⟩
theorem tr_rowcat {K : PySem.W.Frag} {tp : Addr} {ta tb : TE} {σ : L2.St} {H : Hp} {n m : Nat} (hn : n + m ≤ 10) (a : Tr tp ta σ H fun v H' => ∃ (r : Addr) (row : List Int), v = .ref r ∧ IsRow H' r row ∧ row.length ≤ n ∧ ∀ z ∈ row, -10 < z ∧ z < 10) (b : ∀ H1, Taped tp H H1 → Tr tp tb σ H1 fun v H' => ∃ (r : Addr) (row : List Int), v = .ref r ∧ IsRow H' r row ∧ row.length ≤ m ∧ ∀ z ∈ row, -10 < z ∧ z < 10) : Tr tp (tOp (rCatA K) ta tb) σ H RowW := fun Q k => a _ fun x H1 d1 ⟨r, row, e1, h1, h2, h3⟩ => b H1 d1 _ fun y H2 d2 ⟨r', row', e2, g1, g2, g3⟩ => by
  subst e1
  subst e2
  have h1' : IsRow H2 r row := d2.tups d1.2 _ _ h1
  have d12 := d1.trans d2
  have hb : ∀ z ∈ row ++ row', -10 < z ∧ z < 10 := fun z hz => by
    rcases List.mem_append.mp hz with q | q
    · exact h3 z q
    · exact g3 z q
  refine ⟨r, r', _, _, rfl, rfl, .inl (.inl h1'), .inl (.inl g1), by rw [List.length_map, List.length_map]; exact Nat.le_of_lt (small1000 (by omega)), fun z => ?_, fun _ z => ?_, fun _ _ p np => ?_⟩
  · exact k _ _ d12 ⟨r', row', rfl, g1, by omega, g3⟩
  · exact k _ _ d12 ⟨r, row, rfl, h1', by omega, h3⟩
  · have sp := same_upd (o := .tup (row.map V.int ++ row'.map V.int)) np
    exact k _ _ (d12.same sp) ⟨p, row ++ row', rfl, by show upd _ p _ p = _; rw [upd_same, List.map_append], by rw [List.length_append]; omega, hb⟩
end Rd
namespace Rd
open PySem PySem.Spec PyProof.Rows L2 Dt
/-- pairs, one after the other -/
def EntA (tp : Addr) (m : Nat) (ta : TA) (σ : L2.St) (H : Hp) : Prop := ∀ Q : List V → Hp → Prop, (∀ (es : List Addr) H', Taped tp H H' → es.length = m → (∀ e ∈ es, WEnt H' e) → Q (es.map V.ref) H') → ta σ H Q
theorem enta_nil {tp : Addr} {σ : L2.St} {H : Hp} (t : Tape H tp) : EntA tp 0 tNil σ H := fun Q k => k [] H (Taped.refl t) rfl fun _ h => nomatch h
theorem enta_cons {tp : Addr} {m : Nat} {te : TE} {ta : TA} {σ : L2.St} {H : Hp} (a : Tr tp te σ H fun v H' => ∃ e, v = .ref e ∧ WEnt H' e) (b : ∀ H1, Taped tp H H1 → EntA tp m ta σ H1) : EntA tp (m + 1) (tCons te ta) σ H := fun Q k => a _ fun v H1 d1 ⟨e, ev, w⟩ => b H1 d1 _ fun es H2 d2 hl hw => by
  subst ev
  refine k (e :: es) H2 (d1.trans d2) (by rw [List.length_cons, hl]) fun x hx => ?_
  rcases List.mem_cons.mp hx with z | z
  · rw [z]; exact w.mono (d2.tups d1.2)
  · exact hw x z
theorem tr_ents {tp : Addr} {m : Nat} {ta : TA} {σ : L2.St} {H : Hp} (hm : m ≤ 1000) (a : EntA tp m ta σ H) : Tr tp (tLst ta) σ H (EntN tp m H) := fun Q k => a _ fun es H1 d1 hl hw => by
  refine ⟨by rw [List.length_map, hl]; exact Nat.le_of_lt (small1000 hm), fun l nl => ?_⟩
  have sl := same_upd (o := .lst (es.map V.ref)) nl
  exact k _ _ (d1.same sl) ⟨⟨l, es, rfl, d1.2.new nl, upd_same, by omega, fun e he => (hw e he).mono (tups_same sl)⟩, l, rfl, d1.free nl⟩
/-- a row of at most so many -/
def RowN (n : Nat) : V → Hp → Prop := fun v H => ∃ (r : Addr) (row : List Int), v = .ref r ∧ IsRow H r row ∧ row.length ≤ n ∧ ∀ z ∈ row, -10 < z ∧ z < 10
theorem rowN_stays (tp : Addr) (n : Nat) : Stays tp (RowN n) := fun v H H' t f ⟨r, row, h1, h2, h3⟩ => ⟨r, row, h1, f.tups t _ _ h2, h3⟩
theorem RowN.w {n : Nat} {v : V} {H : Hp} (h : RowN n v H) (hn : n ≤ 10) : RowW v H := let ⟨r, row, h1, h2, h3, h4⟩ := h; ⟨r, row, h1, h2, by omega, h4⟩
theorem tr_slrow {K : PySem.W.Frag} {tp : Addr} {ta : TE} {tl th : TO} {σ : L2.St} {H : Hp} {n : Nat} (a : Tr tp ta σ H (RowN n)) (b : ∀ H1, Taped tp H H1 → TrO tp tl σ H1) (c : ∀ H1, Taped tp H H1 → TrO tp th σ H1) : Tr tp (tSl (rSlA K) ta tl th) σ H (RowN n) := fun Q k => a _ fun x H1 d1 p1 => b H1 d1 _ fun lo H2 d2 => c H2 (d1.trans d2) _ fun hi H3 d3 => by
  obtain ⟨r, row, rfl, h2, h3, h4⟩ := rowN_stays tp n x H1 H3 d1.2 (d2.trans d3) p1
  obtain ⟨row', e1, e2, e3⟩ := cut_mem (f := V.int) (l := row) (lo := lo) (hi := hi)
  have d := d1.trans (d2.trans d3)
  refine ⟨r, _, rfl, .inl (.inl h2), fun _ => k _ _ d ⟨r, row, rfl, h2, h3, h4⟩, fun _ p np => ?_⟩
  rw [e1]
  exact k _ _ (d.same (same_upd np)) ⟨p, row', rfl, upd_same, by omega, fun z hz => h4 z (e3 z hz)⟩
theorem tr_rowcatN {K : PySem.W.Frag} {tp : Addr} {ta tb : TE} {σ : L2.St} {H : Hp} {n m : Nat} (hn : n + m ≤ 10) (a : Tr tp ta σ H (RowN n)) (b : ∀ H1, Taped tp H H1 → Tr tp tb σ H1 (RowN m)) : Tr tp (tOp (rCatA K) ta tb) σ H RowW := tr_rowcat hn a b
theorem tr_tup1 {tp : Addr} {ta : TE} {σ : L2.St} {H : Hp} (a : Tr tp ta σ H fun v _ => ∃ i, v = .int i ∧ -10 < i ∧ i < 10) : Tr tp (tTup (tCons ta tNil)) σ H (RowN 1) := fun Q k => a _ fun v H1 d1 ⟨i, e, i0, i1⟩ => by
  subst e
  refine ⟨(by show 1 ≤ sizeLine; decide), fun t nt => ?_⟩
  exact k _ _ (d1.same (same_upd nt)) ⟨t, [i], rfl, upd_same, Nat.le_refl _, fun z hz => by rw [List.mem_singleton.mp hz]; exact ⟨i0, i1⟩⟩
theorem tr_tup0 {tp : Addr} {σ : L2.St} {H : Hp} (t : Tape H tp) : Tr tp (tTup tNil) σ H (RowN 0) := fun Q k => by
  refine ⟨(by show 0 ≤ sizeLine; decide), fun p np => ?_⟩
  exact k _ _ ((Taped.refl t).same (same_upd np)) ⟨p, [], rfl, upd_same, Nat.le_refl _, fun _ h => nomatch h⟩
theorem tr_neg {tp : Addr} {c : Int} {σ : L2.St} {H : Hp} {Φ : V → Hp → Prop} (t : Tape H tp) (p : Φ (.int (-c)) H) : Tr tp (tUn (rU fun i => .int (-i)) (tC (.int c))) σ H Φ := fun Q k => ⟨c, rfl, k _ _ (Taped.refl t) p⟩
end Rd
namespace Rd
open PySem PySem.Spec PyProof.Rows L2 Dt
/-- a list of pairs, one at least, new since H -/
def SomeAt (H : Hp) (c : Nat) : V → Hp → Prop := fun v Hc => ∃ (l : Addr) (es : List Addr), v = .ref l ∧ H l = none ∧ Hc l = some (.lst (es.map V.ref)) ∧ 1 ≤ es.length ∧ es.length ≤ c ∧ ∀ e ∈ es, WEnt Hc e
theorem some_stays {tp : Addr} {H Hc Hd : Hp} {c : Nat} {v : V} (t : Tape H tp) (tc : Tape Hc tp) (d : Taped tp Hc Hd) (h : SomeAt H c v Hc) : SomeAt H c v Hd := by
  obtain ⟨l, es, h1, h2, h3, h4, h5, h6⟩ := h
  exact ⟨l, es, h1, h2, d.1 _ _ (t.new h2) h3, h4, h5, fun e he => (h6 e he).mono (d.tups tc)⟩
theorem SomeAt.up {H Hc : Hp} {c c' : Nat} {v : V} (h : SomeAt H c v Hc) (k : c ≤ c') : SomeAt H c' v Hc := let ⟨l, es, h1, h2, h3, h4, h5, h6⟩ := h; ⟨l, es, h1, h2, h3, h4, Nat.le_trans h5 k, h6⟩
theorem tr_some {tp : Addr} {m : Nat} {ta : TA} {σ : L2.St} {H Hc : Hp} (hm : m + 1 ≤ 1000) (dc : Taped tp H Hc) (a : EntA tp (m + 1) ta σ Hc) : Tr tp (tLst ta) σ Hc (SomeAt H (m + 1)) := fun Q k => a _ fun es H1 d1 hl hw => by
  refine ⟨by rw [List.length_map, hl]; exact Nat.le_of_lt (small1000 hm), fun l nl => ?_⟩
  have sl := same_upd (o := .lst (es.map V.ref)) nl
  exact k _ _ (d1.same sl) ⟨l, es, rfl, dc.free (d1.free nl), upd_same, by omega, by omega, fun e he => (hw e he).mono (tups_same sl)⟩
theorem some_cat {tp : Addr} {tb : TE} {i : Nat} {σ : L2.St} {H Hc : Hp} {c m : Nat} {v : V} (t : Tape H tp) (dc : Taped tp H Hc) (hσ : σ[i]? = some (some v)) (hs : SomeAt H c v Hc) (hn : c + m ≤ 1000) (b : ∀ H1, Taped tp Hc H1 → Tr tp tb σ H1 (EntL tp m)) : Tr tp (tOp rCat (tVar i) tb) σ Hc (SomeAt H (c + m)) := fun Q k => ⟨v, hσ, b Hc (Taped.refl dc.2) _ fun y H2 d2 p2 => by
  obtain ⟨l, es, rfl, h2, h3, h4, h5, h6⟩ := some_stays t dc.2 d2 hs
  obtain ⟨l', es', rfl, g2, g3, g4, g5⟩ := p2
  refine ⟨l, l', _, _, rfl, rfl, h3, g3, by rw [List.length_map, List.length_map]; exact Nat.le_of_lt (small1000 (by omega)), fun p np => ?_⟩
  rw [← List.map_append]
  have sp := same_upd (o := .lst ((es ++ es').map V.ref)) np
  refine k _ _ (d2.same sp) ⟨p, es ++ es', rfl, dc.free (d2.free np), upd_same, by rw [List.length_append]; omega, by rw [List.length_append]; omega, fun e he => ?_⟩
  rcases List.mem_append.mp he with q | q
  · exact (h6 e q).mono (tups_same sp)
  · exact (g5 e q).mono (tups_same sp)⟩
end Rd

set_option Elab.async false
set_option linter.all false
set_option maxRecDepth 100000
set_option maxHeartbeats 4000000
namespace Rd
open PySem PySem.Spec PyProof.Rows L2 Dt
def topS (i : Nat) : Stmt := PySem.Challenge.pw_redraw_k53_whole_fewest_and_runs.main.body.getD i (.Pass ⟨0, 0, 0, 0⟩)
abbrev sTap : Stmt := topS 32
abbrev nTap : List Str := ["script", "start", "cell"]
theorem scTap : FnScope nTap ["script", "start"] (defScope sTap) := ⟨rfl, rfl, rfl, by decide +kernel, rfl, by decide +kernel, by decide +kernel⟩
abbrev sDig : Stmt := topS 33
abbrev nDig : List Str := ["tape", "many", "found", "more"]
theorem scDig : FnScope nDig ["tape", "many"] (defScope sDig) := ⟨rfl, rfl, rfl, by decide +kernel, rfl, by decide +kernel, by decide +kernel⟩
def spTap (K : PySem.W.Frag) : Sp := fun vs H Q _ => ∃ (a : Addr) (ns : List Int) (st : Int), vs = [.ref a, .int st] ∧ SqL K H a (ns.map V.int) ∧ ns.length ≤ 63 ∧ 0 ≤ st ∧ st ≤ 100 ∧
  ∀ H' tp, Same H H' → H tp = none → Tape H' tp → Q (.ref tp) H'
def spDig : Sp := fun vs H Q _ => ∃ (tp : Addr) (m : Int), vs = [.ref tp, .int m] ∧ Tape H tp ∧ 1 ≤ m ∧ m.natAbs.log2 < 9000 ∧
  ∀ H' d, Taped tp H H' → 0 ≤ d → d < m → Q (.int d) H'
structure TxtT (mg : Str → Option Value) : Prop where
  m_len : mg "len" = none
  m_abs : mg "abs" = none
theorem abs_nn (z : Int) : 0 ≤ (if z < 0 then -z else z) := by split <;> omega
section
variable {P : Program} {w : World} {K : PySem.W.Frag} {mg : Str → Option Value} {base : Heap}
theorem ok_tap {f : Addr} {fd : FuncData} {k : Nat} (F : Fun K "_law_tape" "_law_tape" sTap f fd) (T : TxtT mg) : FnOk P w K mg base CX0 (k + 1) f fd ["script", "start"] (spTap K) := by
  refine F.ok scTap (fun vs H Q E h => ?_) (fun cdv A outer s H vs Q E hr h => ?_)
  · obtain ⟨a, ns, st, rfl, _⟩ := h
    rfl
  · obtain ⟨a, ns, st, rfl, hS, hl, s0, s1, q⟩ := h
    refine ⟨_, (pss_cons (ps_set (i := 2) scTap.nd rfl (Or.inl rfl) pe_int)
  (C8.pss_cut (ps_if (pt_cmpR op_lt (pv 1) (pe_callB call_len_seq (by rfl) T.m_len (by decide +kernel) (pa_cons (pv 0) pa_nil)) (nomark _))
  (pss_one (ps_set (i := 2) scTap.nd rfl (Or.inl rfl) (pe_callB call_abs (by rfl) T.m_abs (by decide +kernel) (pa_cons (pe_ix ix_list (pv 0) (pv 1) (fun _ _ => rfl)) pa_nil)))) (pss_one (ps_if (pt_cmpR op_gt (pe_callB call_len_seq (by rfl) T.m_len (by decide +kernel) (pa_cons (pv 0) pa_nil)) pe_int (nomark _))
  (pss_one (ps_set (i := 2) scTap.nd rfl (Or.inl rfl) (pe_op op_add (pe_op op_mod (pe_callB call_abs (by rfl) T.m_abs (by decide +kernel) (pa_cons (pe_ix ix_list (pv 0) (pe_op op_mod (pv 1) (pe_callB call_len_seq (by rfl) T.m_len (by decide +kernel) (pa_cons (pv 0) pa_nil))) (fun _ _ => rfl)) pa_nil)) (pe_op op_pow pe_int pe_int)) (pe_op op_mul (pv 1) pe_int)))) pss_nil)))
  (pss_one (ps_ret (pe_lst (pa_cons (pv 2) (pa_cons (pe_op op_add (pe_op op_mod (pe_op op_add (pe_op op_mul (pv 1) pe_int) (pv 2)) pe_int) pe_int) pa_nil))))))), ?_⟩
    refine ⟨fun σ H' => H' = H ∧ ∃ c : Int, 0 ≤ c ∧ σ = [some (.ref a), some (.int st), some (.int c)], ?_, ?_⟩
    · refine ⟨.int st, rfl, .ref a, rfl, a, _, rfl, .inl hS, _, _, rfl, rfl, _, rfl, ite2 (fun e => ?_) (fun e => ?_)⟩
      · rw [List.length_map] at e
        have e1 : st < (ns.length : Int) := of_decide_eq_true e
        have hi : st.toNat < ns.length := by omega
        refine ⟨.ref a, rfl, .int st, rfl, a, _, st, _, rfl, rfl, hS, atI_of s0 (List.getElem?_eq_getElem hi), _, rfl, rfl, _, abs_nn _, rfl⟩
      · refine ⟨.ref a, rfl, a, _, rfl, .inl hS, _, _, rfl, rfl, _, rfl, ite2 (fun e2 => ?_) (fun e2 => ?_)⟩
        · rw [List.length_map] at e2
          have e3 : 0 < (ns.length : Int) := of_decide_eq_true e2
          have n0 := Int.emod_nonneg st (show (ns.length : Int) ≠ 0 by omega)
          have n1 := Int.emod_lt_of_pos st e3
          have hi : (st % (ns.length : Int)).toNat < ns.length := by omega
          refine ⟨.ref a, rfl, .int st, rfl, .ref a, rfl, a, _, rfl, .inl hS, _, _, rfl, rfl, (by rw [List.length_map]; exact e3), ?_⟩
          rw [List.length_map]
          refine ⟨a, _, _, _, rfl, rfl, hS, atI_of n0 (List.getElem?_eq_getElem hi), _, rfl, 10, 9, rfl, rfl, ⟨by decide, by decide, by decide⟩, _, _, rfl, rfl, (by show (0 : Int) < 10 ^ 9; decide), .int st, rfl, st, 1000003, rfl, rfl, .inl ⟨by omega, by omega⟩, _, _, rfl, rfl, rfl, _, ?_, rfl⟩
          have := Int.emod_nonneg (if ns[(st % (ns.length : Int)).toNat] < 0 then -ns[(st % (ns.length : Int)).toNat] else ns[(st % (ns.length : Int)).toNat]) (show (10 ^ (9 : Int).toNat : Int) ≠ 0 by decide)
          omega
        · exact ⟨rfl, 0, by decide, rfl⟩
    · rintro σ H1 ⟨rfl, c, c0, rfl⟩
      refine ⟨.int c, rfl, .int st, rfl, st, 7919, rfl, rfl, .inl ⟨by omega, by omega⟩, .int c, rfl, _, _, rfl, rfl, _, _, rfl, rfl, (by show (0 : Int) < 998244353; decide), _, _, rfl, rfl, (by show 2 ≤ sizeLine; decide), fun tp nt => ?_⟩
      have g1 := Int.emod_nonneg (st * 7919 + c) (by decide : (998244353 : Int) ≠ 0)
      have g2 := Int.emod_lt_of_pos (st * 7919 + c) (by decide : (0 : Int) < 998244353)
      exact q _ tp (same_upd nt) nt ⟨c, _, upd_same, c0, by omega, by omega⟩
theorem ok_dig {f : Addr} {fd : FuncData} {k : Nat} (F : Fun K "_law_digit" "_law_digit" sDig f fd) : FnOk P w K mg base CX0 (k + 1) f fd ["tape", "many"] spDig := by
  refine F.ok scDig (fun vs H Q E h => ?_) (fun cdv A outer s H vs Q E hr h => ?_)
  · obtain ⟨tp, m, rfl, _⟩ := h
    rfl
  · obtain ⟨tp, m, rfl, hT, m1, hlog, q⟩ := h
    obtain ⟨b, c, h1, b0, c0, c1⟩ := id hT
    refine ⟨_, (pss_cons (ps_if (pt_cmpR op_gt (pe_ix ix_list (pv 0) pe_int (fun _ _ => rfl)) pe_int (nomark _))
  (pss_cons (ps_set (i := 2) scDig.nd rfl (Or.inl rfl) (pe_op op_mod (pe_ix ix_list (pv 0) pe_int (fun _ _ => rfl)) (pv 1)))
  (pss_cons (ps_asg (pe_op op_fdivW (pe_ix ix_list (pv 0) pe_int (fun _ _ => rfl)) (pv 1)) (pg_sub (pv 0) pe_int set_list))
  (pss_one (ps_ret (pv 2))))) pss_nil)
  (pss_cons (ps_asg (pe_op op_mod (pe_op op_add (pe_op op_mul (pe_ix ix_list (pv 0) pe_int (fun _ _ => rfl)) pe_int) pe_int) pe_int) (pg_sub (pv 0) pe_int set_list))
  (pss_cons (ps_set (i := 3) scDig.nd rfl (Or.inl rfl) (pe_op op_mod (pe_op op_mul (pe_ix ix_list (pv 0) pe_int (fun _ _ => rfl)) pe_int) pe_int))
  (pss_one (ps_ret (pe_op op_mod (pe_op op_add (pe_op op_mul (pe_op op_mod (pe_op op_mul (pe_ix ix_list (pv 0) pe_int (fun _ _ => rfl)) (pe_ix ix_list (pv 0) pe_int (fun _ _ => rfl))) pe_int) pe_int) (pv 3)) (pv 1))))))), ?_⟩
    have q2 : ∀ (b' c' d : Int), 0 ≤ b' → 0 ≤ c' → c' ≤ 2147483647 → 0 ≤ d → d < m → Q (.int d) (upd H tp (.lst [.int b', .int c'])) := fun b' c' d x1 x2 x3 x4 x5 =>
      q _ _ ⟨fun a o n e => by rw [upd_ne n]; exact e, b', c', upd_same, x1, x2, x3⟩ x4 x5
    refine ⟨.ref tp, rfl, tp, _, 0, _, rfl, rfl, .inl (.inl h1), rfl, b, 0, rfl, rfl, _, rfl, ite2 (fun e => ?_) (fun e => ?_)⟩
    · refine ⟨.ref tp, rfl, tp, _, 0, _, rfl, rfl, .inl (.inl h1), rfl, .int m, rfl, b, m, rfl, rfl, (by show 0 < m; omega), ?_⟩
      refine ⟨.ref tp, rfl, tp, _, 0, _, rfl, rfl, .inl (.inl h1), rfl, .int m, rfl, b, m, rfl, rfl, ⟨by omega, hlog⟩, .ref tp, rfl, tp, _, 0, 0, rfl, rfl, h1, rfl, ?_⟩
      exact ⟨.int (b % m), rfl, q2 (b / m) c _ (Int.ediv_nonneg b0 (by omega)) c0 c1 (Int.emod_nonneg _ (by omega)) (Int.emod_lt_of_pos _ (by omega))⟩
    · refine ⟨.ref tp, rfl, tp, _, 1, _, rfl, rfl, .inl (.inl h1), rfl, c, 48271, rfl, rfl, .inl ⟨by omega, by omega⟩, _, _, rfl, rfl, _, _, rfl, rfl, (by show (0 : Int) < 2147483647; decide), .ref tp, rfl, tp, _, 1, 1, rfl, rfl, h1, rfl, ?_⟩
      have n1 := Int.emod_nonneg (c * 48271 + 11) (by decide : (2147483647 : Int) ≠ 0)
      have n2 := Int.emod_lt_of_pos (c * 48271 + 11) (by decide : (0 : Int) < 2147483647)
      generalize ec : (c * 48271 + 11) % 2147483647 = c' at n1 n2
      refine ⟨.ref tp, rfl, tp, _, 1, _, rfl, rfl, .inl (.inl upd_same), rfl, c', 40692, by rw [← ec], rfl, .inl ⟨by omega, by omega⟩, _, _, rfl, rfl, (by show (0 : Int) < 2147483399; decide), ?_⟩
      have k1 := Int.emod_nonneg (c' * c') (by decide : (2147483629 : Int) ≠ 0)
      have k2 := Int.emod_lt_of_pos (c' * c') (by decide : (0 : Int) < 2147483629)
      refine ⟨.ref tp, rfl, tp, _, 1, _, rfl, rfl, .inl (.inl upd_same), rfl, .ref tp, rfl, tp, _, 1, _, rfl, rfl, .inl (.inl upd_same), rfl, c', c', by rw [← ec], by rw [← ec], .inl ⟨by omega, by omega⟩, _, _, rfl, rfl, (by show (0 : Int) < 2147483629; decide), _, 2147483399, rfl, rfl, .inl ⟨by omega, by omega⟩, _, rfl, _, _, rfl, rfl, .int m, rfl, _, m, rfl, rfl, (by show 0 < m; omega), ?_⟩
      have z := q2 b c' ((c' * c' % 2147483629 * 2147483399 + c' * 40692 % 2147483399) % m) b0 n1 (by omega) (Int.emod_nonneg _ (by omega)) (Int.emod_lt_of_pos _ (by omega))
      rw [← ec] at z ⊢
      exact z
end
end Rd

set_option Elab.async false
set_option linter.all false
set_option maxRecDepth 100000
set_option maxHeartbeats 4000000
namespace Rd
open PySem PySem.Spec PyProof.Rows L2 Dt
abbrev sWis : Stmt := topS 34
abbrev nWis : List Str := ["tape", "many", "hues", "most", "size", "left", "places", "every", "place", "longer", "row", "count", "rows", "k", "hue"]
theorem scWis : FnScope nWis ["tape", "many", "hues", "most"] (defScope sWis) := ⟨rfl, rfl, rfl, by decide +kernel, rfl, by decide +kernel, by decide +kernel⟩
def spWis : Sp := fun vs H Q _ => ∃ (tp : Addr) (many hues most : Int), vs = [.ref tp, .int many, .int hues, .int most] ∧ Tape H tp ∧ 1 ≤ many ∧ many ≤ 6 ∧ 2 ≤ hues ∧ hues ≤ 4 ∧ 1 ≤ most ∧ most ≤ 100 ∧
  ∀ H' wa wd, Taped tp H H' → IsWish H' wa wd → Good many hues wd → Neat wd → Q (.ref wa) H'
structure TxtW (P : Program) (w : World) (K : PySem.W.Frag) (mg : Str → Option Value) (base : Heap) : Prop where
  m_range : mg "range" = none
  m_list : mg "list" = none
  m_min : mg "min" = none
  m_len : mg "len" = none
  m_sorted : mg "sorted" = none
  m_tuple : mg "tuple" = none
  c__law_digit : Cal P w K mg base 1 "_law_digit" ["tape", "many"] spDig
theorem pow64 {h s : Nat} (h4 : h ≤ 4) (s3 : s ≤ 3) : h ^ s ≤ 64 := Nat.le_trans (Nat.pow_le_pow_left h4 s) (Nat.le_trans (Nat.pow_le_pow_right (by decide) s3) (by decide))
section
variable {P : Program} {w : World} {K : PySem.W.Frag} {mg : Str → Option Value} {base : Heap}
set_option maxHeartbeats 16000000 in
theorem ok_wis {f : Addr} {fd : FuncData} {k : Nat} (F : Fun K "_law_wish" "_law_wish" sWis f fd) (T : TxtW P w K mg base) : FnOk P w K mg base CX0 (k + 2) f fd ["tape", "many", "hues", "most"] spWis := by
  refine F.ok scWis (fun vs H Q E h => ?_) (fun cdv A outer s H vs Q E hr h => ?_)
  · obtain ⟨tp, many, hues, most, rfl, _⟩ := h
    rfl
  · obtain ⟨tp, many, hues, most, rfl, hT, m1, m6, h2, h4, o1, o100, q⟩ := h
    refine ⟨_, (pss_cons (ps_set (i := 4) scWis.nd rfl (Or.inl rfl) (pe_callB (call_min2 rfl) (by rfl) T.m_min (by decide +kernel) (pa_cons (pv 1) (pa_cons (pe_op op_add pe_int (pe_cal T.c__law_digit (hr.mono (by omega)) (by rfl) (pa_cons (pv 0) (pa_cons pe_int pa_nil)))) pa_nil))))
  (pss_cons (ps_set (i := 5) scWis.nd rfl (Or.inr rfl) (pe_listRg rfl (by rfl) T.m_list (prg_1 (by rfl) T.m_range (pv 1))))
  (pss_cons (ps_set (i := 6) scWis.nd rfl (Or.inl rfl) (pe_callB cr_sorted (by rfl) T.m_sorted (by decide +kernel) (pa_cons (pe_lc (te := tBM K "list" rPopAt (tVar 5) (tCons (tCall spDig [] E0 (tCons (tVar 0) (tCons (tCB (rLen K) (tCons (tVar 5) tNil)) tNil))) tNil)) (own := [("k", 13)]) rfl scWis.nd  (pi_range1 (by rfl) T.m_range (pa_cons (pv 4) pa_nil)) (blkOk_by (own := [("k", 13)]) (N := nWis) (sc := defScope sWis) (by decide +kernel))
   (fun _ _ _ _ _ => (pg_name (i := 13) scWis.nd rfl (Or.inl rfl))) (fun _ _ _ _ _ => pts_nil) (fun _ _ _ _ _ => (pe_bm PySem.F.plainAttrs_list PySem.F.slot_list_pop PySem.F.type_list_pop mt_popAt (pv 5) (pa_cons (pe_cal T.c__law_digit (hr.mono (by omega)) (by rfl) (pa_cons (pv 0) (pa_cons (pe_callB call_len_seq (by rfl) T.m_len (by decide +kernel) (pa_cons (pv 5) pa_nil)) pa_nil))) pa_nil)))) pa_nil)))
  (pss_cons (ps_set (i := 7) scWis.nd rfl (Or.inr rfl) (pe_lst (pa_cons (pe_tup pa_nil) pa_nil)))
  (pss_cons (ps_for PassesOwn.never rfl (pi_list (pv 6)) (pg_name (i := 8) scWis.nd rfl (Or.inl rfl))
  (pss_cons (ps_set (i := 9) scWis.nd rfl (Or.inl rfl) (pe_lst pa_nil))
  (pss_cons (ps_for PassesOwn.never rfl (pi_list (pv 7)) (pg_name (i := 10) scWis.nd rfl (Or.inr rfl))
  (pss_one (ps_expr (pe_bm PySem.F.plainAttrs_list PySem.F.slot_list_extend PySem.F.type_list_extend mt_extend (pv 9) (pa_cons (pe_lc (te := tOp (rCatA K) (tVar 10) (tTup (tCons (tVar 14) tNil))) (own := [("hue", 14)]) rfl scWis.nd  (pi_range1 (by rfl) T.m_range (pa_cons (pv 2) pa_nil)) (blkOk_by (own := [("hue", 14)]) (N := nWis) (sc := defScope sWis) (by decide +kernel))
   (fun _ _ _ _ _ => (pg_name (i := 14) scWis.nd rfl (Or.inl rfl))) (fun _ _ _ _ _ => pts_nil) (fun _ _ _ _ _ => (pe_op op_catA (pv 10) (pe_tup (pa_cons (pv 14) pa_nil))))) pa_nil)))))
  (pss_one (ps_set (i := 7) scWis.nd rfl (Or.inr rfl) (pv 9))))))
  (pss_cons (ps_set (i := 11) scWis.nd rfl (Or.inl rfl) (pe_callB (call_min2 rfl) (by rfl) T.m_min (by decide +kernel) (pa_cons (pe_callB call_len_seq (by rfl) T.m_len (by decide +kernel) (pa_cons (pv 7) pa_nil)) (pa_cons (pe_op op_add pe_int (pe_cal T.c__law_digit (hr.mono (by omega)) (by rfl) (pa_cons (pv 0) (pa_cons (pv 3) pa_nil)))) pa_nil))))
  (C8.pss_cut (ps_if (pt_cmpR op_eq (pe_cal T.c__law_digit (hr.mono (by omega)) (by rfl) (pa_cons (pv 0) (pa_cons pe_int pa_nil))) pe_int (nomark _))
  (pss_one (ps_set (i := 11) scWis.nd rfl (Or.inl rfl) (pe_op op_add pe_int (pe_cal T.c__law_digit (hr.mono (by omega)) (by rfl) (pa_cons (pv 0) (pa_cons (pe_callB call_len_seq (by rfl) T.m_len (by decide +kernel) (pa_cons (pv 7) pa_nil)) pa_nil)))))) pss_nil)
  (pss_cons (ps_setLc (i := 12) (te := tBM K "list" rPopAt (tVar 7) (tCons (tCall spDig [] E0 (tCons (tVar 0) (tCons (tCB (rLen K) (tCons (tVar 7) tNil)) tNil))) tNil)) (own := [("k", 13)]) rfl scWis.nd rfl rfl (sw_true rfl rfl rfl (by decide +kernel)) (pi_range1 (by rfl) T.m_range (pa_cons (pv 11) pa_nil)) (blkOk_by (own := [("k", 13)]) (N := nWis) (sc := defScope sWis) (by decide +kernel))
   (fun _ _ _ _ _ => (pg_name (i := 13) scWis.nd rfl (Or.inl rfl))) (fun _ _ _ _ _ => pts_nil) (fun _ _ _ _ _ => (pe_bm PySem.F.plainAttrs_list PySem.F.slot_list_pop PySem.F.type_list_pop mt_popAt (pv 7) (pa_cons (pe_cal T.c__law_digit (hr.mono (by omega)) (by rfl) (pa_cons (pv 0) (pa_cons (pe_callB call_len_seq (by rfl) T.m_len (by decide +kernel) (pa_cons (pv 7) pa_nil)) pa_nil))) pa_nil))))
  (pss_one (ps_ret (pe_tup (pa_cons (pe_callTy call_tupF (by rfl) T.m_tuple (by decide +kernel) (pa_cons (pv 6) pa_nil)) (pa_cons (pe_callTy call_tuple_of (by rfl) T.m_tuple (by decide +kernel) (pa_cons (pe_callB Tt.cr_sortedT (by rfl) T.m_sorted (by decide +kernel) (pa_cons (pv 12) pa_nil)) pa_nil)) pa_nil))))))))))))), ?_⟩
    -- size
    refine ⟨.int many, rfl, .ref tp, rfl, tp, 3, rfl, hT, by decide, by decide, fun H1 sz D1 z0 z1 => ⟨1, sz, rfl, rfl, many, 1 + sz, rfl, ?_⟩⟩
    obtain ⟨u1, u3, um⟩ : 1 ≤ (if 1 + sz < many then 1 + sz else many) ∧ (if 1 + sz < many then 1 + sz else many) ≤ 3 ∧ (if 1 + sz < many then 1 + sz else many) ≤ many := by split <;> omega
    generalize (if 1 + sz < many then 1 + sz else many) = size at u1 u3 um
    -- left
    refine ⟨.int many, rfl, many, rfl, ⟨by omega, by omega, by omega, by omega, by omega⟩, fun l nl => ?_⟩
    have nlt := D1.2.new nl
    have nl0 : H l = none := D1.free nl
    have E3 := D1.put (o := .lst (rgV 0 many)) nl0 nlt
    have hl3 : upd H1 l (.lst (rgV 0 many)) l = some (.lst (rgV 0 many)) := upd_same
    generalize upd H1 l (.lst (rgV 0 many)) = H3 at E3 hl3
    -- places
    refine ⟨.int size, rfl, size, rfl, by omega, by omega, fun D nD => ?_⟩
    have nDt := E3.2.new nD
    have nD0 : H D = none := E3.free nD
    have nlD : l ≠ D := ne_of_none hl3 nD
    refine lc_range (lo := 0) (n := size.toNat) (fun i H5 => ∃ acc ls, Pops V.int tp H l D (rngI many) i H5 acc ls) ⟨[], rngI many, E3.put nD0 nDt, ?_, upd_same, rfl, by simp, List.Perm.refl _⟩ (fun i H5 hi p => ?_) (fun H5 p => ?_)
    · rw [upd_ne nlD, hl3, rgV_eq]
    · obtain ⟨acc, ls, p⟩ := p
      have ll := p.ll
      have rl := rngI_len many
      refine ⟨rfl, yes_if ?_⟩
      refine ⟨.ref l, rfl, .inl ⟨rfl, _, .inl (.inl p.hL)⟩, .ref tp, rfl, .ref l, rfl, l, _, rfl, .inl (.inl (.inl p.hL)), tp, _, rfl, p.fr.2, by rw [List.length_map]; omega, by rw [List.length_map]; exact log_small (by omega) (by omega), fun H6 d D6 d0 d1 => ?_⟩
      rw [List.length_map] at d1
      obtain ⟨y, y1, y2, y3, acc', y4, y5, acc2, ls2, y6⟩ := pop_step nl0 nlt nD0 nDt nlD (by omega) p D6 d0 d1
      exact ⟨l, ls.map V.int, d, d.toNat, y, rfl, rfl, y2, by omega, by omega, y3, y1, acc', y4, y5, acc2, ls2, y6⟩
    · obtain ⟨acc, ls, ⟨E5, hL, hD, la, ll, pm⟩⟩ := p
      refine ⟨D, acc, rfl, .inl (.inl hD), by omega, fun ps lp perm rising nlp => ?_⟩
      have anod : acc.Nodup := (List.nodup_append.mp (pm.nodup_iff.mpr (rngI_nodup many))).1
      have psn : ps.Nodup := perm.nodup_iff.mpr anod
      have accb : ∀ z ∈ acc, 0 ≤ z ∧ z < many := fun z hz => rngI_mem (pm.mem_iff.mp (List.mem_append_left _ hz))
      have psb : ∀ z ∈ ps, 0 ≤ z ∧ z < many := fun z hz => accb z (perm.mem_iff.mp hz)
      have psl : ps.length = size.toNat := by rw [perm.length_eq, la]
      have prise := rise_of rising psn
      have nlpt := E5.2.new nlp
      have nlp0 : H lp = none := E5.free nlp
      have E6 := E5.put (o := .lst (ps.map V.int)) nlp0 nlpt
      have hp6 : upd H5 lp (.lst (ps.map V.int)) lp = some (.lst (ps.map V.int)) := upd_same
      generalize upd H5 lp (.lst (ps.map V.int)) = H6 at E6 hp6
      clear hL hD la ll pm accb perm nD nDt nD0 nlD hl3
      -- every
      refine ⟨(by show 0 ≤ sizeLine; decide), fun t nt => ⟨(by show 1 ≤ sizeLine; decide), fun l1 nl1 => ?_⟩⟩
      have st := same_upd (o := .tup []) nt
      have sl := same_upd (o := .lst [.ref t]) nl1
      have hn6 : ∀ b, H6 b = none → H b = none := fun b e => E6.free e
      refine ⟨.ref lp, rfl, lp, rfl, ⟨_, .inl (.inl ((st.trans sl) _ _ hp6))⟩, for_list (K := K) (a := lp) (xs := ps.map V.int) (fun i σ H3 => Same H6 H3 ∧ ∃ l0, H6 l0 = none ∧ IsFills H3 l0 (fillL hues.toNat i) ∧ ∃ y8 y9 y10, σ = [some (.ref tp), some (.int many), some (.int hues), some (.int most), some (.int size), some (.ref l), some (.ref lp), some (.ref l0), y8, y9, y10, none, none, none, none]) ⟨st.trans sl, l1, st.free nl1, ⟨[t], upd_same, .cons (sl _ _ upd_same) .nil⟩, none, none, none, rfl⟩ (fun i σ H3 _ p => .inl (.inl (p.1 _ _ hp6))) (fun i x σ H3 hx p => ?_) (fun σ H3 p => ?_)⟩
      · obtain ⟨sm, l0, nl0', ⟨as, hl, pr⟩, y8, y9, y10, rfl⟩ := p
        have hi : i < ps.length := by
          have := (List.getElem?_eq_some_iff.mp hx).1
          rw [List.length_map] at this
          exact this
        have flen := fill_len hues.toNat i
        have p4 : hues.toNat ^ i ≤ 4096 := pow_le_4096 (by omega) (by omega)
        have alen := pairedLen pr
        refine ⟨(by show 0 ≤ sizeLine; decide), fun L nL => ?_⟩
        have nLH : H6 L = none := sm.free nL
        refine ⟨.ref l0, rfl, l0, rfl, ⟨_, .inl (.inl (same_upd nL _ _ hl))⟩, for_list (K := K) (a := l0) (xs := as.map V.ref) (fun i2 σ H5 => Same H3 H5 ∧ IsFills H5 L (((fillL hues.toNat i).take i2).flatMap (longer hues.toNat)) ∧ ∃ y8 y10, σ = [some (.ref tp), some (.int many), some (.int hues), some (.int most), some (.int size), some (.ref l), some (.ref lp), some (.ref l0), y8, some (.ref L), y10, none, none, none, none]) ⟨same_upd nL, ⟨[], upd_same, .nil⟩, _, _, rfl⟩ (fun i2 σ H5 _ pp => .inl (.inl (pp.1 _ _ hl))) (fun i2 x σ H5 hx pp => ?_) (fun σ H5 pp => ?_)⟩
        · obtain ⟨a, ea, rfl⟩ := map_get hx
          obtain ⟨fl, hfl, isr⟩ := pairedGetL pr ea
          obtain ⟨s5, ⟨bs, hL, pb⟩, z2, z4, rfl⟩ := pp
          have blen := pairedLen pb
          refine ⟨.ref L, rfl, .inl ⟨rfl, _, .inl (.inl hL)⟩, .int hues, rfl, hues, rfl, by omega, by omega, fun D nD => lc_range (lo := 0) (n := hues.toNat) (fun j H6 => Same H5 H6 ∧ IsFills H6 D ((longer hues.toNat fl).take j)) ⟨same_upd nD, [], upd_same, .nil⟩ (fun j H6 hj pp => ?_) (fun H6 pp => ?_)⟩
          · obtain ⟨s6, cs, hb, pc⟩ := pp
            have clen := pairedLen pc
            have fin : ∀ (H7 : Hp) (r : Addr), Same H6 H7 → H7 r = some (.tup ((fl ++ [(j : Int)]).map V.int)) → ∃ acc, H7 D = some (.lst acc) ∧ acc.length < sizeLine ∧ (Same H5 (upd H7 D (.lst (acc ++ [.ref r]))) ∧ IsFills (upd H7 D (.lst (acc ++ [.ref r]))) D ((longer hues.toNat fl).take (j + 1))) := fun H7 r s7 hr7 => by
              have hD7 := s7 _ _ hb
              have tu : Tups H7 (upd H7 D (.lst (cs.map V.ref ++ [.ref r]))) := tups_lst hD7
              refine ⟨_, hD7, ?_, fun b o e => ?_, cs ++ [r], ?_, ?_⟩
              · rw [List.length_map, clen, List.length_take, longer_len]
                exact small1000 (by omega)
              · rw [upd_ne (ne_of_none e nD)]
                exact s7 _ _ (s6 b o e)
              · rw [upd_same, List.map_append]
                rfl
              · rw [take_snoc (longer_at fl hj)]
                exact pairedSnoc (pairedMap (fun _ _ e => tu _ _ (s7 _ _ e)) pc) (tu _ _ hr7)
            refine ⟨rfl, yes_if ?_⟩
            refine ⟨.ref a, rfl, .int (0 + (j : Int)), rfl, (by show 1 ≤ sizeLine; decide), fun t nt => ?_⟩
            have sT := same_upd (o := .tup [.int (0 + (j : Int))]) nt
            have ha : upd H6 t (.tup [.int (0 + (j : Int))]) a = some (.tup (fl.map V.int)) := sT _ _ (s6 _ _ (s5 _ _ isr))
            have e0 : (0 : Int) + (j : Int) = j := Int.zero_add _
            have flen2 := (fill_good (List.mem_of_getElem? hfl)).1
            refine ⟨a, t, _, _, rfl, rfl, .inl (.inl ha), .inl (.inl upd_same), ?_, fun z => ?_, (fun _ z => nomatch z), fun z _ p np => ?_⟩
            · rw [List.length_map, flen2]
              exact Nat.le_of_lt (small1000 (by show i + 1 ≤ 1000; omega))
            · have z2 : fl = [] := List.map_eq_nil_iff.mp z
              refine fin _ t sT ?_
              rw [upd_same, z2, e0]
              rfl
            · have sp := same_upd (o := .tup (fl.map V.int ++ [.int (0 + (j : Int))])) np
              refine fin _ p (sT.trans sp) ?_
              rw [upd_same, e0, List.map_append]
              rfl
          · obtain ⟨s6, cs, hb, pc⟩ := pp
            rw [List.take_of_length_le (by rw [longer_len]; exact Nat.le_refl _)] at pc
            have hL6 := s6 _ _ hL
            have clen := pairedLen pc
            have tu : Tups H6 (upd H6 L (.lst (bs.map V.ref ++ cs.map V.ref))) := tups_lst hL6
            refine ⟨L, D, _, _, rfl, rfl, hL6, hb, ?_, fun b o e => ?_, ⟨bs ++ cs, ?_, ?_⟩, _, _, rfl⟩
            · rw [List.length_map, List.length_map, blen, clen, flat_len, List.length_take, longer_len, flen]
              have : min i2 (hues.toNat ^ i) * hues.toNat ≤ 4096 * 4 := Nat.mul_le_mul (by omega) (by omega)
              exact Nat.le_trans (show _ ≤ 20000 by omega) (by decide)
            · rw [upd_ne (ne_of_none e nL)]
              exact s6 _ _ (s5 b o e)
            · rw [upd_same, List.map_append]
            · rw [take_snoc hfl, List.flatMap_append]
              refine pairedApp (pairedMap (fun _ _ e => tu _ _ (s6 _ _ e)) pb) ?_
              have e : [fl].flatMap (longer hues.toNat) = longer hues.toNat fl := by simp
              rw [e]
              exact pairedMap (fun _ _ e => tu _ _ e) pc
        · obtain ⟨s5, fs5, z2, z4, rfl⟩ := pp
          refine ⟨.ref L, rfl, sm.trans s5, L, nLH, ?_, _, _, _, rfl⟩
          rw [List.length_map, alen, List.take_length] at fs5
          exact fs5
      · obtain ⟨sm, le, nle6, ⟨as, hle, pr⟩, y8, y9, y10, rfl⟩ := p
        rw [List.length_map, psl] at pr
        have E7 := E6.same sm
        have hp7 := sm _ _ hp6
        have nle0 := hn6 _ nle6
        have nlet : le ≠ tp := E6.2.new nle6
        have nlpe : lp ≠ le := ne_of_none hp6 nle6
        obtain ⟨zs0, ez1, ez2, hzs⟩ := pairedZip pr
        have zlen : zs0.length = hues.toNat ^ size.toNat := by
          have := congrArg List.length ez2
          rw [List.length_map, fill_len] at this
          exact this
        have z64 : zs0.length ≤ 64 := by rw [zlen]; exact pow64 (by omega) (by omega)
        have z1p : 1 ≤ zs0.length := by rw [zlen]; exact Nat.pow_pos (by omega)
        have asl : as.length = zs0.length := by rw [← ez1, List.length_map]
        -- count
        refine ⟨.ref le, rfl, le, _, rfl, .inl (.inl (.inl hle)), .ref tp, rfl, .int most, rfl, tp, most, rfl, E7.2, o1, log_small (by omega) (by omega), fun H8 ct D8 c0 c1 => ⟨1, ct, rfl, rfl, _, 1 + ct, rfl, ?_⟩⟩
        rw [List.length_map, asl]
        obtain ⟨v1, v2⟩ : 1 ≤ (if 1 + ct < (zs0.length : Int) then 1 + ct else (zs0.length : Int)) ∧ (if 1 + ct < (zs0.length : Int) then 1 + ct else (zs0.length : Int)) ≤ zs0.length := by split <;> omega
        generalize (if 1 + ct < (zs0.length : Int) then 1 + ct else (zs0.length : Int)) = cnt0 at v1 v2
        have E8 := E7.trans D8
        have hle8 := D8.1 le _ nlet hle
        have hp8 := D8.1 lp _ nlpt hp7
        have tu8 : Tups H3 H8 := D8.tups E7.2
        refine ⟨fun σ Hc => Taped tp H Hc ∧ Hc le = some (.lst (as.map V.ref)) ∧ Hc lp = some (.lst (ps.map V.int)) ∧ Tups H3 Hc ∧ ∃ cnt, 1 ≤ cnt ∧ cnt ≤ (zs0.length : Int) ∧ ∃ y8 y9 y10, σ = [some (.ref tp), some (.int many), some (.int hues), some (.int most), some (.int size), some (.ref l), some (.ref lp), some (.ref le), y8, y9, y10, some (.int cnt), none, none, none], ?_, ?_⟩
        · refine ⟨.ref tp, rfl, tp, 12, rfl, E8.2, by decide, by decide, fun H9 d D9 d0 d1 => ⟨rfl, _, rfl, ite2 (fun _ => ?_) (fun _ => ?_)⟩⟩
          · have E9 := E8.trans D9
            have hle9 := D9.1 le _ nlet hle8
            refine ⟨.ref tp, rfl, .ref le, rfl, le, _, rfl, .inl (.inl (.inl hle9)), tp, _, rfl, E9.2, by rw [List.length_map]; omega, by rw [List.length_map]; exact log_small (by omega) (by omega), fun H10 d2 D10 e0 e1 => ⟨1, d2, rfl, rfl, ?_⟩⟩
            rw [List.length_map] at e1
            exact ⟨E9.trans D10, D10.1 le _ nlet hle9, D10.1 lp _ nlpt (D9.1 lp _ nlpt hp8), tu8.trans ((D9.tups E8.2).trans (D10.tups E9.2)), 1 + d2, by omega, by omega, _, _, _, rfl⟩
          · exact ⟨E8.trans D9, D9.1 le _ nlet hle8, D9.1 lp _ nlpt hp8, tu8.trans (D9.tups E8.2), cnt0, v1, v2, _, _, _, rfl⟩
        · rintro σ Hc ⟨Ec, hlec, hpc, tuc, cnt, n1, n2, w8, w9, w10, rfl⟩
          -- rows
          refine ⟨.int cnt, rfl, cnt, rfl, by omega, by omega, fun D nD => ?_⟩
          have nDt := Ec.2.new nD
          have nD0 : H D = none := Ec.free nD
          have nlD : le ≠ D := ne_of_none hlec nD
          refine lc_range (lo := 0) (n := cnt.toNat) (fun i H5 => (∃ acc ls, Pops (fun z : Addr × List Int => V.ref z.1) tp H le D zs0 i H5 acc ls) ∧ Tups H3 H5 ∧ H5 lp = some (.lst (ps.map V.int))) ⟨⟨[], zs0, Ec.put nD0 nDt, ?_, upd_same, rfl, by simp, List.Perm.refl _⟩, tuc.trans (tups_same (same_upd nD)), same_upd nD _ _ hpc⟩ (fun i H5 hi p => ?_) (fun H5 p => ?_)
          · rw [upd_ne nlD, hlec, ← ez1, List.map_map]
            rfl
          · obtain ⟨⟨acc, ls, p⟩, tu5, hp5⟩ := p
            have ll := p.ll
            refine ⟨rfl, yes_if ?_⟩
            refine ⟨.ref le, rfl, .inl ⟨rfl, _, .inl (.inl p.hL)⟩, .ref tp, rfl, .ref le, rfl, le, _, rfl, .inl (.inl (.inl p.hL)), tp, _, rfl, p.fr.2, by rw [List.length_map]; omega, by rw [List.length_map]; exact log_small (by omega) (by omega), fun H6' d D6 d0 d1 => ?_⟩
            rw [List.length_map] at d1
            obtain ⟨y, y1, y2, y3, acc', y4, y5, acc2, ls2, y6⟩ := pop_step nle0 nlet nD0 nDt nlD (by omega) p D6 d0 d1
            have nlpD : lp ≠ D := ne_of_none hpc nD
            have hD6 := y4
            refine ⟨le, ls.map _, d, d.toNat, y, rfl, rfl, y2, by omega, by omega, y3, y1, acc', y4, y5, ⟨acc2, ls2, y6⟩, ?_, ?_⟩
            · refine tu5.trans ((D6.tups p.fr.2).trans ((tups_lst y2).trans (tups_lst y4)))
            · rw [upd_ne nlpD, upd_ne nlpe]
              exact D6.1 lp _ nlpt hp5
          · obtain ⟨⟨acc, ls, p⟩, tu5, hp5⟩ := p
            have rowsAt : ∀ z ∈ acc, IsRow H5 z.1 z.2 := fun z hz => tu5 _ _ (hzs z (p.pm.mem_iff.mp (List.mem_append_left _ hz)))
            have accIn : ∀ z ∈ acc, z.2 ∈ fillL hues.toNat size.toNat := fun z hz => by
              rw [← ez2]
              exact List.mem_map.mpr ⟨z, p.pm.mem_iff.mp (List.mem_append_left _ hz), rfl⟩
            have accNd : (acc.map (·.2)).Nodup := by
              have a1 : ((acc ++ ls).map (·.2)).Perm (zs0.map (·.2)) := p.pm.map _
              rw [ez2, List.map_append] at a1
              exact (List.nodup_append.mp (a1.nodup_iff.mpr (fill_nodup _ _))).1
            -- the wish
            refine ⟨.ref lp, rfl, lp, _, rfl, .inl (.inl hp5), fun t1 ob1 nt1 oc1 od1 => ?_⟩
            have q1 := same_upd (o := .frz ob1 (.tup (ps.map V.int))) nt1
            generalize hH6 : upd H5 t1 (.frz ob1 (.tup (ps.map V.int))) = H7 at q1
            have ht1 : IsPl H7 t1 ps := ⟨ob1, by rw [← hH6]; exact upd_same, oc1, od1⟩
            have hD7 := q1 _ _ p.hD
            have rows7 : ∀ z ∈ acc, IsRow H7 z.1 z.2 := fun z hz => q1 _ _ (rowsAt z hz)
            have eqr : acc.map (fun z => rowAt H7 z.1) = acc.map (·.2) := List.map_congr_left fun z hz => rowAt_of (rows7 z hz)
            refine ⟨.ref D, rfl, D, acc.map (·.1), rowAt H7, ps.length, hues, rfl, .inl (.inl (by rw [hD7, List.map_map]; rfl)), by omega, fun t ht => ?_, fun ts' so pm pw nso => ?_⟩
            · obtain ⟨z, hz, rfl⟩ := List.mem_map.mp ht
              have fg := fill_good (accIn z hz)
              rw [rowAt_of (rows7 z hz)]
              exact ⟨rows7 z hz, by omega, fun h hh => by have := fg.2 h hh; omega⟩
            have q2 := same_upd (o := .lst (ts'.map V.ref)) nso
            refine ⟨so, _, rfl, .inl ⟨.inl (.inl upd_same), fun t2 nt2 => ?_⟩⟩
            have q3 := q2.trans (same_upd (o := .tup (ts'.map V.ref)) nt2)
            refine ⟨(by show 2 ≤ sizeLine; decide), fun wa nwa => ?_⟩
            have q4 := same_upd (o := .tup [.ref t1, .ref t2]) nwa
            have q5 := q3.trans q4
            have permR : (ts'.map (rowAt H7)).Perm (acc.map (·.2)) := by
              have := pm.map (rowAt H7)
              rw [List.map_map] at this
              rw [← eqr]
              exact this
            have hts : ∀ t ∈ ts', IsRow H7 t (rowAt H7 t) := fun t ht => by
              obtain ⟨z, hz, rfl⟩ := List.mem_map.mp (pm.mem_iff.mp ht)
              rw [rowAt_of (rows7 z hz)]
              exact rows7 z hz
            have la := p.la
            have lr : (ts'.map (rowAt H7)).length = cnt.toNat := by rw [permR.length_eq, List.length_map, la]
            refine q _ wa (ps, ts'.map (rowAt H7)) ((p.fr.same q1).same q5) ⟨t1, t2, ts', upd_same, ht1.mono (tups_same q5), q4 _ _ upd_same, pairedMap (fun _ _ e => q5 _ _ e) (pairedOf hts)⟩ ⟨?_, ?_, psb, ?_, ?_, fun r hr => ?_⟩ ⟨prise, permR.nodup_iff.mpr accNd⟩
            · show 1 ≤ ps.length
              omega
            · show ps.length ≤ 3
              omega
            · show 1 ≤ (ts'.map (rowAt H7)).length
              omega
            · show (ts'.map (rowAt H7)).length ≤ 64
              omega
            · obtain ⟨z, hz, rfl⟩ := List.mem_map.mp (permR.mem_iff.mp hr)
              have fg := fill_good (accIn z hz)
              refine ⟨?_, fun h hh => ?_⟩
              · show z.2.length = ps.length
                omega
              · have := fg.2 h hh
                omega
end
end Rd

set_option Elab.async false
set_option linter.all false
set_option maxRecDepth 100000
set_option maxHeartbeats 4000000
namespace Rd
open PySem PySem.Spec PyProof.Rows L2 Dt
abbrev sSzs : Stmt := topS 35
abbrev nSzs : List Str := ["tape", "small", "some"]
theorem scSzs : FnScope nSzs ["tape", "small"] (defScope sSzs) := ⟨rfl, rfl, rfl, by decide +kernel, rfl, by decide +kernel, by decide +kernel⟩
abbrev sRid : Stmt := topS 36
abbrev nRid : List Str := ["tape", "small", "many", "hues", "wishes", "k"]
theorem scRid : FnScope nRid ["tape", "small"] (defScope sRid) := ⟨rfl, rfl, rfl, by decide +kernel, rfl, by decide +kernel, by decide +kernel⟩
abbrev sTab : Stmt := topS 37
abbrev nTab : List Str := ["tape", "riddle", "most", "found", "place", "k"]
theorem scTab : FnScope nTab ["tape", "riddle", "most"] (defScope sTab) := ⟨rfl, rfl, rfl, by decide +kernel, rfl, by decide +kernel, by decide +kernel⟩
abbrev sOrd : Stmt := topS 38
abbrev nOrd : List Str := ["tape", "many", "left", "k"]
theorem scOrd : FnScope nOrd ["tape", "many"] (defScope sOrd) := ⟨rfl, rfl, rfl, by decide +kernel, rfl, by decide +kernel, by decide +kernel⟩
def szOk (p : Int × Int) : Prop := 1 ≤ p.1 ∧ p.1 ≤ 6 ∧ 2 ≤ p.2 ∧ p.2 ≤ 4 ∧ p.2.toNat ^ p.1.toNat ≤ 256
def szA : List (Int × Int) := [(3, 2), (2, 3), (4, 2), (3, 3), (5, 2), (2, 2), (2, 4), (1, 3), (1, 2), (1, 4), (2, 3), (3, 2)]
def szB : List (Int × Int) := [(6, 2), (4, 3), (3, 4), (5, 3), (4, 4), (5, 2), (3, 3), (4, 2), (2, 4), (6, 2), (1, 2), (5, 2)]
theorem szA_ok : ∀ p ∈ szA, szOk p := by unfold szOk szA; decide
theorem szB_ok : ∀ p ∈ szB, szOk p := by unfold szOk szB; decide
def spSzs : Sp := fun vs H Q _ => ∃ (tp : Addr) (sm : Bool), vs = [.ref tp, .bl sm] ∧ Tape H tp ∧ ∀ H' t many hues, Taped tp H H' → H' t = some (.tup [.int many, .int hues]) → szOk (many, hues) → Q (.ref t) H'
def spRid : Sp := fun vs H Q _ => ∃ (tp : Addr) (sm : Bool), vs = [.ref tp, .bl sm] ∧ Tape H tp ∧
  ∀ H' ri many hues wds, Taped tp H H' → IsRid H' ri many hues wds → GoodR many hues wds → (∀ wd ∈ wds, Neat wd) → szOk (many, hues) → Q (.ref ri) H'
def spTab : Sp := fun vs H Q _ => ∃ (tp ri : Addr) (many hues most : Int) (z : V), vs = [.ref tp, .ref ri, .int most] ∧ Tape H tp ∧ H ri = some (.tup [.int many, .int hues, z]) ∧ 1 ≤ many ∧ many ≤ 6 ∧ 2 ≤ hues ∧ hues ≤ 4 ∧ 1 ≤ most ∧ most ≤ 900 ∧
  ∀ H' ta tb, Taped tp H H' → IsTab (Old H) H' ta tb → GoodT many hues tb → (∀ ds ∈ tb, (ds.length : Int) ≤ most) → Q (.ref ta) H'
def spOrd : Sp := fun vs H Q _ => ∃ (tp : Addr) (n : Int), vs = [.ref tp, .int n] ∧ Tape H tp ∧ 0 ≤ n ∧ n ≤ 20 ∧
  ∀ H' oa ord, Taped tp H H' → H' oa = some (.tup (ord.map V.int)) → GoodO n.toNat ord → ord.Perm (rngI n) → Q (.ref oa) H'
structure TxtR (P : Program) (w : World) (K : PySem.W.Frag) (mg : Str → Option Value) (base : Heap) : Prop extends TxtW P w K mg base where
  c__law_wish : Cal P w K mg base 2 "_law_wish" ["tape", "many", "hues", "most"] spWis
  c__law_sizes : Cal P w K mg base 2 "_law_sizes" ["tape", "small"] spSzs
theorem goodO_of {n : Int} {ord : List Int} (h0 : 0 ≤ n) (p : ord.Perm (rngI n)) : GoodO n.toNat ord := by
  refine ⟨fun z hz => ?_, fun k hk => ?_, ?_⟩
  · have := rngI_mem (p.mem_iff.mp hz)
    omega
  · exact p.mem_iff.mpr (rngI_all (by omega))
  · rw [p.length_eq, rngI_len]
    exact Nat.le_refl _
section
variable {P : Program} {w : World} {K : PySem.W.Frag} {mg : Str → Option Value} {base : Heap}
theorem ok_szs {f : Addr} {fd : FuncData} {k : Nat} (F : Fun K "_law_sizes" "_law_sizes" sSzs f fd) (T : TxtW P w K mg base) : FnOk P w K mg base CX0 (k + 2) f fd ["tape", "small"] spSzs := by
  refine F.ok scSzs (fun vs H Q E h => ?_) (fun cdv A outer s H vs Q E hr h => ?_)
  · obtain ⟨tp, sm, rfl, _⟩ := h
    rfl
  · obtain ⟨tp, sm, rfl, hT, q⟩ := h
    refine ⟨_, (pss_cons (ps_set (i := 2) scSzs.nd rfl (Or.inl rfl) (show PE _ _ (tLst (pairsT szA)) from (pe_lst (pa_cons (pe_tup (pa_cons pe_int (pa_cons pe_int pa_nil))) (pa_cons (pe_tup (pa_cons pe_int (pa_cons pe_int pa_nil))) (pa_cons (pe_tup (pa_cons pe_int (pa_cons pe_int pa_nil))) (pa_cons (pe_tup (pa_cons pe_int (pa_cons pe_int pa_nil))) (pa_cons (pe_tup (pa_cons pe_int (pa_cons pe_int pa_nil))) (pa_cons (pe_tup (pa_cons pe_int (pa_cons pe_int pa_nil))) (pa_cons (pe_tup (pa_cons pe_int (pa_cons pe_int pa_nil))) (pa_cons (pe_tup (pa_cons pe_int (pa_cons pe_int pa_nil))) (pa_cons (pe_tup (pa_cons pe_int (pa_cons pe_int pa_nil))) (pa_cons (pe_tup (pa_cons pe_int (pa_cons pe_int pa_nil))) (pa_cons (pe_tup (pa_cons pe_int (pa_cons pe_int pa_nil))) (pa_cons (pe_tup (pa_cons pe_int (pa_cons pe_int pa_nil))) pa_nil)))))))))))))))
  (C8.pss_cut (ps_if (pt_not (pt_val (pv 1)))
  (pss_one (ps_set (i := 2) scSzs.nd rfl (Or.inl rfl) (show PE _ _ (tLst (pairsT szB)) from (pe_lst (pa_cons (pe_tup (pa_cons pe_int (pa_cons pe_int pa_nil))) (pa_cons (pe_tup (pa_cons pe_int (pa_cons pe_int pa_nil))) (pa_cons (pe_tup (pa_cons pe_int (pa_cons pe_int pa_nil))) (pa_cons (pe_tup (pa_cons pe_int (pa_cons pe_int pa_nil))) (pa_cons (pe_tup (pa_cons pe_int (pa_cons pe_int pa_nil))) (pa_cons (pe_tup (pa_cons pe_int (pa_cons pe_int pa_nil))) (pa_cons (pe_tup (pa_cons pe_int (pa_cons pe_int pa_nil))) (pa_cons (pe_tup (pa_cons pe_int (pa_cons pe_int pa_nil))) (pa_cons (pe_tup (pa_cons pe_int (pa_cons pe_int pa_nil))) (pa_cons (pe_tup (pa_cons pe_int (pa_cons pe_int pa_nil))) (pa_cons (pe_tup (pa_cons pe_int (pa_cons pe_int pa_nil))) (pa_cons (pe_tup (pa_cons pe_int (pa_cons pe_int pa_nil))) pa_nil)))))))))))))))) pss_nil)
  (pss_one (ps_ret (pe_ix ix_list (pv 2) (pe_cal T.c__law_digit (hr.mono (by omega)) (by rfl) (pa_cons (pv 0) (pa_cons pe_int pa_nil))) (fun _ _ => rfl)))))), ?_⟩
    refine pairs_set (prs := szA) (by decide) fun l ts H1 s1 nl hl pr => ?_
    refine ⟨fun σ H' => Same H H' ∧ ∃ l ts prs, H l = none ∧ H' l = some (.lst (ts.map V.ref)) ∧ Paired (IsPr H') ts prs ∧ prs.length = 12 ∧ (∀ p ∈ prs, szOk p) ∧ σ = [some (.ref tp), some (.bl sm), some (.ref l)], ?_, ?_⟩
    · refine ⟨.bl sm, rfl, sm, rfl, ite2 (fun e => ?_) (fun e => ?_)⟩
      · refine pairs_asg (prs := szB) (by decide) fun l2 ts2 H2 s2 nl2 hl2 pr2 => ?_
        exact ⟨s1.trans s2, l2, ts2, szB, s1.free nl2, hl2, pr2, rfl, szB_ok, rfl⟩
      · exact ⟨s1, l, ts, szA, nl, hl, pr, rfl, szA_ok, rfl⟩
    · rintro σ H2 ⟨s2, l2, ts2, prs, nl2, hl2, pr2, lp, okp, rfl⟩
      have hT2 := hT.same s2
      have nlt : l2 ≠ tp := hT.new nl2
      refine ⟨.ref l2, rfl, .ref tp, rfl, tp, 12, rfl, hT2, by decide, by decide, fun H3 d D3 d0 d1 => ?_⟩
      have hd : d.toNat < ts2.length := by rw [pairedLen pr2]; omega
      obtain ⟨p, hp, isp⟩ := pairedGetL pr2 (List.getElem?_eq_getElem hd)
      refine ⟨l2, _, d, _, rfl, rfl, .inl (.inl (D3.1 _ _ nlt hl2)), atI_of d0 (List.getElem?_eq_getElem hd), ?_⟩
      exact q H3 _ p.1 p.2 ((Taped.refl hT).same s2 |>.trans D3) (D3.tups hT2 _ _ isp) (okp p (List.mem_of_getElem? hp))
theorem ok_rid {f : Addr} {fd : FuncData} {k : Nat} (F : Fun K "_law_riddle" "_law_riddle" sRid f fd) (T : TxtR P w K mg base) : FnOk P w K mg base CX0 (k + 3) f fd ["tape", "small"] spRid := by
  refine F.ok scRid (fun vs H Q E h => ?_) (fun cdv A outer s H vs Q E hr h => ?_)
  · obtain ⟨tp, sm, rfl, _⟩ := h
    rfl
  · obtain ⟨tp, sm, rfl, hT, q⟩ := h
    refine ⟨_, (pss_cons (ps_asg (pe_cal T.c__law_sizes (hr.mono (by omega)) (by rfl) (pa_cons (pv 0) (pa_cons (pv 1) pa_nil))) (pg_tup rfl (pgs_cons (pg_name (i := 2) scRid.nd rfl (Or.inr rfl)) (pgs_cons (pg_name (i := 3) scRid.nd rfl (Or.inr rfl)) pgs_nil))))
  (pss_cons (ps_setLc (i := 4) (te := tCall spWis [] E0 (tCons (tVar 0) (tCons (tVar 2) (tCons (tVar 3) (tCons (tC (.int 2)) tNil))))) (own := [("k", 5)]) rfl scRid.nd rfl rfl (sw_true rfl rfl rfl (by decide +kernel)) (pi_range1 (by rfl) T.m_range (pa_cons (pe_cal T.c__law_digit (hr.mono (by omega)) (by rfl) (pa_cons (pv 0) (pa_cons pe_int pa_nil))) pa_nil)) (blkOk_by (own := [("k", 5)]) (N := nRid) (sc := defScope sRid) (by decide +kernel))
   (fun _ _ _ _ _ => (pg_name (i := 5) scRid.nd rfl (Or.inl rfl))) (fun _ _ _ _ _ => pts_nil) (fun _ _ _ _ _ => (pe_cal T.c__law_wish (hr.mono (by omega)) (by rfl) (pa_cons (pv 0) (pa_cons (pv 2) (pa_cons (pv 3) (pa_cons pe_int pa_nil)))))))
  (pss_one (ps_ret (pe_tup (pa_cons (pv 2) (pa_cons (pv 3) (pa_cons (pe_callTy call_tuple_of (by rfl) T.m_tuple (by decide +kernel) (pa_cons (pv 4) pa_nil)) pa_nil)))))))), ?_⟩
    refine ⟨.ref tp, rfl, .bl sm, rfl, tp, sm, rfl, hT, fun H1 t many hues D1 ht ok => ?_⟩
    obtain ⟨k1, k6, hh2, hh4, kp⟩ := id ok
    dsimp only at k1 k6 hh2 hh4
    refine ⟨t, _, rfl, .inl (.inl ht), rfl, .int many, [.int hues], rfl, .int hues, [], rfl, rfl, ?_⟩
    refine ⟨.ref tp, rfl, tp, 9, rfl, D1.2, by decide, by decide, fun H2 nn D2 n0 n1 => ⟨nn, rfl, by omega, by omega, fun lw nlw => ?_⟩⟩
    have E2 := D1.trans D2
    have nw := E2.2.new nlw
    have nw0 : H lw = none := E2.free nlw
    refine lc_range (lo := 0) (n := nn.toNat) (fun i H3 => Taped tp H H3 ∧ ∃ (was : List Addr) (wds : List WD), H3 lw = some (.lst (was.map V.ref)) ∧ was.length = i ∧ Paired (IsWish H3) was wds ∧ (∀ wd ∈ wds, Good many hues wd) ∧ ∀ wd ∈ wds, Neat wd) ⟨E2.put nw0 nw, [], [], upd_same, rfl, .nil, (fun _ h => nomatch h), (fun _ h => nomatch h)⟩ (fun i H3 hi p => ?_) (fun H3 p => ?_)
    · obtain ⟨E3, was, wds, hw, lw3, pw, gd, ne⟩ := p
      refine ⟨rfl, yes_if ?_⟩
      refine ⟨.ref tp, rfl, .int many, rfl, .int hues, rfl, tp, many, hues, 2, rfl, E3.2, k1, k6, hh2, hh4, by decide, by decide, fun H4 wa wd D4 isw gw nw2 => ?_⟩
      have hw4 := D4.1 lw _ nw hw
      have tu : Tups H4 (upd H4 lw (.lst (was.map V.ref ++ [.ref wa]))) := tups_lst hw4
      refine ⟨_, hw4, ?_, (E3.trans D4).put nw0 nw, was ++ [wa], wds ++ [wd], ?_, ?_, pairedSnoc (pairedMap (fun _ _ e => IsWish.mono ((D4.tups E3.2).trans tu) e) pw) (isw.mono tu), ?_, ?_⟩
      · rw [List.length_map, lw3]
        exact small1000 (by omega)
      · rw [upd_same, List.map_append]
        rfl
      · rw [List.length_append, lw3]
        rfl
      · intro wd' h'
        rcases List.mem_append.mp h' with h' | h'
        · exact gd wd' h'
        · rw [List.mem_singleton.mp h']
          exact gw
      · intro wd' h'
        rcases List.mem_append.mp h' with h' | h'
        · exact ne wd' h'
        · rw [List.mem_singleton.mp h']
          exact nw2
    · obtain ⟨E3, was, wds, hw, lw3, pw, gd, ne⟩ := p
      refine ⟨.int many, rfl, .int hues, rfl, .ref lw, rfl, lw, _, rfl, .inl ⟨.inl (.inl hw), fun wt nwt => ?_⟩⟩
      have st := same_upd (o := .tup (was.map V.ref)) nwt
      refine ⟨(by show 3 ≤ sizeLine; decide), fun ri nri => ?_⟩
      have sr := same_upd (o := .tup [.int many, .int hues, .ref wt]) nri
      refine q _ ri many hues wds ((E3.same st).same sr) ⟨wt, was, upd_same, sr _ _ upd_same, pairedMap (fun _ _ e => IsWish.mono (tups_same (st.trans sr)) e) pw⟩ ⟨k1, k6, hh2, hh4, ?_, gd⟩ ne ok
      rw [← pairedLen pw]
      omega
theorem ok_tab {f : Addr} {fd : FuncData} {k : Nat} (F : Fun K "_law_table" "_law_table" sTab f fd) (T : TxtW P w K mg base) : FnOk P w K mg base CX0 (k + 2) f fd ["tape", "riddle", "most"] spTab := by
  refine F.ok scTab (fun vs H Q E h => ?_) (fun cdv A outer s H vs Q E hr h => ?_)
  · obtain ⟨tp, ri, many, hues, most, z, rfl, _⟩ := h
    rfl
  · obtain ⟨tp, ri, many, hues, most, z, rfl, hT, hri, k1, k6, hh2, hh4, o1, o2, q⟩ := h
    refine ⟨_, (pss_cons (ps_set (i := 3) scTab.nd rfl (Or.inl rfl) (pe_lst pa_nil))
  (pss_cons (ps_for PassesOwn.never rfl (pi_range1 (by rfl) T.m_range (pa_cons (pe_ix ix_tup (pv 1) pe_int (fun _ _ => rfl)) pa_nil)) (pg_name (i := 4) scTab.nd rfl (Or.inl rfl))
  (pss_one (ps_expr (pe_bm PySem.F.plainAttrs_list PySem.F.slot_list_append PySem.F.type_list_append mt_append (pv 3) (pa_cons (pe_lc (te := tCall spDig [] E0 (tCons (tVar 0) (tCons (tOp (rIxT K) (tVar 1) (tC (.int 1))) tNil))) (own := [("k", 5)]) rfl scTab.nd  (pi_range1 (by rfl) T.m_range (pa_cons (pe_op op_add pe_int (pe_cal T.c__law_digit (hr.mono (by omega)) (by rfl) (pa_cons (pv 0) (pa_cons (pv 2) pa_nil)))) pa_nil)) (blkOk_by (own := [("k", 5)]) (N := nTab) (sc := defScope sTab) (by decide +kernel))
   (fun _ _ _ _ _ => (pg_name (i := 5) scTab.nd rfl (Or.inl rfl))) (fun _ _ _ _ _ => pts_nil) (fun _ _ _ _ _ => (pe_cal T.c__law_digit (hr.mono (by omega)) (by rfl) (pa_cons (pv 0) (pa_cons (pe_ix ix_tup (pv 1) pe_int (fun _ _ => rfl)) pa_nil))))) pa_nil)))))
  (pss_one (ps_ret (pv 3))))), ?_⟩
    refine ⟨(by show 0 ≤ sizeLine; decide), fun ta nta => ?_⟩
    have sta := same_upd (o := .lst []) nta
    have nt := hT.new nta
    refine ⟨.ref ri, rfl, ri, _, 0, _, rfl, rfl, .inl (.inl (sta _ _ hri)), atI_nat (j := 0) rfl, many, rfl, by omega, by omega, for_range (lo := 0) (n := many.toNat) (fun i σ H3 => Taped tp H H3 ∧ (∃ (das : List Addr) (tb : List (List Int)), H3 ta = some (.lst (das.map V.ref)) ∧ das.length = i ∧ (∀ d ∈ das, H d = none ∧ d ≠ ta) ∧ Paired (IsInts H3) das tb ∧ ∀ ds ∈ tb, 1 ≤ ds.length ∧ (ds.length : Int) ≤ most ∧ ∀ h ∈ ds, 0 ≤ h ∧ h < hues) ∧ ∃ y4, σ = [some (.ref tp), some (.ref ri), some (.int most), some (.ref ta), y4, none]) ⟨(Taped.refl hT).same sta, ⟨[], [], upd_same, rfl, (fun _ h => nomatch h), .nil, (fun _ h => nomatch h)⟩, none, rfl⟩ (fun i σ H3 hi p => ?_) (fun σ H3 p => ?_)⟩
    · obtain ⟨E3, ⟨das, tb, hta, dl, fr, pr, gd⟩, y4, rfl⟩ := p
      have hri3 := E3.tups hT _ _ hri
      refine ⟨.ref ta, rfl, .inl ⟨rfl, _, .inl (.inl hta)⟩, .ref tp, rfl, .int most, rfl, tp, most, rfl, E3.2, o1, log_small (by omega) (by omega), fun H4 ct D4 c0 c1 => ⟨1, ct, rfl, rfl, 1 + ct, rfl, by omega, by omega, fun D nD => ?_⟩⟩
      have E4 := E3.trans D4
      have nDt := E4.2.new nD
      have nD0 : H D = none := E4.free nD
      have hta4 := D4.1 ta _ nt hta
      have nDa : D ≠ ta := (ne_of_none hta4 nD).symm
      have nDd : ∀ d ∈ das, d ≠ D := fun d hd e => by
        obtain ⟨j, hj⟩ := List.getElem?_of_mem hd
        obtain ⟨row, _, e2⟩ := pairedGetL pr hj
        have e3 := D4.1 d _ (hT.new (fr d hd).1) e2
        rw [e, nD] at e3
        cases e3
      refine lc_range (lo := 0) (n := (1 + ct).toNat) (fun j H5 => Taped tp H H5 ∧ Taped tp H4 H5 ∧ ∃ ds : List Int, H5 D = some (.lst (ds.map V.int)) ∧ ds.length = j ∧ ∀ h ∈ ds, 0 ≤ h ∧ h < hues) ⟨E4.put nD0 nDt, (Taped.refl E4.2).same (same_upd nD), [], upd_same, rfl, (fun _ h => nomatch h)⟩ (fun j H5 hj pp => ?_) (fun H5 pp => ?_)
      · obtain ⟨E5, D5, ds, hD, ld, gh⟩ := pp
        refine ⟨rfl, yes_if ?_⟩
        refine ⟨.ref tp, rfl, .ref ri, rfl, ri, _, 1, _, rfl, rfl, .inl (.inl (E5.tups hT _ _ hri)), atI_nat (j := 1) rfl, tp, hues, rfl, E5.2, by omega, log_small (by omega) (by omega), fun H6 d D6 d0 d1 => ?_⟩
        refine ⟨_, D6.1 D _ nDt hD, ?_, (E5.trans D6).put nD0 nDt, (D5.trans D6).put nD nDt, ds ++ [d], ?_, ?_, ?_⟩
        · rw [List.length_map, ld]
          exact small1000 (by omega)
        · rw [upd_same, List.map_append]
          rfl
        · rw [List.length_append, ld]
          rfl
        · intro h hh
          rcases List.mem_append.mp hh with hh | hh
          · exact gh h hh
          · rw [List.mem_singleton.mp hh]
            exact ⟨d0, d1⟩
      · obtain ⟨E5, D5, ds, hD, ld, gh⟩ := pp
        have hta5 := D5.1 ta _ nt hta4
        refine ⟨ta, _, .ref D, rfl, rfl, hta5, ?_, E5.put nta nt, ⟨das ++ [D], tb ++ [ds], ?_, ?_, ?_, ?_, ?_⟩, _, rfl⟩
        · rw [List.length_map, dl]
          exact small1000 (by omega)
        · rw [upd_same, List.map_append]
          rfl
        · rw [List.length_append, dl]
          rfl
        · intro d hd
          rcases List.mem_append.mp hd with hd | hd
          · exact fr d hd
          · rw [List.mem_singleton.mp hd]
            exact ⟨nD0, nDa⟩
        · refine pairedSnoc ?_ (by show upd _ ta _ D = _; rw [upd_ne nDa]; exact hD)
          have q1 : ∀ {l m}, (∀ d ∈ l, H d = none ∧ d ≠ ta) → Paired (IsInts H3) l m → Paired (IsInts (upd H5 ta (.lst (das.map V.ref ++ [.ref D])))) l m := by
            intro l m fl pp
            induction pp with
            | nil => exact .nil
            | @cons a b l m e t ih => exact .cons (by
                show upd H5 ta _ a = _
                rw [upd_ne (fl a List.mem_cons_self).2]
                exact D5.1 a _ (hT.new (fl a List.mem_cons_self).1) (D4.1 a _ (hT.new (fl a List.mem_cons_self).1) e)) (ih fun d hd => fl d (List.mem_cons_of_mem _ hd))
          exact q1 fr pr
        · intro x hx
          rcases List.mem_append.mp hx with hx | hx
          · exact gd x hx
          · rw [List.mem_singleton.mp hx]
            exact ⟨by omega, by omega, gh⟩
    · obtain ⟨E3, ⟨das, tb, hta, dl, fr, pr, gd⟩, y4, rfl⟩ := p
      have tl := pairedLen pr
      refine ⟨.ref ta, rfl, q H3 ta tb E3 ⟨das, hta, fun z => z nta, fun d hd z => z (fr d hd).1, pr⟩ ⟨by omega, fun ds h => (gd ds h).1, fun ds h => ?_, fun ds h => (gd ds h).2.2⟩ fun ds h => (gd ds h).2.1⟩
      have := (gd ds h).2.1
      omega
theorem ok_ord {f : Addr} {fd : FuncData} {k : Nat} (F : Fun K "_law_order" "_law_order" sOrd f fd) (T : TxtW P w K mg base) : FnOk P w K mg base CX0 (k + 2) f fd ["tape", "many"] spOrd := by
  refine F.ok scOrd (fun vs H Q E h => ?_) (fun cdv A outer s H vs Q E hr h => ?_)
  · obtain ⟨tp, n, rfl, _⟩ := h
    rfl
  · obtain ⟨tp, n, rfl, hT, n0, n20, q⟩ := h
    refine ⟨_, (pss_cons (ps_set (i := 2) scOrd.nd rfl (Or.inr rfl) (pe_listRg rfl (by rfl) T.m_list (prg_1 (by rfl) T.m_range (pv 1))))
  (pss_one (ps_ret (pe_callTy call_tuple_of (by rfl) T.m_tuple (by decide +kernel) (pa_cons (pe_lc (te := tBM K "list" rPopAt (tVar 2) (tCons (tCall spDig [] E0 (tCons (tVar 0) (tCons (tCB (rLen K) (tCons (tVar 2) tNil)) tNil))) tNil)) (own := [("k", 3)]) rfl scOrd.nd  (pi_range1 (by rfl) T.m_range (pa_cons (pv 1) pa_nil)) (blkOk_by (own := [("k", 3)]) (N := nOrd) (sc := defScope sOrd) (by decide +kernel))
   (fun _ _ _ _ _ => (pg_name (i := 3) scOrd.nd rfl (Or.inl rfl))) (fun _ _ _ _ _ => pts_nil) (fun _ _ _ _ _ => (pe_bm PySem.F.plainAttrs_list PySem.F.slot_list_pop PySem.F.type_list_pop mt_popAt (pv 2) (pa_cons (pe_cal T.c__law_digit (hr.mono (by omega)) (by rfl) (pa_cons (pv 0) (pa_cons (pe_callB call_len_seq (by rfl) T.m_len (by decide +kernel) (pa_cons (pv 2) pa_nil)) pa_nil))) pa_nil)))) pa_nil))))), ?_⟩
    refine ⟨.int n, rfl, n, rfl, ⟨by omega, by omega, by omega, by omega, by omega⟩, fun l nl => ?_⟩
    have sl := same_upd (o := .lst (rgV 0 n)) nl
    have nlt := hT.new nl
    have E3 := (Taped.refl hT).same sl
    have hl3 : upd H l (.lst (rgV 0 n)) l = some (.lst (rgV 0 n)) := upd_same
    generalize upd H l (.lst (rgV 0 n)) = H3 at E3 hl3
    refine ⟨.int n, rfl, n, rfl, by omega, by omega, fun D nD => ?_⟩
    have nDt := E3.2.new nD
    have nD0 : H D = none := E3.free nD
    have nlD : l ≠ D := ne_of_none hl3 nD
    have rl := rngI_len n
    refine lc_range (lo := 0) (n := n.toNat) (fun i H5 => ∃ acc ls, Pops V.int tp H l D (rngI n) i H5 acc ls) ⟨[], rngI n, E3.put nD0 nDt, ?_, upd_same, rfl, by simp, List.Perm.refl _⟩ (fun i H5 hi p => ?_) (fun H5 p => ?_)
    · rw [upd_ne nlD, hl3, rgV_eq]
    · obtain ⟨acc, ls, p⟩ := p
      have ll := p.ll
      refine ⟨rfl, yes_if ?_⟩
      refine ⟨.ref l, rfl, .inl ⟨rfl, _, .inl (.inl p.hL)⟩, .ref tp, rfl, .ref l, rfl, l, _, rfl, .inl (.inl (.inl p.hL)), tp, _, rfl, p.fr.2, by rw [List.length_map]; omega, by rw [List.length_map]; exact log_small (by omega) (by omega), fun H6 d D6 d0 d1 => ?_⟩
      rw [List.length_map] at d1
      obtain ⟨y, y1, y2, y3, acc', y4, y5, acc2, ls2, y6⟩ := pop_step nl nlt nD0 nDt nlD (by omega) p D6 d0 d1
      exact ⟨l, ls.map V.int, d, d.toNat, y, rfl, rfl, y2, by omega, by omega, y3, y1, acc', y4, y5, acc2, ls2, y6⟩
    · obtain ⟨acc, ls, p⟩ := p
      have ll := p.ll
      have e : ls = [] := List.length_eq_zero_iff.mp (by omega)
      have pm := p.pm
      rw [e, List.append_nil] at pm
      refine ⟨D, _, rfl, .inl ⟨.inl (.inl p.hD), fun oa noa => ?_⟩⟩
      exact q _ oa acc (p.fr.same (same_upd noa)) upd_same (goodO_of n0 pm) pm
end
end Rd

set_option Elab.async false
set_option linter.all false
set_option maxRecDepth 100000
set_option maxHeartbeats 4000000
namespace Rd
open PySem PySem.Spec PyProof.Rows L2 Dt
abbrev sHue : Stmt := topS 6
abbrev nHue : List Str := ["filling", "places", "place"]
theorem scHue : FnScope nHue ["filling", "places"] (defScope sHue) := ⟨rfl, rfl, rfl, by decide +kernel, rfl, by decide +kernel, by decide +kernel⟩
abbrev sIsB : Stmt := topS 7
abbrev nIsB : List Str := ["wish", "filling", "places", "rows"]
theorem scIsB : FnScope nIsB ["wish", "filling"] (defScope sIsB) := ⟨rfl, rfl, rfl, by decide +kernel, rfl, by decide +kernel, by decide +kernel⟩
abbrev sSta : Stmt := topS 13
abbrev nSta : List Str := ["table", "taken", "draws", "beyond"]
theorem scSta : FnScope nSta ["table", "taken"] (defScope sSta) := ⟨rfl, rfl, rfl, by decide +kernel, rfl, by decide +kernel, by decide +kernel⟩
abbrev sFib : Stmt := topS 14
abbrev nFib : List Str := ["wishes", "order", "filling", "number"]
theorem scFib : FnScope nFib ["wishes", "order", "filling"] (defScope sFib) := ⟨rfl, rfl, rfl, by decide +kernel, rfl, by decide +kernel, by decide +kernel⟩
abbrev sHnx : Stmt := topS 15
abbrev nHnx : List Str := ["table", "taken", "places", "place"]
theorem scHnx : FnScope nHnx ["table", "taken", "places"] (defScope sHnx) := ⟨rfl, rfl, rfl, by decide +kernel, rfl, by decide +kernel, by decide +kernel⟩
def spHues (Ps : List Addr) : Sp := fun vs H Q _ => ∃ (fa pa : Addr) (fs ps : List Int) (many hues : Int), vs = [.ref fa, .ref pa] ∧ H fa = some (.tup (fs.map V.int)) ∧ IsPl H pa ps ∧ GoodF many hues fs ∧ (∀ p ∈ ps, 0 ≤ p ∧ p < many) ∧ ps.length ≤ 1000 ∧ Tabs Ps H ∧
  ∀ H' t, FrS Ps H H' → H t = none → H' t = some (.tup ((huesA fs ps).map V.int)) → Q (.ref t) H'
def spIsB (Ps : List Addr) : Sp := fun vs H Q _ => ∃ (wa fa : Addr) (fs : List Int) (wd : WD) (many hues : Int), vs = [.ref wa, .ref fa] ∧ IsWish H wa wd ∧ H fa = some (.tup (fs.map V.int)) ∧ GoodF many hues fs ∧ Good many hues wd ∧ many ≤ 6 ∧ hues ≤ 4 ∧ Tabs Ps H ∧
  ∀ H', FrS Ps H H' → Q (.bl (brk fs wd)) H'
def spSta (Ps : List Addr) : Sp := fun vs H Q _ => ∃ (ta ka : Addr) (tb : List (List Int)) (tk : List Int), vs = [.ref ta, .ref ka] ∧ IsTab (fun _ => False) H ta tb ∧ H ka = some (.lst (tk.map V.int)) ∧ GoodK tb tk ∧ tb.length ≤ 1000 ∧ Tabs Ps H ∧
  ∀ H' t, FrS Ps H H' → H t = none → H' t = some (.tup ((stand tb tk).map V.int)) → Q (.ref t) H'
def vOpt : Option Int → V
  | some k => .int k
  | none => .non
def spFib (Ps : List Addr) : Sp := fun vs H Q _ => ∃ (wt oa fa : Addr) (was : List Addr) (wds : List WD) (ord fs : List Int) (many hues : Int), vs = [.ref wt, .ref oa, .ref fa] ∧ H wt = some (.tup (was.map V.ref)) ∧ Paired (IsWish H) was wds ∧ GoodR many hues wds ∧ H oa = some (.tup (ord.map V.int)) ∧ (∀ z ∈ ord, 0 ≤ z ∧ z < (wds.length : Int)) ∧ H fa = some (.tup (fs.map V.int)) ∧ GoodF many hues fs ∧ Tabs Ps H ∧
  ∀ H', FrS Ps H H' → Q (vOpt (firstB fs wds ord)) H'
def spHnx (Ps : List Addr) : Sp := fun vs H Q _ => ∃ (ta ka pa : Addr) (tb : List (List Int)) (tk ps : List Int), vs = [.ref ta, .ref ka, .ref pa] ∧ IsTab (fun _ => False) H ta tb ∧ H ka = some (.lst (tk.map V.int)) ∧ tk.length = tb.length ∧ H pa = some (.tup (ps.map V.int)) ∧ (∀ p ∈ ps, 0 ≤ p ∧ p < (tb.length : Int)) ∧ Tabs Ps H ∧
  ∀ H', FrS Ps H H' → Q (.bl (canN tb tk ps)) H'
structure TxtN (mg : Str → Option Value) : Prop where
  m_tuple : mg "tuple" = none
  m_zip : mg "zip" = none
  m_all : mg "all" = none
  m_len : mg "len" = none
structure TxtB (P : Program) (w : World) (K : PySem.W.Frag) (mg : Str → Option Value) (base : Heap) (Ps : List Addr) : Prop where
  c_hues_at : Cal P w K mg base 3 "hues_at" ["filling", "places"] (spHues Ps)
structure TxtC (P : Program) (w : World) (K : PySem.W.Frag) (mg : Str → Option Value) (base : Heap) (Ps : List Addr) : Prop extends TxtB P w K mg base Ps where
  c_is_broken : Cal P w K mg base 4 "is_broken" ["wish", "filling"] (spIsB Ps)
theorem atT {tk : List Int} {p : Int} (h0 : 0 ≤ p) (h1 : p < (tk.length : Int)) : tk[p.toNat]? = some (atF tk p) := by
  have h : p.toNat < tk.length := by omega
  rw [atF, getD_get h]
  exact List.getElem?_eq_getElem h
section
variable {P : Program} {w : World} {K : PySem.W.Frag} {mg : Str → Option Value} {base : Heap}
theorem ok_hues {f c Pt : Addr} {Ps : List Addr} {fd : FuncData} {k : Nat} (F : FunC K "hues_at" "hues_at" sHue f fd (.ref c)) (TB : GxR.TabB base mg c Pt) (hP : Pt ∈ Ps) (T : TxtN mg) : FnOk P w K mg base CX0 (k + 3) f fd ["filling", "places"] (spHues Ps) := by
  refine F.ok scHue (fun vs H Q E h => ?_) (fun A outer s H vs Q E hr h => ?_)
  · obtain ⟨fa, pa, fs, ps, many, hues, rfl, _⟩ := h
    rfl
  · obtain ⟨fa, pa, fs, ps, many, hues, rfl, hf, hp, gf, hpl, hl, hT, q⟩ := h
    refine ⟨_, (pss_one (ps_ret (Gx.pe_tupX (own := [("place", 2)]) (te := tOp (rIxT K) (tVar 0) (tVar 2)) hr (by rfl) T.m_tuple rfl scHue.nd TB rfl (blkOk_by (own := [("place", 2)]) (N := nHue) (sc := defScope sHue) (by decide +kernel)) ⟨rfl, by decide +kernel, rfl⟩ (pi_tup (pv 1))
   (fun _ _ _ _ _ _ hA => (pg_name (i := 2) scHue.nd rfl (Or.inl rfl))) (fun _ _ _ _ _ _ hA => pts_nil) (fun _ _ _ _ _ _ hA => (pe_ix ix_tup (pv 0) (pv 2) (fun _ _ => rfl)))))), ?_⟩
    refine ⟨.ref pa, rfl, pa, rfl, ⟨_, hp.sq⟩, hT _ hP, fun H2 tb => ?_⟩
    have f2 := FrS.one hT hP tb
    refine Gx.tup_tup (K := K) (a := pa) (xs := ps.map V.int) (by rw [List.length_map]; exact Nat.le_of_lt (small1000 hl)) (fun i ys H3 => FrS Ps H H3 ∧ ys = (huesA fs (ps.take i)).map V.int) ⟨f2, rfl⟩ (fun i ys H3 _ f3 => (hp.mono (f3.1.tups hT)).sq) (fun i ys H3 f3 => ?_) (fun i x ys H3 hx f3 => ?_) (fun ys H3 f3 => ?_)
    · rw [f3.2, List.length_map, huesA, List.length_map, List.length_take]
      omega
    · obtain ⟨p, ep, rfl⟩ := map_get hx
      obtain ⟨f3, rfl⟩ := f3
      have hpp := hpl p (List.mem_of_getElem? ep)
      refine ⟨rfl, yes_if ?_⟩
      refine ⟨.ref fa, rfl, .int p, rfl, fa, _, p, _, rfl, rfl, .inl (.inl (f3.tups hT _ _ hf)), atI_fs gf hpp.1 hpp.2, f3, ?_⟩
      rw [take_snoc ep]
      simp [huesA]
    · obtain ⟨f3, rfl⟩ := f3
      rw [List.length_map, List.take_length]
      exact fun t nt => q _ t (f3.same (same_upd nt)) (f3.free nt) upd_same
theorem ok_isB {f : Addr} {Ps : List Addr} {fd : FuncData} {k : Nat} (F : Fun K "is_broken" "is_broken" sIsB f fd) (T : TxtB P w K mg base Ps) : FnOk P w K mg base CX0 (k + 4) f fd ["wish", "filling"] (spIsB Ps) := by
  refine F.ok scIsB (fun vs H Q E h => ?_) (fun cdv A outer s H vs Q E hr h => ?_)
  · obtain ⟨wa, fa, fs, wd, many, hues, rfl, _⟩ := h
    rfl
  · obtain ⟨wa, fa, fs, wd, many, hues, rfl, hw, hf, gf, gw, hm, hh, hT, q⟩ := h
    refine ⟨_, (pss_cons (ps_asg (pv 0) (pg_tup rfl (pgs_cons (pg_name (i := 2) scIsB.nd rfl (Or.inl rfl)) (pgs_cons (pg_name (i := 3) scIsB.nd rfl (Or.inl rfl)) pgs_nil))))
  (pss_one (ps_ret (pe_cmpR (Dt.op_inT (units65 hr)) (pe_cal T.c_hues_at (hr.mono (by omega)) (by rfl) (pa_cons (pv 1) (pa_cons (pv 2) pa_nil))) (pv 3) (by rfl))))), ?_⟩
    obtain ⟨pa, ra, rs, h1, h2, h3, h4⟩ := id hw
    refine ⟨.ref wa, rfl, wa, _, rfl, .inl (.inl h1), rfl, .ref pa, [.ref ra], rfl, .ref ra, [], rfl, rfl, ?_⟩
    have g3 := gw.three
    refine ⟨.ref fa, rfl, .ref pa, rfl, fa, pa, fs, wd.1, many, hues, rfl, hf, h2, gf, gw.pl, by omega, hT, fun H' t fr nt ht => ?_⟩
    have tp := fr.tups hT
    refine ⟨.ref ra, rfl, rowD (huesA fs wd.1), wd.2.map rowD, .tup (.inl (.inl ht)) (dpInts _), .tup (.inl (.inl (tp _ _ h3))) (dpRows (pairedMap (fun _ _ e => tp _ _ e) h4)), ?_, ?_, ?_⟩
    · refine (fine_row (fun z hz => ?_) ?_).shaped (by decide)
      · obtain ⟨p, hp, rfl⟩ := List.mem_map.mp hz
        have hpp := gw.pl p hp
        have e := List.mem_of_getElem? (at_some gf hpp.1 hpp.2)
        have := gf.hue _ e
        omega
      · simp [huesA]
        omega
    · refine (Fine.tuple (fineAll_map wd.2 (n := 2) (w := 64) fun r hr => fine_row (fun z hz => ?_) ?_)).shaped (by decide)
      · have := (gw.row r hr).2 z hz
        omega
      · have := (gw.row r hr).1
        omega
    · rw [anyRows]
      exact q H' fr
theorem ok_sta {f c Pt : Addr} {Ps : List Addr} {fd : FuncData} {k : Nat} (F : FunC K "standing" "standing" sSta f fd (.ref c)) (TB : GxR.TabB base mg c Pt) (hP : Pt ∈ Ps) (T : TxtN mg) : FnOk P w K mg base CX0 (k + 3) f fd ["table", "taken"] (spSta Ps) := by
  refine F.ok scSta (fun vs H Q E h => ?_) (fun A outer s H vs Q E hr h => ?_)
  · obtain ⟨ta, ka, tb, tk, rfl, _⟩ := h
    rfl
  · obtain ⟨ta, ka, tb, tk, rfl, ht, hk, gk, hl, hT, q⟩ := h
    refine ⟨_, (pss_one (ps_ret (Gx.pe_tupX (own := [("draws", 2), ("beyond", 3)]) (g := gTup K 2 (gCons (gName 2) (gCons (gName 3) gNil))) (te := tOp (rIxL K) (tVar 2) (tVar 3)) hr (by rfl) T.m_tuple rfl scSta.nd TB rfl (blkOk_by (own := [("draws", 2), ("beyond", 3)]) (N := nSta) (sc := defScope sSta) (by decide +kernel)) ⟨rfl, by decide +kernel, rfl⟩ (RZ.pi_zipA (by rfl) T.m_zip (pa_cons (pv 0) (pa_cons (pv 1) pa_nil)))
   (fun _ _ _ _ _ _ hA => (pg_tup rfl (pgs_cons (pg_name (i := 2) scSta.nd rfl (Or.inl rfl)) (pgs_cons (pg_name (i := 3) scSta.nd rfl (Or.inl rfl)) pgs_nil)))) (fun _ _ _ _ _ _ hA => pts_nil) (fun _ _ _ _ _ _ hA => (pe_ix ix_list (pv 2) (pv 3) (fun _ _ => rfl)))))), ?_⟩
    obtain ⟨das, h1, _, _, pr⟩ := id ht
    have dl := pairedLen pr
    have kl := gk.len
    refine ⟨.ref ta, rfl, .ref ka, rfl, ta, ka, das.map V.ref, tk.map V.int, rfl, .inl ⟨.inl (.inl h1), .inl (.inl hk), hT _ hP, fun H2 tb2 => ?_⟩⟩
    have f2 := FrS.one hT hP tb2
    refine Gx.tup_zipL (K := K) (a := ta) (b := ka) (xs := das.map V.ref) (ys := tk.map V.int) (by rw [List.length_map, List.length_map]; omega) (by rw [List.length_map]; exact Nat.le_of_lt (small1000 (by omega))) (fun i ys H3 => FrS Ps H H3 ∧ ys = ((stand tb tk).take i).map V.int) ⟨f2, rfl⟩ (fun i ys H3 f3 => ⟨.inl (.inl ((f3.1.seqs hT).2 _ _ h1)), .inl (.inl ((f3.1.seqs hT).2 _ _ hk))⟩) (fun i ys H3 f3 => ?_) (fun i x y T ys H3 hx hy f3 nT => ?_) (fun ys H3 f3 => ?_)
    · rw [f3.2, List.length_map, List.length_take]
      omega
    · obtain ⟨d, ed, rfl⟩ := map_get hx
      obtain ⟨n, en, rfl⟩ := map_get hy
      obtain ⟨f3, rfl⟩ := f3
      obtain ⟨ds, eds, hd⟩ := pairedGetL pr ed
      have hi : i < tb.length := (List.getElem?_eq_some_iff.mp eds).1
      have a := gk.at_ i hi
      have e1 : tb.getD i [] = ds := by rw [List.getD_eq_getElem?_getD, eds]; rfl
      have e2 : tk.getD i 0 = n := by rw [List.getD_eq_getElem?_getD, en]; rfl
      rw [e1, e2] at a
      have sT := same_upd (o := .tup [.ref d, .int n]) nT
      have f4 := f3.same sT
      refine ⟨T, _, rfl, .inl (.inl upd_same), rfl, .ref d, [.int n], rfl, .int n, [], rfl, rfl, rfl, yes_if ?_⟩
      refine ⟨.ref d, rfl, .int n, rfl, d, _, n, _, rfl, rfl, .inl (.inl ((f4.seqs hT).2 _ _ hd)), atI_of a.1 (atT a.1 a.2), f4, ?_⟩
      rw [take_snoc (stand_get gk hi), e1, e2, List.map_append]
      rfl
    · obtain ⟨f3, rfl⟩ := f3
      rw [List.length_map, List.take_of_length_le (by rw [stand_len gk]; omega)]
      exact fun t nt => q _ t (f3.same (same_upd nt)) (f3.free nt) upd_same
theorem ok_fib {f : Addr} {Ps : List Addr} {fd : FuncData} {k : Nat} (F : Fun K "first_broken" "first_broken" sFib f fd) (T : TxtC P w K mg base Ps) : FnOk P w K mg base CX0 (k + 5) f fd ["wishes", "order", "filling"] (spFib Ps) := by
  refine F.ok scFib (fun vs H Q E h => ?_) (fun cdv A outer s H vs Q E hr h => ?_)
  · obtain ⟨wt, oa, fa, was, wds, ord, fs, many, hues, rfl, _⟩ := h
    rfl
  · obtain ⟨wt, oa, fa, was, wds, ord, fs, many, hues, rfl, hw, pw, gr, ho, go, hf, gf, hT, q⟩ := h
    refine ⟨_, (pss_cons (ps_for PassesOwn.never rfl (pi_tup (pv 1)) (pg_name (i := 3) scFib.nd rfl (Or.inl rfl))
  (pss_one (ps_if (pt_val (pe_cal T.c_is_broken (hr.mono (by omega)) (by rfl) (pa_cons (pe_ix ix_tup (pv 0) (pv 3) (fun _ _ => rfl)) (pa_cons (pv 2) pa_nil))))
  (pss_one (ps_ret (pv 3))) pss_nil)))
  (pss_one (ps_ret pe_non))), ?_⟩
    have wl := pairedLen pw
    refine ⟨.ref oa, rfl, oa, rfl, ⟨_, .inl (.inl ho)⟩, ?_⟩
    refine for_tup (K := K) (a := oa) (xs := ord.map V.int) (fun i σ H3 => FrS Ps H H3 ∧ firstB fs wds ord = firstB fs wds (ord.drop i) ∧ ∃ y3, σ = [some (.ref wt), some (.ref oa), some (.ref fa), y3]) ⟨FrS.refl hT, by rw [List.drop_zero], none, rfl⟩ (fun i σ H3 _ p => .inl (.inl (p.1.tups hT _ _ ho))) (fun i x σ H3 hx p => ?_) (fun σ H3 p => ?_)
    · obtain ⟨z, ez, rfl⟩ := map_get hx
      obtain ⟨f3, e3, y3, rfl⟩ := p
      have hz := go z (List.mem_of_getElem? ez)
      have hzn : z.toNat < was.length := by omega
      obtain ⟨wd, hwd, isw⟩ := pairedGetL pw (List.getElem?_eq_getElem hzn)
      have gw := gr.each wd (List.mem_of_getElem? hwd)
      have hdr : ord.drop i = z :: ord.drop (i + 1) := by
        have hi := (List.getElem?_eq_some_iff.mp ez)
        rw [List.drop_eq_getElem_cons hi.1, hi.2]
      refine ⟨.ref wt, rfl, .int z, rfl, wt, _, z, _, rfl, rfl, .inl (.inl (f3.tups hT _ _ hw)), atI_of hz.1 (List.getElem?_eq_getElem hzn), .ref fa, rfl, _, fa, fs, wd, many, hues, rfl, isw.mono (f3.tups hT), f3.tups hT _ _ hf, gf, gw, gr.m6, gr.h4, f3.2, fun H4 f4 => ⟨_, rfl, ite2 (fun e => ?_) (fun e => ?_)⟩⟩
      · refine ⟨.int z, rfl, ?_⟩
        have e5 : firstB fs wds ord = some z := by
          rw [e3, hdr, firstB, List.find?_cons, brkAt_of hwd, e]
        have := q H4 (f3.trans f4)
        rw [e5] at this
        exact this
      · refine ⟨f3.trans f4, ?_, _, rfl⟩
        rw [e3, hdr, firstB, List.find?_cons, brkAt_of hwd]
        have e6 : brk fs wd = false := by
          cases c : brk fs wd with
          | true => exact absurd c e
          | false => rfl
        rw [e6]
        rfl
    · obtain ⟨f3, e3, y3, rfl⟩ := p
      have := q H3 f3
      rw [List.length_map, List.drop_length] at e3
      rw [e3] at this
      exact this
theorem ok_hnx {f c Pt : Addr} {Ps : List Addr} {fd : FuncData} {k : Nat} (F : FunC K "have_next" "have_next" sHnx f fd (.ref c)) (TB : GxR.TabB base mg c Pt) (hP : Pt ∈ Ps) (T : TxtN mg) : FnOk P w K mg base CX0 (k + 2) f fd ["table", "taken", "places"] (spHnx Ps) := by
  refine F.ok scHnx (fun vs H Q E h => ?_) (fun A outer s H vs Q E hr h => ?_)
  · obtain ⟨ta, ka, pa, tb, tk, ps, rfl, _⟩ := h
    rfl
  · obtain ⟨ta, ka, pa, tb, tk, ps, rfl, ht, hk, kl, hp, hpl, hT, q⟩ := h
    refine ⟨_, (pss_one (ps_ret (Gx.pe_allX (own := [("place", 3)]) (te := tOp (rI0 fun i j => .bl (decide (i < j))) (tOp (rI0 fun i j => .int (i + j)) (tOp (rIxL K) (tVar 1) (tVar 3)) (tC (.int 1))) (tCB (rLen K) (tCons (tOp (rIxL K) (tVar 0) (tVar 3)) tNil))) hr (by rfl) T.m_all rfl scHnx.nd TB rfl (blkOk_by (own := [("place", 3)]) (N := nHnx) (sc := defScope sHnx) (by decide +kernel)) ⟨rfl, by decide +kernel, rfl⟩ (pi_tup (pv 2))
   (fun _ _ _ _ _ _ hA => (pg_name (i := 3) scHnx.nd rfl (Or.inl rfl))) (fun _ _ _ _ _ _ hA => pts_nil) (fun _ _ _ _ _ _ hA => (pe_cmpR op_lt (pe_op op_add (pe_ix ix_list (pv 1) (pv 3) (fun _ _ => rfl)) pe_int) (pe_callB call_len_seq (by rfl) T.m_len (by decide +kernel) (pa_cons (pe_ix ix_list (pv 0) (pv 3) (fun _ _ => rfl)) pa_nil)) (nomark _)))))), ?_⟩
    obtain ⟨das, h1, _, _, pr⟩ := id ht
    have dl := pairedLen pr
    refine ⟨.ref pa, rfl, pa, rfl, ⟨_, .inl (.inl hp)⟩, hT _ hP, fun H2 tb2 => ?_⟩
    have f2 := FrS.one hT hP tb2
    refine Gx.all_tup (K := K) (a := pa) (xs := ps.map V.int) (fun i H3 => FrS Ps H H3 ∧ canN tb tk (ps.take i) = true) ⟨f2, rfl⟩ (fun i H3 _ f3 => .inl (.inl (f3.1.tups hT _ _ hp))) (fun i x H3 hx f3 => ?_) (fun H3 f3 => ?_)
    · obtain ⟨p, ep, rfl⟩ := map_get hx
      obtain ⟨f3, e3⟩ := f3
      have hpp := hpl p (List.mem_of_getElem? ep)
      have hpn : p.toNat < das.length := by omega
      obtain ⟨ds, eds, hd⟩ := pairedGetL pr (List.getElem?_eq_getElem hpn)
      have sq := f3.seqs hT
      have e1 : lenAt tb p = (ds.length : Int) := by rw [lenAt, List.getD_eq_getElem?_getD, eds]; rfl
      refine ⟨rfl, yes_if ?_⟩
      refine ⟨.ref ka, rfl, .int p, rfl, ka, _, p, _, rfl, rfl, .inl (.inl (sq.2 _ _ hk)), atI_of hpp.1 (atT hpp.1 (by omega)), _, _, rfl, rfl, .ref ta, rfl, .int p, rfl, ta, _, p, _, rfl, rfl, .inl (.inl (sq.2 _ _ h1)), atI_of hpp.1 (List.getElem?_eq_getElem hpn), _, _, rfl, .inl (.inl (.inl (sq.2 _ _ hd))), _, _, rfl, rfl, _, rfl, ?_⟩
      have e4 : canN tb tk (ps.take (i + 1)) = (canN tb tk (ps.take i) && decide (atF tk p + 1 < lenAt tb p)) := by
        rw [take_snoc ep, canN, canN, List.all_append]
        simp
      rw [List.length_map, ← e1]
      cases c : decide (atF tk p + 1 < lenAt tb p) with
      | true =>
        rw [if_pos rfl]
        exact ⟨f3, by rw [e4, e3, c]; rfl⟩
      | false =>
        rw [if_neg (by decide)]
        have e5 : canN tb tk ps = false := by
          rw [canN, List.all_eq_false]
          exact ⟨p, List.mem_of_getElem? ep, by rw [c]; decide⟩
        have := q H3 f3
        rw [e5] at this
        exact this
    · obtain ⟨f3, e3⟩ := f3
      rw [List.length_map, List.take_length] at e3
      have := q H3 f3
      rw [e3] at this
      exact this
end
end Rd

set_option Elab.async false
set_option linter.all false
set_option maxRecDepth 100000
set_option maxHeartbeats 4000000
namespace Rd
open PySem PySem.Spec PyProof.Rows L2 Dt
abbrev sBro : Stmt := topS 8
abbrev nBro : List Str := ["riddle", "filling", "number", "wish"]
theorem scBro : FnScope nBro ["riddle", "filling"] (defScope sBro) := ⟨rfl, rfl, rfl, by decide +kernel, rfl, by decide +kernel, by decide +kernel⟩
def spBro (Ps : List Addr) : Sp := fun vs H Q _ => ∃ (ri fa : Addr) (fs : List Int) (wds : List WD) (many hues : Int), vs = [.ref ri, .ref fa] ∧ IsRid H ri many hues wds ∧ H fa = some (.tup (fs.map V.int)) ∧ GoodF many hues fs ∧ GoodR many hues wds ∧ Tabs Ps H ∧
  ∀ H' t, FrS Ps H H' → H t = none → H' t = some (.lst ((broL fs wds wds.length).map V.int)) → Q (.ref t) H'
theorem ix_nat {n j : Nat} (hj : j < n) : ixN n (j : Int) = some j := by
  unfold ixN
  rw [if_pos (by omega), if_pos (by omega)]
  simp
structure TxtB5 (P : Program) (w : World) (K : PySem.W.Frag) (mg : Str → Option Value) (base : Heap) (Ps : List Addr) : Prop where
  m_enumerate : mg "enumerate" = none
  c_is_broken : Cal P w K mg base 4 "is_broken" ["wish", "filling"] (spIsB Ps)
section
variable {P : Program} {w : World} {K : PySem.W.Frag} {mg : Str → Option Value} {base : Heap}
theorem ok_bro {f : Addr} {Ps : List Addr} {fd : FuncData} {k : Nat} (F : Fun K "broken" "broken" sBro f fd) (T0 : TxtB5 P w K mg base Ps) : FnOk P w K mg base CX0 (k + 5) f fd ["riddle", "filling"] (spBro Ps) := by
  refine F.ok scBro (fun vs H Q E h => ?_) (fun cdv A outer s H vs Q E hr h => ?_)
  · obtain ⟨ri, fa, fs, wds, many, hues, rfl, _⟩ := h
    rfl
  · obtain ⟨ri, fa, fs, wds, many, hues, rfl, hrd, hf, gf, gr, hT, q⟩ := h
    refine ⟨_, (pss_one (ps_ret (pe_lc (own := [("number", 2), ("wish", 3)]) (g := gTup K 2 (gCons (gName 2) (gCons (gName 3) gNil))) rfl scBro.nd  (Et.pi_enumT (by rfl) T0.m_enumerate (pa_cons (pe_ix ix_tup (pv 0) pe_int (fun _ _ => rfl)) pa_nil)) (blkOk_by (own := [("number", 2), ("wish", 3)]) (N := nBro) (sc := defScope sBro) (by decide +kernel))
      (fun _ _ _ _ _ => (pg_tup rfl (pgs_cons (pg_name (i := 2) scBro.nd rfl (Or.inl rfl)) (pgs_cons (pg_name (i := 3) scBro.nd rfl (Or.inl rfl)) pgs_nil)))) (fun _ _ _ _ _ => pts_one (pt_val (pe_cal T0.c_is_broken (hr.mono (by omega)) (by rfl) (pa_cons (pv 3) (pa_cons (pv 1) pa_nil))))) (fun _ _ _ _ _ => (pv 2))))), ?_⟩
    obtain ⟨wt, was, h1, h2, h3⟩ := id hrd
    have hl : was.length = wds.length := pairedLen h3
    refine ⟨.ref ri, rfl, ri, _, 2, _, rfl, rfl, .inl (.inl h1), rfl, wt, was.map V.ref, rfl, .inl (.inl h2), fun D nD => ?_⟩
    refine Et.lc_enumT (K := K) (a := wt) (xs := was.map V.ref) (fun i H3 => FrS Ps H H3 ∧ H3 D = some (.lst ((broL fs wds i).map V.int))) ⟨FrS.of hT (same_upd nD), upd_same⟩ (fun i H3 _ p => .inl (.inl (p.1.tups hT _ _ h2))) (fun i x H3 T hx p nT => ?_) (fun H3 p => ?_)
    · obtain ⟨fr, hD⟩ := p
      rw [List.getElem?_map] at hx
      cases ew : was[i]? with
      | none => rw [ew] at hx; cases hx
      | some wa =>
        rw [ew] at hx
        cases hx
        obtain ⟨wd, hwd, isw⟩ := pairedGetL h3 ew
        have gw := gr.each wd (List.mem_of_getElem? hwd)
        have hi : i < was.length := (List.getElem?_eq_some_iff.mp ew).1
        have nDP : D ∉ Ps := hT.new nD
        have sT := same_upd (o := .tup [.int (i : Nat), .ref wa]) nT
        have fr2 : FrS Ps H (upd H3 T (.tup [.int (i : Nat), .ref wa])) := fr.same sT
        refine ⟨T, [.int i, .ref wa], rfl, .inl (.inl upd_same), rfl, .int i, [.ref wa], rfl, .ref wa, [], rfl, rfl, rfl, ?_⟩
        refine ⟨.ref wa, rfl, .ref fa, rfl, wa, fa, fs, wd, many, hues, rfl, isw.mono (fr2.tups hT), fr2.tups hT _ _ hf, gf, gw, gr.m6, gr.h4, fr2.2, fun H4 fr3 => ⟨_, rfl, ?_⟩⟩
        have fr4 := fr2.trans fr3
        have hD4 : H4 D = some (.lst ((broL fs wds i).map V.int)) := fr3.1 D _ nDP (sT _ _ hD)
        have eb := brkAt_of (fs := fs) hwd
        refine ite2 (fun e => ?_) (fun e => ?_)
        · refine ⟨.int i, rfl, _, hD4, ?_, fr4.put nD nDP, ?_⟩
          · rw [List.length_map]
            have := broL_len fs wds i
            have := gr.eight
            exact small1000 (by omega)
          · rw [upd_same, broL_yes (eb.trans e), List.map_append]
            rfl
        · refine ⟨fr4, ?_⟩
          rw [broL_no (eb.trans (by simpa using e))]
          exact hD4
    · obtain ⟨fr, hD⟩ := p
      rw [List.length_map, hl] at hD
      exact q H3 D fr nD hD
end
end Rd

set_option autoImplicit false
set_option Elab.async false
set_option linter.all false
set_option maxRecDepth 100000
set_option maxHeartbeats 4000000
namespace Rd
open PySem PySem.Spec PyProof.Rows L2 Dt
theorem sqB_seqs {Ps : List Addr} {k : Bool} {K : PySem.W.Frag} {H H' : Hp} {a : Addr} {xs : List V} (hT : Tabs Ps H) (f : FrS Ps H H') (h : (k = true ∧ H a = some (.lst xs)) ∨ (k = false ∧ H a = some (.tup xs))) : sqB k K H' a xs := by
  rcases h with ⟨rfl, h⟩ | ⟨rfl, h⟩
  · exact .inl (.inl ((f.seqs hT).2 _ _ h))
  · exact .inl (.inl ((f.seqs hT).1 _ _ h))
/-- a list or a tuple of whole numbers -/
def IsSq (k : Bool) (H : Hp) (a : Addr) (xs : List V) : Prop := (k = true ∧ H a = some (.lst xs)) ∨ (k = false ∧ H a = some (.tup xs))
def spStaE (Ps : List Addr) : Sp := fun vs H Q _ => ∃ (k : Bool) (ta ka : Addr) (tb : List (List Int)) (tk : List Int), vs = [.ref ta, .ref ka] ∧ IsTab (fun _ => False) H ta tb ∧ IsSq k H ka (tk.map V.int) ∧ GoodK tb tk ∧ tb.length ≤ 1000 ∧ Tabs Ps H ∧
  ∀ H' t, FrS Ps H H' → H t = none → H' t = some (.tup ((stand tb tk).map V.int)) → Q (.ref t) H'
def spHnxE (Ps : List Addr) : Sp := fun vs H Q _ => ∃ (k : Bool) (ta ka pa : Addr) (tb : List (List Int)) (tk ps : List Int), vs = [.ref ta, .ref ka, .ref pa] ∧ IsTab (fun _ => False) H ta tb ∧ IsSq k H ka (tk.map V.int) ∧ tk.length = tb.length ∧ IsPl H pa ps ∧ (∀ p ∈ ps, 0 ≤ p ∧ p < (tb.length : Int)) ∧ Tabs Ps H ∧
  ∀ H', FrS Ps H H' → Q (.bl (canN tb tk ps)) H'
section
variable {P : Program} {w : World} {K : PySem.W.Frag} {mg : Str → Option Value} {base : Heap}
theorem ok_staE {f c Pt : Addr} {Ps : List Addr} {fd : FuncData} {k : Nat} (F : FunC K "standing" "standing" sSta f fd (.ref c)) (TB : GxR.TabB base mg c Pt) (hP : Pt ∈ Ps) (T : TxtN mg) : FnOk P w K mg base CX0 (k + 3) f fd ["table", "taken"] (spStaE Ps) := by
  refine F.ok scSta (fun vs H Q E h => ?_) (fun A outer s H vs Q E hr h => ?_)
  · obtain ⟨kd, ta, ka, tb, tk, rfl, _⟩ := h
    rfl
  · obtain ⟨kd, ta, ka, tb, tk, rfl, ht, hk, gk, hl, hT, q⟩ := h
    refine ⟨_, (pss_one (ps_ret (Gx.pe_tupX (own := [("draws", 2), ("beyond", 3)]) (g := gTup K 2 (gCons (gName 2) (gCons (gName 3) gNil))) (te := tOp (rIxL K) (tVar 2) (tVar 3)) hr (by rfl) T.m_tuple rfl scSta.nd TB rfl (blkOk_by (own := [("draws", 2), ("beyond", 3)]) (N := nSta) (sc := defScope sSta) (by decide +kernel)) ⟨rfl, by decide +kernel, rfl⟩ (pi_zipM (by rfl) T.m_zip (pa_cons (pv 0) (pa_cons (pv 1) pa_nil)))
   (fun _ _ _ _ _ _ hA => (pg_tup rfl (pgs_cons (pg_name (i := 2) scSta.nd rfl (Or.inl rfl)) (pgs_cons (pg_name (i := 3) scSta.nd rfl (Or.inl rfl)) pgs_nil)))) (fun _ _ _ _ _ _ hA => pts_nil) (fun _ _ _ _ _ _ hA => (pe_ix ix_list (pv 2) (pv 3) (fun _ _ => rfl)))))), ?_⟩
    obtain ⟨das, h1, _, _, pr⟩ := id ht
    have dl := pairedLen pr
    have kl := gk.len
    refine ⟨.ref ta, rfl, .ref ka, rfl, true, kd, ta, ka, das.map V.ref, tk.map V.int, rfl, .inl (.inl h1), sqB_seqs hT (FrS.refl hT) hk, hT _ hP, fun H2 tb2 => ?_⟩
    have f2 := FrS.one hT hP tb2
    refine Gx.tup_zipM (K := K) (k1 := true) (k2 := kd) (a := ta) (b := ka) (xs := das.map V.ref) (ys := tk.map V.int) (by rw [List.length_map, List.length_map]; omega) (by rw [List.length_map]; exact Nat.le_of_lt (small1000 (by omega))) (fun i ys H3 => FrS Ps H H3 ∧ ys = ((stand tb tk).take i).map V.int) ⟨f2, rfl⟩ (fun i ys H3 f3 => ⟨.inl (.inl ((f3.1.seqs hT).2 _ _ h1)), sqB_seqs hT f3.1 hk⟩) (fun i ys H3 f3 => ?_) (fun i x y T ys H3 hx hy f3 nT => ?_) (fun ys H3 f3 => ?_)
    · rw [f3.2, List.length_map, List.length_take]
      omega
    · obtain ⟨d, ed, rfl⟩ := map_get hx
      obtain ⟨n, en, rfl⟩ := map_get hy
      obtain ⟨f3, rfl⟩ := f3
      obtain ⟨ds, eds, hd⟩ := pairedGetL pr ed
      have hi : i < tb.length := (List.getElem?_eq_some_iff.mp eds).1
      have a := gk.at_ i hi
      have e1 : tb.getD i [] = ds := by rw [List.getD_eq_getElem?_getD, eds]; rfl
      have e2 : tk.getD i 0 = n := by rw [List.getD_eq_getElem?_getD, en]; rfl
      rw [e1, e2] at a
      have sT := same_upd (o := .tup [.ref d, .int n]) nT
      have f4 := f3.same sT
      refine ⟨T, _, rfl, .inl (.inl upd_same), rfl, .ref d, [.int n], rfl, .int n, [], rfl, rfl, rfl, yes_if ?_⟩
      refine ⟨.ref d, rfl, .int n, rfl, d, _, n, _, rfl, rfl, .inl (.inl ((f4.seqs hT).2 _ _ hd)), atI_of a.1 (atT a.1 a.2), f4, ?_⟩
      rw [take_snoc (stand_get gk hi), e1, e2, List.map_append]
      rfl
    · obtain ⟨f3, rfl⟩ := f3
      rw [List.length_map, List.take_of_length_le (by rw [stand_len gk]; omega)]
      exact fun t nt => q _ t (f3.same (same_upd nt)) (f3.free nt) upd_same
theorem ok_hnxE {f c Pt : Addr} {Ps : List Addr} {fd : FuncData} {k : Nat} (F : FunC K "have_next" "have_next" sHnx f fd (.ref c)) (TB : GxR.TabB base mg c Pt) (hP : Pt ∈ Ps) (T : TxtN mg) : FnOk P w K mg base CX0 (k + 2) f fd ["table", "taken", "places"] (spHnxE Ps) := by
  refine F.ok scHnx (fun vs H Q E h => ?_) (fun A outer s H vs Q E hr h => ?_)
  · obtain ⟨kd, ta, ka, pa, tb, tk, ps, rfl, _⟩ := h
    rfl
  · obtain ⟨kd, ta, ka, pa, tb, tk, ps, rfl, ht, hk, kl, hp, hpl, hT, q⟩ := h
    refine ⟨_, (pss_one (ps_ret (Gx.pe_allX (own := [("place", 3)]) (te := tOp (rI0 fun i j => .bl (decide (i < j))) (tOp (rI0 fun i j => .int (i + j)) (tOp (rIxE K) (tVar 1) (tVar 3)) (tC (.int 1))) (tCB (rLen K) (tCons (tOp (rIxL K) (tVar 0) (tVar 3)) tNil))) hr (by rfl) T.m_all rfl scHnx.nd TB rfl (blkOk_by (own := [("place", 3)]) (N := nHnx) (sc := defScope sHnx) (by decide +kernel)) ⟨rfl, by decide +kernel, rfl⟩ (pi_tup (pv 2))
   (fun _ _ _ _ _ _ hA => (pg_name (i := 3) scHnx.nd rfl (Or.inl rfl))) (fun _ _ _ _ _ _ hA => pts_nil) (fun _ _ _ _ _ _ hA => (pe_cmpR op_lt (pe_op op_add (pe_ix ix_seqE (pv 1) (pv 3) (fun _ _ => rfl)) pe_int) (pe_callB call_len_seq (by rfl) T.m_len (by decide +kernel) (pa_cons (pe_ix ix_list (pv 0) (pv 3) (fun _ _ => rfl)) pa_nil)) (nomark _)))))), ?_⟩
    obtain ⟨das, h1, _, _, pr⟩ := id ht
    have dl := pairedLen pr
    refine ⟨.ref pa, rfl, pa, rfl, ⟨_, hp.sq⟩, hT _ hP, fun H2 tb2 => ?_⟩
    have f2 := FrS.one hT hP tb2
    refine Gx.all_tup (K := K) (a := pa) (xs := ps.map V.int) (fun i H3 => FrS Ps H H3 ∧ canN tb tk (ps.take i) = true) ⟨f2, rfl⟩ (fun i H3 _ f3 => (hp.mono (f3.1.tups hT)).sq) (fun i x H3 hx f3 => ?_) (fun H3 f3 => ?_)
    · obtain ⟨p, ep, rfl⟩ := map_get hx
      obtain ⟨f3, e3⟩ := f3
      have hpp := hpl p (List.mem_of_getElem? ep)
      have hpn : p.toNat < das.length := by omega
      obtain ⟨ds, eds, hd⟩ := pairedGetL pr (List.getElem?_eq_getElem hpn)
      have sq := f3.seqs hT
      have e1 : lenAt tb p = (ds.length : Int) := by rw [lenAt, List.getD_eq_getElem?_getD, eds]; rfl
      refine ⟨rfl, yes_if ?_⟩
      refine ⟨.ref ka, rfl, .int p, rfl, kd, ka, _, p, _, rfl, rfl, sqB_seqs hT f3 hk, atI_of hpp.1 (atT hpp.1 (by omega)), _, _, rfl, rfl, .ref ta, rfl, .int p, rfl, ta, _, p, _, rfl, rfl, .inl (.inl (sq.2 _ _ h1)), atI_of hpp.1 (List.getElem?_eq_getElem hpn), _, _, rfl, .inl (.inl (.inl (sq.2 _ _ hd))), _, _, rfl, rfl, _, rfl, ?_⟩
      have e4 : canN tb tk (ps.take (i + 1)) = (canN tb tk (ps.take i) && decide (atF tk p + 1 < lenAt tb p)) := by
        rw [take_snoc ep, canN, canN, List.all_append]
        simp
      rw [List.length_map, ← e1]
      cases c : decide (atF tk p + 1 < lenAt tb p) with
      | true =>
        rw [if_pos rfl]
        exact ⟨f3, by rw [e4, e3, c]; rfl⟩
      | false =>
        rw [if_neg (by decide)]
        have e5 : canN tb tk ps = false := by
          rw [canN, List.all_eq_false]
          exact ⟨p, List.mem_of_getElem? ep, by rw [c]; decide⟩
        have := q H3 f3
        rw [e5] at this
        exact this
    · obtain ⟨f3, e3⟩ := f3
      rw [List.length_map, List.take_length] at e3
      have := q H3 f3
      rw [e3] at this
      exact this
end
end Rd

set_option autoImplicit false
set_option Elab.async false
set_option linter.all false
set_option maxRecDepth 100000
set_option maxHeartbeats 4000000
namespace Rd
open PySem PySem.Spec PyProof.Rows L2 Dt
abbrev sTko : Stmt := topS 20
abbrev nTko : List Str := ["taken", "places", "place", "beyond"]
theorem scTko : FnScope nTko ["taken", "places"] (defScope sTko) := ⟨rfl, rfl, rfl, by decide +kernel, rfl, by decide +kernel, by decide +kernel⟩
abbrev sMds : Stmt := topS 21
abbrev nMds : List Str := ["riddle", "table", "taken", "wishes", "number"]
theorem scMds : FnScope nMds ["riddle", "table", "taken"] (defScope sMds) := ⟨rfl, rfl, rfl, by decide +kernel, rfl, by decide +kernel, by decide +kernel⟩
theorem layIF : ∀ ns : List Int, PyData.canLayAll0 (ns.map PyData.int) = true
  | [] => rfl
  | _ :: r => by
    rw [List.map_cons]
    show (true && PyData.canLayAll0 (r.map PyData.int)) = true
    rw [layIF r]
    rfl
theorem depIF : ∀ ns : List Int, PyData.depthAll (ns.map PyData.int) ≤ 1
  | [] => by simp [PyData.depthAll]
  | _ :: r => by
    have := depIF r
    rw [List.map_cons]
    simp only [PyData.depthAll, PyData.depth]
    omega
theorem shpTup (ns : List Int) : SeqAt.shaped (.tuple (ns.map PyData.int)) = true := by
  have a := depIF ns
  have d : PyData.depth (.tuple (ns.map PyData.int)) ≤ 64 := by
    simp only [PyData.depth]
    omega
  have l : PyData.canLay0 (.tuple (ns.map PyData.int)) = true := by
    simp only [PyData.canLay0]
    exact layIF ns
  show (PyData.canLay0 (.tuple (ns.map PyData.int)) && decide (PyData.depth (.tuple (ns.map PyData.int)) ≤ 64)) = true
  rw [l, decide_eq_true d]
  rfl
theorem shpInt (i : Int) : SeqAt.shaped (.int i) = true := rfl
/-- one draw more at each of these places -/
def bumpM (tk ps : List Int) : List Int := (List.range tk.length).map fun (i : Nat) => if (i : Int) ∈ ps then tk.getD i 0 + 1 else tk.getD i 0
theorem bumpM_len (tk ps : List Int) : (bumpM tk ps).length = tk.length := by
  unfold bumpM
  rw [List.length_map, List.length_range]
/-- the mendings that may be next, and where they lead -/
def mendM (wds : List WD) (tb : List (List Int)) (tk : List Int) : List (Int × List Int) := ((broL (stand tb tk) wds wds.length).filter fun k => canN tb tk (plc wds k)).map fun k => (k, bumpM tk (plc wds k))
def IsMd (H : Hp) (m : Addr) (x : Int × List Int) : Prop := ∃ t, H m = some (.tup [.int x.1, .ref t]) ∧ H t = some (.tup (x.2.map V.int))
theorem IsMd.mono {H H' : Hp} {m : Addr} {x : Int × List Int} (t : Tups H H') (h : IsMd H m x) : IsMd H' m x := by
  obtain ⟨a, h1, h2⟩ := h
  exact ⟨a, t _ _ h1, t _ _ h2⟩
def spTko (Ps : List Addr) : Sp := fun vs H Q _ => ∃ (ka pa : Addr) (tk ps : List Int), vs = [.ref ka, .ref pa] ∧ H ka = some (.tup (tk.map V.int)) ∧ IsPl H pa ps ∧ tk.length ≤ 999 ∧ ps.length ≤ 999 ∧ Tabs Ps H ∧
  ∀ H' t, FrS Ps H H' → H t = none → H' t = some (.tup ((bumpM tk ps).map V.int)) → Q (.ref t) H'
def spMds (Ps : List Addr) : Sp := fun vs H Q _ => ∃ (ri ta ka : Addr) (wds : List WD) (many hues : Int) (tb : List (List Int)) (tk : List Int), vs = [.ref ri, .ref ta, .ref ka] ∧ IsRid H ri many hues wds ∧ GoodR many hues wds ∧ IsTab (fun _ => False) H ta tb ∧ H ka = some (.tup (tk.map V.int)) ∧ GoodK tb tk ∧ GoodF many hues (stand tb tk) ∧ (tb.length : Int) = many ∧ Tabs Ps H ∧
  ∀ H' l ms, FrS Ps H H' → H l = none → H' l = some (.lst (ms.map V.ref)) → Paired (IsMd H') ms (mendM wds tb tk) → Q (.ref l) H'
structure TxtTko (mg : Str → Option Value) : Prop where
  m_tuple : mg "tuple" = none
  m_enumerate : mg "enumerate" = none
structure TxtMds (P : Program) (w : World) (K : PySem.W.Frag) (mg : Str → Option Value) (base : Heap) (Ps : List Addr) : Prop where
  c_broken : Cal P w K mg base 5 "broken" ["riddle", "filling"] (spBro Ps)
  c_standing : Cal P w K mg base 3 "standing" ["table", "taken"] (spStaE Ps)
  c_have_next : Cal P w K mg base 2 "have_next" ["table", "taken", "places"] (spHnxE Ps)
  c_taken_on : Cal P w K mg base 3 "taken_on" ["taken", "places"] (spTko Ps)
section
variable {P : Program} {w : World} {K : PySem.W.Frag} {mg : Str → Option Value} {base : Heap}
theorem ok_tko {f c Pt : Addr} {Ps : List Addr} {fd : FuncData} {k : Nat} (F : FunC K "taken_on" "taken_on" sTko f fd (.ref c)) (TB : GxR.TabB base mg c Pt) (hP : Pt ∈ Ps) (T : TxtTko mg) : FnOk P w K mg base CX0 (k + 3) f fd ["taken", "places"] (spTko Ps) := by
  refine F.ok scTko (fun vs H Q E h => ?_) (fun A outer s H vs Q E hr h => ?_)
  · obtain ⟨ka, pa, tk, ps, rfl, _⟩ := h
    rfl
  · obtain ⟨ka, pa, tk, ps, rfl, hk, hp, kl, pl, hT, q⟩ := h
    refine ⟨_, (pss_one (ps_ret (Gx.pe_tupX (own := [("place", 2), ("beyond", 3)]) (g := gTup K 2 (gCons (gName 2) (gCons (gName 3) gNil))) (te := tIf (tTest (tOp (Dt.rInT K) (tVar 2) (tVar 1))) (tOp (rI0 fun i j => .int (i + j)) (tVar 3) (tC (.int 1))) (tVar 3)) hr (by rfl) T.m_tuple rfl scTko.nd TB rfl (blkOk_by (own := [("place", 2), ("beyond", 3)]) (N := nTko) (sc := defScope sTko) (by decide +kernel)) ⟨rfl, by decide +kernel, rfl⟩ (Et.pi_enumT (by rfl) T.m_enumerate (pa_cons (pv 0) pa_nil))
   (fun _ _ _ _ _ _ hA => (pg_tup rfl (pgs_cons (pg_name (i := 2) scTko.nd rfl (Or.inl rfl)) (pgs_cons (pg_name (i := 3) scTko.nd rfl (Or.inl rfl)) pgs_nil)))) (fun _ _ _ _ _ _ hA => pts_nil) (fun _ _ _ _ _ _ hA => (pe_ifExp (pt_cmpR (Dt.op_inT (units65 hA)) (pv 2) (pv 1) (by rfl)) (pe_op op_add (pv 3) pe_int) (pv 3)))))), ?_⟩
    refine ⟨.ref ka, rfl, ka, _, rfl, .inl (.inl hk), hT _ hP, fun H2 tb2 => ?_⟩
    have f2 := FrS.one hT hP tb2
    refine Gx.tup_enumT (K := K) (a := ka) (xs := tk.map V.int) (by rw [List.length_map]; exact Nat.le_of_lt (small1000 (by omega))) (fun i zs H3 => FrS Ps H H3 ∧ zs = ((bumpM tk ps).take i).map V.int) ⟨f2, rfl⟩ (fun i zs H3 p => .inl (.inl (p.1.tups hT _ _ hk))) (fun i zs H3 p => ?_) (fun i x Tt zs H3 hx p nT => ?_) (fun zs H3 p => ?_)
    · rw [p.2, List.length_map, List.length_take]
      omega
    · obtain ⟨b, eb, rfl⟩ := map_get hx
      obtain ⟨f3, rfl⟩ := p
      have il := (List.getElem?_eq_some_iff.mp eb).1
      have f4 := f3.same (same_upd (o := .tup [.int ((i : Nat) : Int), .int b]) nT)
      refine ⟨Tt, _, rfl, .inl (.inl upd_same), rfl, .int _, [.int b], rfl, .int b, [], rfl, rfl, rfl, yes_if ?_⟩
      refine ⟨.int _, rfl, .ref pa, rfl, .int ((i : Nat) : Int), ps.map .int, .int _, .tup (hp.mono (f4.tups hT)).sq (dpInts _), ?_, ?_, _, rfl, ?_⟩
      · exact shpInt _
      · exact shpTup _
      · rw [Gv.any_ints]
        have e1 : (bumpM tk ps)[i]? = some (if ((i : Nat) : Int) ∈ ps then b + 1 else b) := by
          unfold bumpM
          rw [List.getElem?_map, List.getElem?_range il]
          have e2 : tk.getD i 0 = b := by rw [List.getD_eq_getElem?_getD, eb]; rfl
          show some (if ((i : Nat) : Int) ∈ ps then tk.getD i 0 + 1 else tk.getD i 0) = _
          rw [e2]
        rw [take_snoc e1]
        by_cases c : ((i : Nat) : Int) ∈ ps
        · dsimp only
          rw [if_pos (decide_eq_true c), if_pos c]
          refine ⟨.int b, rfl, b, 1, rfl, rfl, f4, ?_⟩
          rw [List.map_append]
          rfl
        · dsimp only
          rw [if_neg (by rw [decide_eq_false c]; decide), if_neg c]
          refine ⟨.int b, rfl, f4, ?_⟩
          rw [List.map_append]
          rfl
    · obtain ⟨f3, rfl⟩ := p
      rw [List.length_map, List.take_of_length_le (by rw [bumpM_len]; exact Nat.le_refl _)]
      exact fun t nt => q _ t (f3.same (same_upd nt)) (f3.free nt) upd_same
theorem ok_mds {f : Addr} {Ps : List Addr} {fd : FuncData} {k : Nat} (F : Fun K "mendings" "mendings" sMds f fd) (T : TxtMds P w K mg base Ps) : FnOk P w K mg base CX0 (k + 6) f fd ["riddle", "table", "taken"] (spMds Ps) := by
  refine F.ok scMds (fun vs H Q E h => ?_) (fun cdv A outer s H vs Q E hr h => ?_)
  · obtain ⟨ri, ta, ka, wds, many, hues, tb, tk, rfl, _⟩ := h
    rfl
  · obtain ⟨ri, ta, ka, wds, many, hues, tb, tk, rfl, hrd, g, htb, hk, gk, gf, tl, hT, q⟩ := h
    refine ⟨_, (pss_cons (ps_set (i := 3) scMds.nd rfl (Or.inr rfl) (pe_ix ix_tup (pv 0) pe_int (fun _ _ => rfl)))
  (pss_one (ps_ret (pe_lc (tt := tB (tCall (spHnxE Ps) [] E0 (tCons (tVar 1) (tCons (tVar 2) (tCons (tOp (rIxT K) (tOp (rIxT K) (tVar 3) (tVar 4)) (tC (.int 0))) tNil))))) (te := tTup (tCons (tVar 4) (tCons (tCall (spTko Ps) [] E0 (tCons (tVar 2) (tCons (tOp (rIxT K) (tOp (rIxT K) (tVar 3) (tVar 4)) (tC (.int 0))) tNil))) tNil))) (own := [("number", 4)]) rfl scMds.nd  (pi_list (pe_cal T.c_broken (hr.mono (by omega)) (by rfl) (pa_cons (pv 0) (pa_cons (pe_cal T.c_standing (hr.mono (by omega)) (by rfl) (pa_cons (pv 1) (pa_cons (pv 2) pa_nil))) pa_nil)))) (blkOk_by (own := [("number", 4)]) (N := nMds) (sc := defScope sMds) (by decide +kernel))
   (fun _ _ _ _ _ => (pg_name (i := 4) scMds.nd rfl (Or.inl rfl))) (fun _ _ _ _ _ => pts_one (pt_val (pe_cal T.c_have_next (hr.mono (by omega)) (by rfl) (pa_cons (pv 1) (pa_cons (pv 2) (pa_cons (pe_ix ix_tup (pe_ix ix_tup (pv 3) (pv 4) (fun _ _ => rfl)) pe_int (fun _ _ => rfl)) pa_nil)))))) (fun _ _ _ _ _ => (pe_tup (pa_cons (pv 4) (pa_cons (pe_cal T.c_taken_on (hr.mono (by omega)) (by rfl) (pa_cons (pv 2) (pa_cons (pe_ix ix_tup (pe_ix ix_tup (pv 3) (pv 4) (fun _ _ => rfl)) pe_int (fun _ _ => rfl)) pa_nil))) pa_nil)))))))), ?_⟩
    obtain ⟨wt, was, i1, i2, i3⟩ := id hrd
    have wl := pairedLen i3
    have m6 := g.m6
    have e8 := g.eight
    refine ⟨.ref ri, rfl, ri, _, 2, _, rfl, rfl, .inl (.inl i1), rfl, ?_⟩
    refine ⟨.ref ri, rfl, .ref ta, rfl, .ref ka, rfl, false, ta, ka, tb, tk, rfl, htb, .inr ⟨rfl, hk⟩, gk, by omega, hT, fun H1 fa f1 nfa hfa => ?_⟩
    refine ⟨ri, fa, _, wds, many, hues, rfl, hrd.mono (f1.tups hT), hfa, gf, g, f1.2, fun H2 lb f2 nlb hlb => ?_⟩
    have F2 := f1.trans f2
    have hT2 := F2.2
    have blm : ∀ n ∈ broL (stand tb tk) wds wds.length, 0 ≤ n ∧ n < (wds.length : Int) := fun n hn => broL_mem hn
    have bll := broL_len (stand tb tk) wds wds.length
    obtain ⟨bl, ebl⟩ : ∃ bl, bl = broL (stand tb tk) wds wds.length := ⟨_, rfl⟩
    rw [← ebl] at hlb blm bll
    refine ⟨lb, rfl, ⟨_, .inl (.inl hlb)⟩, fun L nL => ?_⟩
    have nLP := hT2.new nL
    refine lc_list (K := K) (a := lb) (xs := bl.map V.int) (fun i H3 => FrS Ps H2 H3 ∧ ∃ ms : List Addr, H3 L = some (.lst (ms.map V.ref)) ∧ ms.length ≤ i ∧ Paired (IsMd H3) ms (((bl.take i).filter fun k => canN tb tk (plc wds k)).map fun k => (k, bumpM tk (plc wds k)))) ⟨FrS.of hT2 (same_upd nL), [], upd_same, Nat.le_refl _, .nil⟩ (fun i H3 _ p => .inl (.inl ((p.1.seqs hT2).2 _ _ hlb))) (fun i x H3 hx p => ?_) (fun H3 p => ?_)
    · obtain ⟨n, en, rfl⟩ := map_get hx
      obtain ⟨f3, ms, hL, ml, pm⟩ := p
      have il := (List.getElem?_eq_some_iff.mp en).1
      obtain ⟨n0, n1⟩ := blm n (List.mem_of_getElem? en)
      have nl : n.toNat < wds.length := by omega
      obtain ⟨wa, ewa, isw⟩ := pairedGet i3 (List.getElem?_eq_getElem nl)
      have gd := g.each _ (List.getElem_mem nl)
      have ep : plc wds n = wds[n.toNat].1 := by
        unfold plc
        rw [List.getD_eq_getElem?_getD, List.getElem?_eq_getElem nl]
        rfl
      obtain ⟨pa, ra, rs, w1, w2, w3, w4⟩ := id isw
      have p3 := gd.three
      have F3 := F2.trans f3
      have t3 := F3.tups hT
      have sq3 := F3.seqs hT
      have hpl : ∀ p ∈ wds[n.toNat].1, 0 ≤ p ∧ p < (tb.length : Int) := fun p hp => by
        have := gd.pl p hp
        omega
      have htb3 : IsTab (fun _ => False) H3 ta tb := htb.mono fun b xs _ e => sq3.2 _ _ e
      refine ⟨rfl, .ref ta, rfl, .ref ka, rfl, .ref wt, rfl, .int n, rfl, wt, _, n, .ref wa, rfl, rfl, .inl (.inl (t3 _ _ i2)), atI_of n0 ewa, wa, _, 0, .ref pa, rfl, rfl, .inl (.inl (t3 _ _ w1)), rfl, false, ta, ka, pa, tb, tk, wds[n.toNat].1, rfl, htb3, .inr ⟨rfl, t3 _ _ hk⟩, gk.len, w2.mono t3, hpl, F3.2, fun H4 f4 => ⟨_, rfl, ?_⟩⟩
      have et : ((bl.take (i + 1)).filter fun k => canN tb tk (plc wds k)).map (fun k => (k, bumpM tk (plc wds k))) = ((bl.take i).filter fun k => canN tb tk (plc wds k)).map (fun k => (k, bumpM tk (plc wds k))) ++ ([n].filter fun k => canN tb tk (plc wds k)).map (fun k => (k, bumpM tk (plc wds k))) := by
        rw [take_snoc en, List.filter_append, List.map_append]
      have F4 := F3.trans f4
      have t4 := F4.tups hT
      have hL4 := f4.1 L _ nLP hL
      cases c : canN tb tk wds[n.toNat].1 with
      | true =>
        dsimp only
        rw [if_pos rfl]
        refine ⟨.int n, rfl, .ref ka, rfl, .ref wt, rfl, .int n, rfl, wt, _, n, .ref wa, rfl, rfl, .inl (.inl (t4 _ _ i2)), atI_of n0 ewa, wa, _, 0, .ref pa, rfl, rfl, .inl (.inl (t4 _ _ w1)), rfl, ka, pa, tk, wds[n.toNat].1, rfl, t4 _ _ hk, w2.mono t4, by have := gk.len; omega, by omega, F4.2, fun H5 t f5 nt ht => ⟨(by show 2 ≤ sizeLine; decide), fun m nm => ?_⟩⟩
        have hL5 := f5.1 L _ nLP hL4
        have sm := same_upd (o := .tup [.int n, .ref t]) nm
        have F5 := ((f3.trans f4).trans f5).same sm
        have tu : Tups (upd H5 m (.tup [.int n, .ref t])) (upd (upd H5 m (.tup [.int n, .ref t])) L (.lst (ms.map V.ref ++ [.ref m]))) := tups_lst (sm _ _ hL5)
        refine ⟨ms.map V.ref, sm _ _ hL5, ?_, F5.put nL nLP, ms ++ [m], ?_, ?_, ?_⟩
        · rw [List.length_map]
          exact small1000 (by omega)
        · rw [upd_same, List.map_append]
          rfl
        · rw [List.length_append]
          show ms.length + 1 ≤ i + 1
          omega
        · rw [et, List.filter_cons, ep, c]
          refine pairedSnoc (pairedMap (fun _ _ e => IsMd.mono tu (IsMd.mono (((f4.trans f5).same sm).tups F3.2) e)) pm) ⟨t, tu _ _ upd_same, ?_⟩
          show upd _ L _ t = some (.tup ((bumpM tk (plc wds n)).map V.int))
          rw [ep]
          exact tu _ _ (sm _ _ ht)
      | false =>
        dsimp only
        rw [if_neg (by decide)]
        refine ⟨f3.trans f4, ms, hL4, by omega, ?_⟩
        rw [et, List.filter_cons, ep, c]
        show Paired _ ms (_ ++ [])
        rw [List.append_nil]
        exact pairedMap (fun _ _ e => IsMd.mono (f4.tups F3.2) e) pm
    · obtain ⟨f3, ms, hL, ml, pm⟩ := p
      rw [List.length_map, List.take_length, ebl] at pm
      exact q H3 L ms (F2.trans f3) (F2.free nL) hL pm
end
end Rd

set_option Elab.async false
set_option linter.all false
set_option maxRecDepth 100000
set_option maxHeartbeats 4000000
namespace Rd
open PySem PySem.Spec PyProof.Rows L2 Dt
abbrev sAlf : Stmt := topS 9
abbrev nAlf : List Str := ["many", "hues", "begun", "place", "filling", "hue"]
theorem scAlf : FnScope nAlf ["many", "hues"] (defScope sAlf) := ⟨rfl, rfl, rfl, by decide +kernel, rfl, by decide +kernel, by decide +kernel⟩
abbrev sCla : Stmt := topS 10
abbrev nCla : List Str := ["one", "other", "place"]
theorem scCla : FnScope nCla ["one", "other"] (defScope sCla) := ⟨rfl, rfl, rfl, by decide +kernel, rfl, by decide +kernel, by decide +kernel⟩
abbrev sCls : Stmt := topS 11
abbrev nCls : List Str := ["riddle", "wishes", "wish", "number", "other"]
theorem scCls : FnScope nCls ["riddle"] (defScope sCls) := ⟨rfl, rfl, rfl, by decide +kernel, rfl, by decide +kernel, by decide +kernel⟩
def spAlf : Sp := fun vs H Q _ => ∃ (many hues : Int), vs = [.int many, .int hues] ∧ 0 ≤ many ∧ many ≤ 6 ∧ 0 ≤ hues ∧ hues ≤ 4 ∧
  ∀ H' l, Same H H' → H l = none → IsFills H' l (fillL hues.toNat many.toNat) → Q (.ref l) H'
def spCla (Ps : List Addr) : Sp := fun vs H Q _ => ∃ (wa wb : Addr) (a b : WD), vs = [.ref wa, .ref wb] ∧ IsWish H wa a ∧ IsWish H wb b ∧ Tabs Ps H ∧ ∀ H', FrS Ps H H' → Q (.bl (clB a b)) H'
/-- a list of new lists, each by itself -/
def IsLL (H H' : Hp) (l : Addr) (rows : List (List Int)) : Prop := ∃ ls : List Addr, H' l = some (.lst (ls.map V.ref)) ∧ Paired (fun la row => H' la = some (.lst (row.map V.int))) ls rows ∧ ls.Nodup ∧ l ∉ ls ∧ ∀ la ∈ ls, H la = none
def spCls (Ps : List Addr) : Sp := fun vs H Q _ => ∃ (ri : Addr) (wds : List WD) (many hues : Int), vs = [.ref ri] ∧ IsRid H ri many hues wds ∧ GoodR many hues wds ∧ Tabs Ps H ∧
  ∀ H' l, FrS Ps H H' → H l = none → IsLL H H' l (clsAll wds) → Q (.ref l) H'
structure TxtF (mg : Str → Option Value) : Prop where
  m_range : mg "range" = none
structure TxtY (mg : Str → Option Value) : Prop where
  m_any : mg "any" = none
structure TxtCs (P : Program) (w : World) (K : PySem.W.Frag) (mg : Str → Option Value) (base : Heap) (Ps : List Addr) : Prop where
  m_enumerate : mg "enumerate" = none
  c_clash : Cal P w K mg base 1 "clash" ["one", "other"] (spCla Ps)
section
variable {P : Program} {w : World} {K : PySem.W.Frag} {mg : Str → Option Value} {base : Heap}
set_option maxHeartbeats 16000000 in
theorem ok_alf {f : Addr} {fd : FuncData} {k : Nat} (F : Fun K "all_fillings" "all_fillings" sAlf f fd) (T : TxtF mg) : FnOk P w K mg base CX0 (k + 1) f fd ["many", "hues"] spAlf := by
  refine F.ok scAlf (fun vs H Q E h => ?_) (fun cdv A outer s H vs Q E hr h => ?_)
  · obtain ⟨many, hues, rfl, _⟩ := h
    rfl
  · obtain ⟨many, hues, rfl, m0, m6, h0, h4, q⟩ := h
    refine ⟨_, (pss_cons (ps_set (i := 2) scAlf.nd rfl (Or.inl rfl) (pe_lst (pa_cons (pe_tup pa_nil) pa_nil)))
  (pss_cons (ps_for PassesOwn.never rfl (pi_range1 (by rfl) T.m_range (pa_cons (pv 0) pa_nil)) (pg_name (i := 3) scAlf.nd rfl (Or.inl rfl))
  (pss_one (ps_setLc2 (i := 2) (te := tOp (rCatA K) (tVar 4) (tTup (tCons (tVar 5) tNil))) (own := [("filling", 4), ("hue", 5)]) (vs1 := [5]) rfl scAlf.nd rfl rfl (sw_true rfl rfl rfl (by decide +kernel)) (pi_list (pv 2)) (blkOk_by (own := [("filling", 4), ("hue", 5)]) (N := nAlf) (sc := defScope sAlf) (by decide +kernel)) (by decide)
   (fun _ _ _ _ _ => (pg_name (i := 4) scAlf.nd rfl (Or.inl rfl))) (fun _ _ _ _ _ => pts_nil) (fun _ _ _ _ _ => (pi_range1 (by rfl) T.m_range (pa_cons (pv 1) pa_nil))) (fun _ _ _ _ _ => (pg_name (i := 5) scAlf.nd rfl (Or.inl rfl))) (fun _ _ _ _ _ => pts_nil) (fun _ _ _ _ _ => (pe_op op_catA (pv 4) (pe_tup (pa_cons (pv 5) pa_nil)))))))
  (pss_one (ps_ret (pv 2))))), ?_⟩
    refine ⟨(by show 0 ≤ sizeLine; decide), fun t nt => ⟨(by show 1 ≤ sizeLine; decide), fun l nl => ?_⟩⟩
    have st := same_upd (o := .tup []) nt
    have sl := same_upd (o := .lst [.ref t]) nl
    refine ⟨.int many, rfl, many, rfl, by omega, by omega, for_range (lo := 0) (n := many.toNat) (fun i σ H3 => Same H H3 ∧ ∃ l, H l = none ∧ IsFills H3 l (fillL hues.toNat i) ∧ ∃ y3, σ = [some (.int many), some (.int hues), some (.ref l), y3, none, none]) ⟨st.trans sl, l, st.free nl, ⟨[t], upd_same, .cons (sl _ _ upd_same) .nil⟩, none, rfl⟩ (fun i σ H3 hi p => ?_) (fun σ H3 p => ?_)⟩
    · obtain ⟨sm, l, nl, ⟨as, hl, pr⟩, y3, rfl⟩ := p
      have flen := fill_len hues.toNat i
      have p4 : hues.toNat ^ i ≤ 4096 := pow_le_4096 (by omega) (by omega)
      have alen := pairedLen pr
      refine ⟨.ref l, rfl, l, rfl, ⟨_, .inl (.inl hl)⟩, fun D nD => Cp.lc2_list (K := K) (a := l) (xs := as.map V.ref) (fun i2 H5 => Same H3 H5 ∧ IsFills H5 D (((fillL hues.toNat i).take i2).flatMap (longer hues.toNat))) ⟨same_upd nD, [], upd_same, .nil⟩ (fun i2 H5 _ pp => .inl (.inl (pp.1 _ _ hl))) (fun i2 x H5 hx pp => ?_) (fun H5 pp => ?_)⟩
      · rw [List.getElem?_map] at hx
        cases ea : as[i2]? with
        | none => rw [ea] at hx; cases hx
        | some a =>
          rw [ea] at hx
          cases hx
          obtain ⟨fl, hfl, isr⟩ := pairedGetL pr ea
          have hi2 := (List.getElem?_eq_some_iff.mp ea).1
          obtain ⟨s5, fs5⟩ := pp
          refine ⟨rfl, yes_if ?_⟩
          refine ⟨.int hues, rfl, hues, rfl, by omega, by omega, ?_⟩
          dsimp only
          refine Cp.lcin_range (lo := 0) (n := hues.toNat) (fun j H6 => Same H3 H6 ∧ IsFills H6 D (((fillL hues.toNat i).take i2).flatMap (longer hues.toNat) ++ (longer hues.toNat fl).take j)) ⟨s5, by rw [List.take_zero, List.append_nil]; exact fs5⟩ (fun j H6 hj pp => ?_) (fun H6 pp => ?_)
          · obtain ⟨s6, bs, hb, pb⟩ := pp
            have blen := pairedLen pb
            have bound : bs.length ≤ 20000 := by
              rw [blen, List.length_append, flat_len, List.length_take, List.length_take, longer_len, flen]
              have : min i2 (hues.toNat ^ i) * hues.toNat ≤ 4096 * 4 := Nat.mul_le_mul (by omega) (by omega)
              omega
            have fin : ∀ (H7 : Hp) (r : Addr), Same H6 H7 → H7 r = some (.tup ((fl ++ [(j : Int)]).map V.int)) → ∃ acc, H7 D = some (.lst acc) ∧ acc.length < sizeLine ∧ (Same H3 (upd H7 D (.lst (acc ++ [.ref r]))) ∧ IsFills (upd H7 D (.lst (acc ++ [.ref r]))) D (((fillL hues.toNat i).take i2).flatMap (longer hues.toNat) ++ (longer hues.toNat fl).take (j + 1))) := fun H7 r s7 hr7 => by
              have hD7 := s7 _ _ hb
              have tu : Tups H7 (upd H7 D (.lst (bs.map V.ref ++ [.ref r]))) := tups_lst hD7
              refine ⟨_, hD7, ?_, fun b o e => ?_, bs ++ [r], ?_, ?_⟩
              · rw [List.length_map]
                exact Nat.lt_of_le_of_lt bound (by decide)
              · rw [upd_ne (ne_of_none e nD)]
                exact s7 _ _ (s6 b o e)
              · rw [upd_same, List.map_append]
                rfl
              · rw [take_snoc (longer_at fl hj), ← List.append_assoc]
                exact pairedSnoc (pairedMap (fun _ _ e => tu _ _ (s7 _ _ e)) pb) (tu _ _ hr7)
            refine ⟨rfl, yes_if ?_⟩
            refine ⟨.ref a, rfl, .int (0 + (j : Int)), rfl, (by show 1 ≤ sizeLine; decide), fun t nt => ?_⟩
            have sT := same_upd (o := .tup [.int (0 + (j : Int))]) nt
            have ha : upd H6 t (.tup [.int (0 + (j : Int))]) a = some (.tup (fl.map V.int)) := sT _ _ (s6 _ _ isr)
            have e0 : (0 : Int) + (j : Int) = j := Int.zero_add _
            have flen2 := (fill_good (List.mem_of_getElem? hfl)).1
            refine ⟨a, t, _, _, rfl, rfl, .inl (.inl ha), .inl (.inl upd_same), ?_, fun z => ?_, (fun _ z => nomatch z), fun z _ p np => ?_⟩
            · rw [List.length_map, flen2]
              exact Nat.le_of_lt (small1000 (by show i + 1 ≤ 1000; omega))
            · have z2 : fl = [] := List.map_eq_nil_iff.mp z
              refine fin _ t sT ?_
              rw [upd_same, z2, e0]
              rfl
            · have sp := same_upd (o := .tup (fl.map V.int ++ [.int (0 + (j : Int))])) np
              refine fin _ p (sT.trans sp) ?_
              rw [upd_same, e0, List.map_append]
              rfl
          · obtain ⟨s6, fs6⟩ := pp
            refine ⟨s6, ?_⟩
            rw [take_snoc hfl, List.flatMap_append]
            have e : (longer hues.toNat fl).take hues.toNat = [fl].flatMap (longer hues.toNat) := by
              rw [List.take_of_length_le (by rw [longer_len]; exact Nat.le_refl _)]
              simp
            rw [← e]
            exact fs6
      · obtain ⟨s5, fs5⟩ := pp
        refine ⟨sm.trans s5, D, sm.free nD, ?_, _, rfl⟩
        rw [List.length_map, alen, List.take_length] at fs5
        exact fs5
    · obtain ⟨sm, l, nl, fs, y3, rfl⟩ := p
      exact ⟨.ref l, rfl, q H3 l sm nl fs⟩
theorem ok_cla {f c Pc : Addr} {Ps : List Addr} {fd : FuncData} {k : Nat} (F : FunC K "clash" "clash" sCla f fd (.ref c)) (TB : GxR.TabB base mg c Pc) (hP : Pc ∈ Ps) (T : TxtY mg) : FnOk P w K mg base CX0 (k + 1) f fd ["one", "other"] (spCla Ps) := by
  refine F.ok scCla (fun vs H Q E h => ?_) (fun A outer s H vs Q E hr h => ?_)
  · obtain ⟨wa, wb, a, b, rfl, _⟩ := h
    rfl
  · obtain ⟨wa, wb, a, b, rfl, ha, hb, hT, q⟩ := h
    refine ⟨_, pss_one (ps_ret (Gv.pe_anyG (x := "place") hr (by rfl) T.m_any TB rfl ⟨rfl, rfl, by decide +kernel, rfl, rfl, fun y hy e => ?_⟩ (pe_ix ix_tup (pv 0) pe_int (fun _ _ => rfl)) (fun _ => rfl))), ?_⟩
    · match y, hy, e with
      | _, .head _, e => exact nomatch e
      | _, .tail _ (.head _), e => exact nomatch e
      | _, .tail _ (.tail _ (.head _)), _ => exact ⟨_, rfl⟩
    obtain ⟨pa, ra, rs, a1, a2, a3, a4⟩ := ha
    obtain ⟨pb, rb, rs2, b1, b2, b3, b4⟩ := hb
    refine ⟨.ref wa, rfl, wa, _, 0, _, rfl, rfl, .inl (.inl a1), rfl, pa, a.1.map V.int, (a.1.map fun p => decide (p ∈ b.1)).map V.bl, rfl, .inr a2.sq, by simp, fun pins => Gv.elt_in0 (j := 1) (ns := b.1) rfl rfl rfl rfl rfl rfl rfl (.inl (.inl b1)) b2.sq (hT _ hP) hr.units fun i x0 hx => ?_, hT _ hP, _, rfl, fun H2 hb => ?_⟩
    · rw [List.getElem?_map] at hx
      cases e : a.1[i]? with
      | none => rw [e] at hx; cases hx
      | some n =>
        rw [e] at hx
        cases hx
        refine ⟨n, rfl, ?_⟩
        rw [List.getElem?_map, List.getElem?_map, e]
        rfl
    · have fr : FrS Ps H H2 := FrS.one hT hP hb
      have e : (List.map (fun p => decide (p ∈ b.1)) a.1).any id = clB a b := by
        rw [List.any_map]
        rfl
      rw [e]
      exact q H2 fr
theorem ok_cls {f : Addr} {Ps : List Addr} {fd : FuncData} {k : Nat} (F : Fun K "clashing" "clashing" sCls f fd) (T : TxtCs P w K mg base Ps) : FnOk P w K mg base CX0 (k + 2) f fd ["riddle"] (spCls Ps) := by
  refine F.ok scCls (fun vs H Q E h => ?_) (fun cdv A outer s H vs Q E hr h => ?_)
  · obtain ⟨ri, wds, many, hues, rfl, _⟩ := h
    rfl
  · obtain ⟨ri, wds, many, hues, rfl, hrd, gr, hT, q⟩ := h
    refine ⟨_, (pss_cons (ps_set (i := 1) scCls.nd rfl (Or.inr rfl) (pe_ix ix_tup (pv 0) pe_int (fun _ _ => rfl)))
  (pss_one (ps_ret (pe_lc (te := tLc (Et.iEnumT K (tCons (tVar 1) tNil)) (gTup K 2 (gCons (gName 3) (gCons (gName 4) gNil))) (tB (tCall (spCla Ps) [] E0 (tCons (tVar 2) (tCons (tVar 4) tNil)))) (tVar 3) [3, 4]) (own := [("wish", 2)]) rfl scCls.nd  (pi_tup (pv 1)) (blkOk_by (own := [("wish", 2)]) (N := nCls) (sc := defScope sCls) (by decide +kernel))
   (fun _ _ _ _ _ => (pg_name (i := 2) scCls.nd rfl (Or.inr rfl))) (fun _ _ _ _ _ => pts_nil) (fun _ _ _ _ _ => (pe_lc (own := [("number", 3), ("other", 4)]) rfl scCls.nd  (Et.pi_enumT (by rfl) T.m_enumerate (pa_cons (pv 1) pa_nil)) (blkOk_by (own := [("number", 3), ("other", 4)]) (N := nCls) (sc := { kind := .function, names := [(".0", .local), ("wish", .cell), ("enumerate", .globalImplicit), ("wishes", .cell)], isGenerator := false, isCoroutine := false }) (by decide +kernel))
   (fun _ _ _ _ _ => (pg_tup rfl (pgs_cons (pg_name (i := 3) scCls.nd rfl (Or.inl rfl)) (pgs_cons (pg_name (i := 4) scCls.nd rfl (Or.inl rfl)) pgs_nil)))) (fun _ _ _ _ _ => pts_one (pt_val (pe_cal T.c_clash (hr.mono (by omega)) (by rfl) (pa_cons (pv 2) (pa_cons (pv 4) pa_nil))))) (fun _ _ _ _ _ => (pv 3)))))))), ?_⟩
    obtain ⟨wt, was, h1, h2, h3⟩ := id hrd
    have hl : was.length = wds.length := pairedLen h3
    have e8 := gr.eight
    refine ⟨.ref ri, rfl, ri, _, 2, _, rfl, rfl, .inl (.inl h1), rfl, ?_⟩
    refine ⟨.ref wt, rfl, wt, rfl, ⟨_, .inl (.inl h2)⟩, fun D nD => ?_⟩
    refine lc_tup (K := K) (a := wt) (xs := was.map V.ref) (fun i H3 => FrS Ps H H3 ∧ IsLL H H3 D ((wds.take i).map fun wd => clsL wds wd wds.length)) ⟨FrS.of hT (same_upd nD), [], upd_same, .nil, List.nodup_nil, List.not_mem_nil, fun _ z => nomatch z⟩ (fun i H3 _ p => .inl (.inl (p.1.tups hT _ _ h2))) (fun i x H3 hx p => ?_) (fun H3 p => ?_)
    · obtain ⟨fr, ls, hD, pl, nd, nDl, fl⟩ := p
      rw [List.getElem?_map] at hx
      cases ew : was[i]? with
      | none => rw [ew] at hx; cases hx
      | some wa =>
        rw [ew] at hx
        cases hx
        obtain ⟨wd, hwd, isw⟩ := pairedGetL h3 ew
        have hi : i < was.length := (List.getElem?_eq_some_iff.mp ew).1
        refine ⟨rfl, yes_if ?_⟩
        refine ⟨.ref wt, rfl, wt, was.map V.ref, rfl, .inl (.inl (fr.tups hT _ _ h2)), fun D2 nD2 => ?_⟩
        refine Et.lc_enumT (K := K) (a := wt) (xs := was.map V.ref) (fun j H5 => FrS Ps H3 H5 ∧ H5 D2 = some (.lst ((clsL wds wd j).map V.int))) ⟨FrS.of fr.2 (same_upd nD2), upd_same⟩ (fun j H5 _ pp => .inl (.inl ((fr.trans pp.1).tups hT _ _ h2))) (fun j x H5 T2 hx pp nT => ?_) (fun H5 pp => ?_)
        · obtain ⟨fr5, hD5⟩ := pp
          rw [List.getElem?_map] at hx
          cases eb : was[j]? with
          | none => rw [eb] at hx; cases hx
          | some wb =>
            rw [eb] at hx
            cases hx
            obtain ⟨wd2, hwd2, isw2⟩ := pairedGetL h3 eb
            have hj : j < was.length := (List.getElem?_eq_some_iff.mp eb).1
            have sT := same_upd (o := .tup [.int (j : Nat), .ref wb]) nT
            have fr6 := (fr.trans fr5).same sT
            have t6 := fr6.tups hT
            refine ⟨T2, [.int j, .ref wb], rfl, .inl (.inl upd_same), rfl, .int j, [.ref wb], rfl, .ref wb, [], rfl, rfl, rfl, ?_⟩
            refine ⟨.ref wa, rfl, .ref wb, rfl, wa, wb, wd, wd2, rfl, isw.mono t6, isw2.mono t6, fr6.2, fun H7 fr7 => ⟨_, rfl, ?_⟩⟩
            have fr57 := (fr5.same sT).trans fr7
            have hD7 : H7 D2 = some (.lst ((clsL wds wd j).map V.int)) := (fr7.seqs fr6.2).2 _ _ (sT _ _ hD5)
            have ec := clAt_of (a := wd) hwd2
            refine ite2 (fun e => ?_) (fun e => ?_)
            · refine ⟨.int j, rfl, _, hD7, ?_, fr57.put nD2 (fr.2.new nD2), ?_⟩
              · rw [List.length_map]
                have := clsL_len wds wd j
                exact small1000 (by omega)
              · rw [upd_same, clsL_yes (ec.trans e), List.map_append]
                rfl
            · refine ⟨fr57, ?_⟩
              rw [clsL_no (ec.trans (by simpa using e))]
              exact hD7
        · obtain ⟨fr5, hD5⟩ := pp
          rw [List.length_map, hl] at hD5
          have hD5' := (fr5.seqs fr.2).2 _ _ hD
          have nn : H D2 = none := fr.free nD2
          have nDD : D2 ≠ D := fun z => by rw [z, hD] at nD2; cases nD2
          have lsl := pairedLen pl
          have keepL : ∀ la row, H3 la = some (.lst row) → la ≠ D → upd H5 D (.lst (ls.map V.ref ++ [.ref D2])) la = some (.lst row) := fun la row e n => by
            rw [upd_ne n]
            exact (fr5.seqs fr.2).2 _ _ e
          have inl : ∀ {l : List Addr} {m : List (List Int)}, Paired (fun la row => H3 la = some (.lst (row.map V.int))) l m → D ∉ l → Paired (fun la row => upd H5 D (.lst (ls.map V.ref ++ [.ref D2])) la = some (.lst (row.map V.int))) l m := fun {l m} p => by
            induction p with
            | nil => exact fun _ => .nil
            | cons h t ih => exact fun n => .cons (keepL _ _ h (fun z => n (by rw [z]; exact List.mem_cons_self))) (ih fun z => n (List.mem_cons_of_mem _ z))
          have n2 : D2 ∉ ls := fun z => by
            obtain ⟨j, hj⟩ := List.getElem?_of_mem z
            obtain ⟨row, _, e⟩ := pairedGetL pl hj
            rw [nD2] at e
            cases e
          refine ⟨_, hD5', ?_, (fr.trans fr5).put nD (hT.new nD), ls ++ [D2], ?_, ?_, ?_, ?_, ?_⟩
          · rw [List.length_map, lsl, List.length_map, List.length_take]
            exact small1000 (by omega)
          · rw [upd_same, List.map_append]
            rfl
          · rw [take_snoc hwd, List.map_append]
            refine pairedSnoc (inl pl nDl) ?_
            rw [upd_ne nDD]
            exact hD5
          · exact List.nodup_append.mpr ⟨nd, by simp, fun a ha b hb e => n2 (by rw [← List.mem_singleton.mp hb, ← e]; exact ha)⟩
          · exact fun z => (List.mem_append.mp z).elim nDl fun z => nDD (List.mem_singleton.mp z).symm
          · exact fun la z => (List.mem_append.mp z).elim (fl la) fun z => by rw [List.mem_singleton.mp z]; exact nn
    · obtain ⟨fr, ll⟩ := p
      rw [List.length_map, hl, List.take_length] at ll
      exact q H3 D fr nD ll
end
end Rd

set_option Elab.async false
set_option linter.all false
set_option maxRecDepth 100000
set_option maxHeartbeats 4000000
namespace Rd
open PySem PySem.Spec PyProof.Rows L2 Dt
abbrev sFob : Stmt := topS 29
abbrev nFob : List Str := ["one", "other", "fillings", "filling"]
theorem scFob : FnScope nFob ["one", "other", "fillings"] (defScope sFob) := ⟨rfl, rfl, rfl, by decide +kernel, rfl, by decide +kernel, by decide +kernel⟩
abbrev sApr : Stmt := topS 30
abbrev nApr : List Str := ["riddle", "many", "hues", "wishes", "fillings", "one", "clashes", "other", "filling"]
theorem scApr : FnScope nApr ["riddle"] (defScope sApr) := ⟨rfl, rfl, rfl, by decide +kernel, rfl, by decide +kernel, by decide +kernel⟩
abbrev sMee : Stmt := topS 39
abbrev nMee : List Str := ["one", "other", "shared", "row", "beside", "place"]
theorem scMee : FnScope nMee ["one", "other"] (defScope sMee) := ⟨rfl, rfl, rfl, by decide +kernel, rfl, by decide +kernel, by decide +kernel⟩
def spFob (Ps : List Addr) : Sp := fun vs H Q _ => ∃ (wa wb lf : Addr) (a b : WD) (many hues : Int) (fills : List (List Int)), vs = [.ref wa, .ref wb, .ref lf] ∧ IsWish H wa a ∧ IsWish H wb b ∧ IsFills H lf fills ∧ Good many hues a ∧ Good many hues b ∧ many ≤ 6 ∧ hues ≤ 4 ∧ (∀ f ∈ fills, GoodF many hues f) ∧ Tabs Ps H ∧
  ∀ H' v, FrS Ps H H' → IsOpt H' v (bothF a b fills) → Q v H'
def spApr (Ps : List Addr) : Sp := fun vs H Q _ => ∃ (ri : Addr) (wds : List WD) (many hues : Int), vs = [.ref ri] ∧ IsRid H ri many hues wds ∧ GoodR many hues wds ∧ Tabs Ps H ∧
  ∀ H' t r, FrS Ps H H' → Apt wds (fillL hues.toNat many.toNat) r → IsAp H' t r → Q (.ref t) H'
def spMee : Sp := fun vs H Q _ => ∃ (wa wb : Addr) (a b : WD) (many hues : Int), vs = [.ref wa, .ref wb] ∧ IsWish H wa a ∧ IsWish H wb b ∧ Good many hues a ∧ Good many hues b ∧ many ≤ 6 ∧ hues ≤ 4 ∧
  ∀ H' t, Same H H' → H t = none → H' t = some (.tup [.bl (clB a b), .bl (clB a b && meetB a b)]) → Q (.ref t) H'
structure TxtFo (P : Program) (w : World) (K : PySem.W.Frag) (mg : Str → Option Value) (base : Heap) (Ps : List Addr) : Prop where
  c_is_broken : Cal P w K mg base 4 "is_broken" ["wish", "filling"] (spIsB Ps)
structure TxtAp (P : Program) (w : World) (K : PySem.W.Frag) (mg : Str → Option Value) (base : Heap) (Ps : List Addr) : Prop where
  m_enumerate : mg "enumerate" = none
  c_all_fillings : Cal P w K mg base 1 "all_fillings" ["many", "hues"] spAlf
  c_clashing : Cal P w K mg base 2 "clashing" ["riddle"] (spCls Ps)
  c_first_of_both : Cal P w K mg base 5 "first_of_both" ["one", "other", "fillings"] (spFob Ps)
section
variable {P : Program} {w : World} {K : PySem.W.Frag} {mg : Str → Option Value} {base : Heap}
theorem ok_fob {f : Addr} {Ps : List Addr} {fd : FuncData} {k : Nat} (F : Fun K "first_of_both" "first_of_both" sFob f fd) (T : TxtFo P w K mg base Ps) : FnOk P w K mg base CX0 (k + 5) f fd ["one", "other", "fillings"] (spFob Ps) := by
  refine F.ok scFob (fun vs H Q E h => ?_) (fun cdv A outer s H vs Q E hr h => ?_)
  · obtain ⟨wa, wb, lf, a, b, many, hues, fills, rfl, _⟩ := h
    rfl
  · obtain ⟨wa, wb, lf, a, b, many, hues, fills, rfl, ha, hb, hf, ga, gb, m6, h4, gf, hT, q⟩ := h
    refine ⟨_, (pss_cons (ps_for PassesOwn.never rfl (pi_list (pv 2)) (pg_name (i := 3) scFob.nd rfl (Or.inl rfl))
  (pss_one (ps_if (PW.pt (pw_and (pt_val (pe_cal T.c_is_broken (hr.mono (by omega)) (by rfl) (pa_cons (pv 0) (pa_cons (pv 3) pa_nil)))) (pw_and1 (pt_val (pe_cal T.c_is_broken (hr.mono (by omega)) (by rfl) (pa_cons (pv 1) (pa_cons (pv 3) pa_nil)))))))
  (pss_one (ps_ret (pv 3))) pss_nil)))
  (pss_one (ps_ret pe_non))), ?_⟩
    obtain ⟨as, h1, h2⟩ := id hf
    have al := pairedLen h2
    refine ⟨.ref lf, rfl, lf, rfl, ⟨_, .inl (.inl h1)⟩, ?_⟩
    refine for_list (K := K) (a := lf) (xs := as.map V.ref) (fun i σ H3 => FrS Ps H H3 ∧ (∀ f ∈ fills.take i, (brk f a && brk f b) = false) ∧ ∃ y3, σ = [some (.ref wa), some (.ref wb), some (.ref lf), y3]) ⟨FrS.refl hT, (fun f z => nomatch z), none, rfl⟩ (fun i σ H3 _ p => .inl (.inl ((p.1.seqs hT).2 _ _ h1))) (fun i x σ H3 hx p => ?_) (fun σ H3 p => ?_)
    · obtain ⟨fa, ea, rfl⟩ := map_get hx
      obtain ⟨fl, hfl, isr⟩ := pairedGetL h2 ea
      obtain ⟨f3, no, y3, rfl⟩ := p
      have gfl := gf fl (List.mem_of_getElem? hfl)
      have t3 := f3.tups hT
      have nxt : ∀ H4, FrS Ps H3 H4 → (brk fl a && brk fl b) = false → FrS Ps H H4 ∧ (∀ f ∈ fills.take (i + 1), (brk f a && brk f b) = false) ∧ ∃ y3, [some (.ref wa), some (.ref wb), some (.ref lf), some (V.ref fa)] = [some (.ref wa), some (.ref wb), some (.ref lf), y3] := fun H4 f4 e => by
        refine ⟨f3.trans f4, fun f hf => ?_, _, rfl⟩
        rw [take_snoc hfl] at hf
        rcases List.mem_append.mp hf with z | z
        · exact no f z
        · rw [List.mem_singleton.mp z]
          exact e
      refine ⟨.ref wa, rfl, .ref fa, rfl, wa, fa, fl, a, many, hues, rfl, ha.mono t3, t3 _ _ isr, gfl, ga, m6, h4, f3.2, fun H4 f4 => ⟨_, rfl, ite2 (fun e => ?_) (fun e => ?_)⟩⟩
      · have t4 := (f3.trans f4).tups hT
        refine ⟨.ref wb, rfl, .ref fa, rfl, wb, fa, fl, b, many, hues, rfl, hb.mono t4, t4 _ _ isr, gfl, gb, m6, h4, f4.2, fun H5 f5 => ⟨_, rfl, ite2 (fun e2 => ?_) (fun e2 => ?_)⟩⟩
        · have f35 := f3.trans (f4.trans f5)
          have e3 : bothF a b fills = some fl := find_take hfl no (by rw [e, e2]; rfl)
          refine ⟨.ref fa, rfl, q H5 (.ref fa) f35 ?_⟩
          rw [e3]
          exact ⟨fa, rfl, f35.tups hT _ _ isr⟩
        · exact nxt H5 (f4.trans f5) (by rw [Bool.eq_false_iff.mpr e2, Bool.and_false])
      · exact nxt H4 f4 (by rw [Bool.eq_false_iff.mpr e, Bool.false_and])
    · obtain ⟨f3, no, y3, rfl⟩ := p
      rw [List.length_map, al, List.take_length] at no
      refine q H3 .non f3 ?_
      rw [bothF_none no]
      exact rfl
theorem ok_apr {f : Addr} {Ps : List Addr} {fd : FuncData} {k : Nat} (F : Fun K "apart" "apart" sApr f fd) (T : TxtAp P w K mg base Ps) : FnOk P w K mg base CX0 (k + 6) f fd ["riddle"] (spApr Ps) := by
  refine F.ok scApr (fun vs H Q E h => ?_) (fun cdv A outer s H vs Q E hr h => ?_)
  · obtain ⟨ri, wds, many, hues, rfl, _⟩ := h
    rfl
  · obtain ⟨ri, wds, many, hues, rfl, hrd, gr, hT, q⟩ := h
    refine ⟨_, (pss_cons (ps_asg (pv 0) (pg_tup rfl (pgs_cons (pg_name (i := 1) scApr.nd rfl (Or.inl rfl)) (pgs_cons (pg_name (i := 2) scApr.nd rfl (Or.inl rfl)) (pgs_cons (pg_name (i := 3) scApr.nd rfl (Or.inl rfl)) pgs_nil)))))
  (pss_cons (ps_set (i := 4) scApr.nd rfl (Or.inl rfl) (pe_cal T.c_all_fillings (hr.mono (by omega)) (by rfl) (pa_cons (pv 1) (pa_cons (pv 2) pa_nil))))
  (pss_cons (ps_for PassesOwn.never rfl (pi_enum (by rfl) T.m_enumerate (pa_cons (pe_cal T.c_clashing (hr.mono (by omega)) (by rfl) (pa_cons (pv 0) pa_nil)) pa_nil)) (pg_tup rfl (pgs_cons (pg_name (i := 5) scApr.nd rfl (Or.inl rfl)) (pgs_cons (pg_name (i := 6) scApr.nd rfl (Or.inl rfl)) pgs_nil)))
  (pss_one (ps_for PassesOwn.never rfl (pi_list (pv 6)) (pg_name (i := 7) scApr.nd rfl (Or.inl rfl))
  (pss_one (ps_if (pt_cmpR op_lt (pv 5) (pv 7) (nomark _))
  (pss_cons (ps_set (i := 8) scApr.nd rfl (Or.inl rfl) (pe_cal T.c_first_of_both (hr.mono (by omega)) (by rfl) (pa_cons (pe_ix ix_tup (pv 3) (pv 5) (fun _ _ => rfl)) (pa_cons (pe_ix ix_tup (pv 3) (pv 7) (fun _ _ => rfl)) (pa_cons (pv 4) pa_nil)))))
  (pss_one (ps_if (pt_cmpR op_notN (pv 8) pe_non (nomark _))
  (pss_one (ps_ret (pe_tup (pa_cons pe_str (pa_cons (pv 5) (pa_cons (pv 7) (pa_cons (pv 8) pa_nil))))))) pss_nil))) pss_nil)))))
  (pss_one (ps_ret (pe_tup (pa_cons pe_str pa_nil))))))), ?_⟩
    obtain ⟨wt, was, h1, h2, h3⟩ := id hrd
    have hl : was.length = wds.length := pairedLen h3
    have m1 := gr.m1
    have m6 := gr.m6
    have hh2 := gr.h2
    have hh4 := gr.h4
    have e8 := gr.eight
    refine ⟨.ref ri, rfl, ri, _, rfl, .inl (.inl h1), rfl, .int many, [.int hues, .ref wt], rfl, .int hues, [.ref wt], rfl, .ref wt, [], rfl, rfl, ?_⟩
    refine ⟨.int many, rfl, .int hues, rfl, many, hues, rfl, by omega, by omega, by omega, by omega, fun H2 lf s2 nlf fs => ?_⟩
    have hT2 := hT.same s2
    have t2 := tups_same s2
    refine ⟨.ref ri, rfl, ri, wds, many, hues, rfl, hrd.mono t2, gr, hT2, fun H3 lc f3 nlc ll => ?_⟩
    obtain ⟨ls, hlc, pl, _, _, _⟩ := ll
    have lsl := pairedLen pl
    have f03 : FrS Ps H H3 := (FrS.of hT s2).trans f3
    have fs3 : IsFills H3 lf (fillL hues.toNat many.toNat) := by
      obtain ⟨as, a1, a2⟩ := fs
      exact ⟨as, (f3.seqs hT2).2 _ _ a1, pairedMap (fun _ _ e => f3.tups hT2 _ _ e) a2⟩
    refine ⟨lc, _, rfl, .inl (.inl hlc), ?_⟩
    refine for_enumL (K := K) (a := lc) (xs := ls.map V.ref) (fun i σ H4 => FrS Ps H3 H4 ∧ (∀ i' j', i' < i → i' < j' → j' < wds.length → pairR wds (fillL hues.toNat many.toNat) i' j' = none) ∧ ∃ y5 y6 y7 y8, σ = [some (.ref ri), some (.int many), some (.int hues), some (.ref wt), some (.ref lf), y5, y6, y7, y8]) ⟨FrS.refl f3.2, fun i' j' z => absurd z (Nat.not_lt_zero _), none, none, none, none, rfl⟩ (fun i σ H4 _ p => .inl (.inl ((p.1.seqs f3.2).2 _ _ hlc))) (fun i x σ H4 T4 hx p nT => ?_) (fun σ H4 p => ?_)
    · obtain ⟨la, ela, rfl⟩ := map_get hx
      obtain ⟨row, hrow, hla⟩ := pairedGetL pl ela
      obtain ⟨f4, no, y5, y6, y7, y8, rfl⟩ := p
      obtain ⟨wd, hwd, rfl⟩ : ∃ wd, wds[i]? = some wd ∧ row = clsL wds wd wds.length := by
        unfold clsAll at hrow
        rw [List.getElem?_map] at hrow
        cases e : wds[i]? with
        | none => rw [e] at hrow; cases hrow
        | some wd => rw [e] at hrow; cases hrow; exact ⟨wd, rfl, rfl⟩
      have hi : i < wds.length := (List.getElem?_eq_some_iff.mp hwd).1
      have hiw : i < was.length := by omega
      have sT := same_upd (o := .tup [.int (i : Nat), .ref la]) nT
      have f5 := f4.same sT
      have hla4 := (f5.seqs f3.2).2 _ _ hla
      refine ⟨T4, [.int i, .ref la], rfl, .inl (.inl upd_same), rfl, .int i, [.ref la], rfl, .ref la, [], rfl, rfl, ?_⟩
      generalize upd H4 T4 (.tup [.int (i : Nat), .ref la]) = H5 at f5 hla4 sT
      refine ⟨.ref la, rfl, la, rfl, ⟨_, .inl (.inl hla4)⟩, ?_⟩
      refine for_list (K := K) (a := la) (xs := (clsL wds wd wds.length).map V.int) (fun j σ H6 => FrS Ps H5 H6 ∧ (∀ j' : Nat, (j' : Int) ∈ (clsL wds wd wds.length).take j → i < j' → pairR wds (fillL hues.toNat many.toNat) i j' = none) ∧ ∃ y7 y8, σ = [some (.ref ri), some (.int many), some (.int hues), some (.ref wt), some (.ref lf), some (.int i), some (.ref la), y7, y8]) ⟨FrS.refl f5.2, (fun j' z => nomatch z), _, _, rfl⟩ (fun j σ H6 _ p => .inl (.inl ((p.1.seqs f5.2).2 _ _ hla4))) (fun j x σ H6 hx p => ?_) (fun σ H6 p => ?_)
      · obtain ⟨z, ez, rfl⟩ := map_get hx
        obtain ⟨f6, no6, z7, z8, rfl⟩ := p
        have zb := clsL_mem (List.mem_of_getElem? ez)
        obtain ⟨o, rfl⟩ : ∃ o : Nat, z = (o : Int) := ⟨z.toNat, by omega⟩
        have ho : o < was.length := by omega
        obtain ⟨wo, hwo, iswo⟩ := pairedGetL h3 (List.getElem?_eq_getElem ho)
        obtain ⟨wi, hwi, iswi⟩ := pairedGetL h3 (List.getElem?_eq_getElem hiw)
        have ewi : wi = wd := Option.some.inj (hwi.symm.trans hwd)
        subst ewi
        have clo : clB wi wo = true := by
          have := List.mem_of_getElem? ez
          unfold clsL at this
          obtain ⟨k2, hk2, e2⟩ := List.mem_map.mp this
          have e3 : k2 = o := by omega
          subst e3
          have := (List.mem_filter.mp hk2).2
          rw [clAt_of hwo] at this
          exact this
        have f06 := (f03.trans f5).trans f6
        have t06 := f06.tups hT
        have pr := pairR_of (fills := fillL hues.toNat many.toNat) hwd hwo
        rw [if_pos clo] at pr
        have nxt : ∀ (H7 : Hp) (v8 : Option V), FrS Ps H6 H7 → (i < o → pairR wds (fillL hues.toNat many.toNat) i o = none) → FrS Ps H5 H7 ∧ (∀ j' : Nat, (j' : Int) ∈ (clsL wds wi wds.length).take (j + 1) → i < j' → pairR wds (fillL hues.toNat many.toNat) i j' = none) ∧ ∃ y7 y8, [some (V.ref ri), some (.int many), some (.int hues), some (.ref wt), some (.ref lf), some (.int i), some (.ref la), some (.int o), v8] = [some (.ref ri), some (.int many), some (.int hues), some (.ref wt), some (.ref lf), some (.int i), some (.ref la), y7, y8] := fun H7 v8 f7 e => by
          refine ⟨f6.trans f7, fun j' hj' lt => ?_, _, _, rfl⟩
          rw [take_snoc ez] at hj'
          rcases List.mem_append.mp hj' with z | z
          · exact no6 j' z lt
          · have e2 : j' = o := by have := List.mem_singleton.mp z; omega
            rw [e2]
            exact e (by omega)
        refine ⟨.int i, rfl, .int o, rfl, _, _, rfl, rfl, _, rfl, ite2 (fun e => ?_) (fun e => ?_)⟩
        · have lt : i < o := by have := of_decide_eq_true e; omega
          have gf := fun f (hf : f ∈ fillL hues.toNat many.toNat) => fill_goodF (many := many) (hues := hues) (by omega) (by omega) hf
          have fs6 : IsFills H6 lf (fillL hues.toNat many.toNat) := by
            obtain ⟨as, a1, a2⟩ := fs3
            have sq := (f5.trans f6).seqs f3.2
            exact ⟨as, sq.2 _ _ a1, pairedMap (fun _ _ e => sq.1 _ _ e) a2⟩
          refine ⟨.ref wt, rfl, .int i, rfl, wt, _, _, _, rfl, rfl, .inl (.inl (t06 _ _ h2)), atI_nat (map_at (List.getElem?_eq_getElem hiw)), .ref wt, rfl, .int o, rfl, wt, _, _, _, rfl, rfl, .inl (.inl (t06 _ _ h2)), atI_nat (map_at (List.getElem?_eq_getElem ho)), .ref lf, rfl, _, _, lf, wi, wo, many, hues, _, rfl, iswi.mono t06, iswo.mono t06, fs6, gr.each _ (List.mem_of_getElem? hwi), gr.each _ (List.mem_of_getElem? hwo), m6, hh4, gf, f06.2, fun H7 v f7 op => ?_⟩
          cases eb : bothF wi wo (fillL hues.toNat many.toNat) with
          | none =>
            rw [eb] at op
            subst op
            refine ⟨.non, rfl, rfl, _, rfl, iteF ?_⟩
            exact nxt H7 _ f7 fun _ => pr.trans eb
          | some fl =>
            rw [eb] at op
            obtain ⟨fa, rfl, hfa⟩ := op
            refine ⟨.ref fa, rfl, rfl, _, rfl, iteT ?_⟩
            refine ⟨.int i, rfl, .int o, rfl, .ref fa, rfl, (by show 4 ≤ sizeLine; decide), fun t nt => ?_⟩
            have st := same_upd (o := .tup [.str "both", .int (i : Nat), .int (o : Nat), .ref fa]) nt
            refine q _ t (some (i, o, fl)) ((f06.trans f7).same st) ⟨lt, by omega, pr.trans eb, fun i' j' h1 h2 h3 => ?_⟩ ⟨fa, upd_same, st _ _ hfa⟩
            rcases h3 with z | ⟨rfl, z⟩
            · exact no i' j' z h1 h2
            · obtain ⟨wj, hwj⟩ : ∃ wj, wds[j']? = some wj := ⟨_, List.getElem?_eq_getElem h2⟩
              by_cases c : clB wi wj = true
              · exact no6 j' (rise_take (clsL_rise wds wi _) ez (clsL_in h2 hwj c) (by omega)) h1
              · rw [pairR_of hwd hwj, if_neg c]
        · exact nxt H6 _ (FrS.refl f6.2) fun lt => absurd (decide_eq_true (by omega)) e
      · obtain ⟨f6, no6, z7, z8, rfl⟩ := p
        rw [List.length_map, List.take_length] at no6
        refine ⟨f5.trans f6, fun i' j' h1 h2 h3 => ?_, _, _, _, _, rfl⟩
        by_cases z : i' < i
        · exact no i' j' z h2 h3
        · have e : i' = i := by omega
          subst e
          obtain ⟨wj, hwj⟩ : ∃ wj, wds[j']? = some wj := ⟨_, List.getElem?_eq_getElem h3⟩
          by_cases c : clB wd wj = true
          · exact no6 j' (clsL_in h3 hwj c) h2
          · rw [pairR_of hwd hwj, if_neg c]
    · obtain ⟨f4, no, y5, y6, y7, y8, rfl⟩ := p
      rw [List.length_map, lsl] at no
      refine ⟨(by show 1 ≤ sizeLine; decide), fun t nt => ?_⟩
      refine q _ t none ((f03.trans f4).same (same_upd nt)) (fun i j h1 h2 => ?_) upd_same
      exact no i j (by unfold clsAll; rw [List.length_map]; omega) h1 h2
end
end Rd

set_option Elab.async false
set_option linter.all false
set_option maxRecDepth 100000
set_option maxHeartbeats 4000000
namespace Rd
open PySem PySem.Spec PyProof.Rows L2 Dt
abbrev sRun : Stmt := topS 16
abbrev nRun : List Str := ["riddle", "table", "order", "wishes", "taken", "filling", "log", "number", "places", "place"]
theorem scRun : FnScope nRun ["riddle", "table", "order"] (defScope sRun) := ⟨rfl, rfl, rfl, by decide +kernel, rfl, by decide +kernel, by decide +kernel⟩
structure RunIn (H : Hp) (ri ta oa : Addr) (many hues : Int) (wds : List WD) (tb : List (List Int)) (ord : List Int) : Prop where
  rid : IsRid H ri many hues wds
  gr : GoodR many hues wds
  nd : ∀ wd ∈ wds, wd.1.Nodup
  tab : IsTab (fun _ => False) H ta tb
  gt : GoodT many hues tb
  ho : H oa = some (.tup (ord.map V.int))
  go : GoodO wds.length ord
theorem RunIn.seqs {H H' : Hp} {ri ta oa : Addr} {many hues : Int} {wds : List WD} {tb : List (List Int)} {ord : List Int} (h : RunIn H ri ta oa many hues wds tb ord) (s : Seqs H H') : RunIn H' ri ta oa many hues wds tb ord := ⟨h.rid.mono s.1, h.gr, h.nd, h.tab.seqs s, h.gt, s.1 _ _ h.ho, h.go⟩
def spRun (Ps : List Addr) : Sp := fun vs H Q _ => ∃ (ri ta oa : Addr) (many hues : Int) (wds : List WD) (tb : List (List Int)) (ord : List Int), vs = [.ref ri, .ref ta, .ref oa] ∧ RunIn H ri ta oa many hues wds tb ord ∧ Tabs Ps H ∧
  ∀ H' t R, FrS Ps H H' → H t = none → runOf wds tb ord = some R → IsRes H H' t R → Q (.ref t) H'
structure TxtD (P : Program) (w : World) (K : PySem.W.Frag) (mg : Str → Option Value) (base : Heap) (Ps : List Addr) : Prop where
  m_len : mg "len" = none
  c_hues_at : Cal P w K mg base 3 "hues_at" ["filling", "places"] (spHues Ps)
  c_standing : Cal P w K mg base 3 "standing" ["table", "taken"] (spStaE Ps)
  c_first_broken : Cal P w K mg base 5 "first_broken" ["wishes", "order", "filling"] (spFib Ps)
  c_have_next : Cal P w K mg base 2 "have_next" ["table", "taken", "places"] (spHnxE Ps)
theorem rep0B (n : Nat) : (List.replicate n [V.int 0]).flatten = (zerosI n).map V.int := by
  unfold zerosI
  rw [List.map_replicate]
  induction n with
  | zero => rfl
  | succ n ih => rw [List.replicate_succ, List.flatten_cons, ih, List.replicate_succ]; rfl
theorem bumpA_snoc (tk ps : List Int) (p : Int) : bumpA tk (ps ++ [p]) = bump (bumpA tk ps) p.toNat := by
  unfold bumpA
  rw [List.foldl_append]
  rfl
theorem bumpA_len (tk : List Int) : ∀ ps : List Int, (bumpA tk ps).length = tk.length := fun ps => by
  unfold bumpA
  induction ps generalizing tk with
  | nil => rfl
  | cons p r ih => rw [List.foldl_cons, ih, bump_len]
section
variable {P : Program} {w : World} {K : PySem.W.Frag} {mg : Str → Option Value} {base : Heap}
set_option maxHeartbeats 16000000 in
theorem ok_run {f : Addr} {Ps : List Addr} {fd : FuncData} {k : Nat} (F : Fun K "run" "run" sRun f fd) (T : TxtD P w K mg base Ps) : FnOk P w K mg base CX0 (k + 6) f fd ["riddle", "table", "order"] (spRun Ps) := by
  refine F.ok scRun (fun vs H Q E h => ?_) (fun cdv A outer s H vs Q E hr h => ?_)
  · obtain ⟨ri, ta, oa, many, hues, wds, tb, ord, rfl, _⟩ := h
    rfl
  · obtain ⟨ri, ta, oa, many, hues, wds, tb, ord, rfl, hin, hT, q⟩ := h
    obtain ⟨rid, gr, nd, tab, gt, ho, go⟩ := id hin
    refine ⟨_, (pss_cons (ps_set (i := 3) scRun.nd rfl (Or.inl rfl) (pe_ix ix_tup (pv 0) pe_int (fun _ _ => rfl)))
  (pss_cons (ps_set (i := 4) scRun.nd rfl (Or.inl rfl) (pe_op op_rep (pe_lst (pa_cons pe_int pa_nil)) (pe_callB call_len_seq (by rfl) T.m_len (by decide +kernel) (pa_cons (pv 1) pa_nil))))
  (pss_cons (ps_set (i := 5) scRun.nd rfl (Or.inl rfl) (pe_cal T.c_standing (hr.mono (by omega)) (by rfl) (pa_cons (pv 1) (pa_cons (pv 4) pa_nil))))
  (pss_cons (ps_set (i := 6) scRun.nd rfl (Or.inl rfl) (pe_lst pa_nil))
  (pss_cons (ps_set (i := 7) scRun.nd rfl (Or.inl rfl) (pe_cal T.c_first_broken (hr.mono (by omega)) (by rfl) (pa_cons (pv 3) (pa_cons (pv 2) (pa_cons (pv 5) pa_nil)))))
  (pss_cons (ps_while PassesOwn.never (pt_cmpR op_notN (pv 7) pe_non (nomark _))
  (pss_cons (ps_set (i := 8) scRun.nd rfl (Or.inl rfl) (pe_ix ix_tup (pe_ix ix_tup (pv 3) (pv 7) (fun _ _ => rfl)) pe_int (fun _ _ => rfl)))
  (pss_cons (ps_if (pt_not (pt_val (pe_cal T.c_have_next (hr.mono (by omega)) (by rfl) (pa_cons (pv 1) (pa_cons (pv 4) (pa_cons (pv 8) pa_nil))))))
  (pss_one (ps_ret (pe_tup (pa_cons pe_str (pa_cons (pv 5) (pa_cons (pv 6) pa_nil)))))) pss_nil)
  (pss_cons (ps_expr (pe_bm PySem.F.plainAttrs_list PySem.F.slot_list_append PySem.F.type_list_append mt_append (pv 6) (pa_cons (pe_tup (pa_cons (pv 7) (pa_cons (pe_cal T.c_hues_at (hr.mono (by omega)) (by rfl) (pa_cons (pv 5) (pa_cons (pv 8) pa_nil))) pa_nil))) pa_nil)))
  (pss_cons (ps_for PassesOwn.never rfl (pi_tup (pv 8)) (pg_name (i := 9) scRun.nd rfl (Or.inl rfl))
  (pss_one (ps_augS (pv 4) (pv 9) Cp.pget_list pe_int ip_add set_list)))
  (pss_cons (ps_set (i := 5) scRun.nd rfl (Or.inl rfl) (pe_cal T.c_standing (hr.mono (by omega)) (by rfl) (pa_cons (pv 1) (pa_cons (pv 4) pa_nil))))
  (pss_one (ps_set (i := 7) scRun.nd rfl (Or.inl rfl) (pe_cal T.c_first_broken (hr.mono (by omega)) (by rfl) (pa_cons (pv 3) (pa_cons (pv 2) (pa_cons (pv 5) pa_nil))))))))))))
  (pss_one (ps_ret (pe_tup (pa_cons pe_str (pa_cons (pv 5) (pa_cons (pv 6) pa_nil)))))))))))), ?_⟩
    obtain ⟨wt, was, h1, h2, h3⟩ := id rid
    obtain ⟨das, ht1, _, _, pr⟩ := id tab
    have wl := pairedLen h3
    have dl := pairedLen pr
    have tl := gt.len
    have m6 := gr.m6
    obtain ⟨R, hR, gfR, okR, lR⟩ := runOf_some gr nd gt go
    -- wishes, taken
    refine ⟨.ref ri, rfl, ri, _, 2, _, rfl, rfl, .inl (.inl h1), atI_nat (j := 2) rfl, (by show 1 ≤ sizeLine; decide), fun l0 nl0 => ?_⟩
    have s0 := same_upd (o := .lst [V.int 0]) nl0
    refine ⟨.ref ta, rfl, ta, _, rfl, .inl (.inl (.inl (s0 _ _ ht1))), l0, _, _, rfl, rfl, upd_same, by rw [List.length_map]; omega, by rw [List.length_map]; omega, ?_, fun ka nka => ?_⟩
    · rw [List.length_map]
      show 1 * _ ≤ sizeLine
      exact Nat.le_of_lt (small1000 (by omega))
    have ez : (List.replicate ((das.map V.ref).length : Int).toNat [V.int 0]).flatten = (zerosI tb.length).map V.int := by rw [rep0B, List.length_map, dl]; rfl
    rw [ez]
    have nka0 : H ka = none := s0.free nka
    have s1 := s0.trans (same_upd (o := .lst ((zerosI tb.length).map V.int)) nka)
    have hk1 : upd (upd H l0 (.lst [V.int 0])) ka (.lst ((zerosI tb.length).map V.int)) ka = some (.lst ((zerosI tb.length).map V.int)) := upd_same
    generalize upd (upd H l0 (.lst [V.int 0])) ka (.lst ((zerosI tb.length).map V.int)) = H1 at s1 hk1
    have F1 := FrS.of hT s1
    have nkP : ka ∉ Ps := hT.new nka0
    have in1 := hin.seqs (seqs_same s1)
    -- filling
    refine ⟨.ref ta, rfl, .ref ka, rfl, true, ta, ka, tb, zerosI tb.length, rfl, in1.tab, .inl ⟨rfl, hk1⟩, zeros_good gt, by omega, F1.2, fun H2 fa f2 nfa hfa => ?_⟩
    have F2 := F1.trans f2
    have hk2 := f2.1 ka _ nkP hk1
    -- log
    refine ⟨(by show 0 ≤ sizeLine; decide), fun la nla => ?_⟩
    have s3 := same_upd (o := .lst []) nla
    have nla0 : H la = none := F2.free nla
    have nlP : la ∉ Ps := hT.new nla0
    have nlk : la ≠ ka := (ne_of_none hk2 nla).symm
    have F3 := F2.same s3
    have hl3 : upd H2 la (.lst []) la = some (.lst []) := upd_same
    have hk3 := s3 _ _ hk2
    have hfa3 := s3 _ _ hfa
    generalize upd H2 la (.lst []) = H3 at s3 F3 hl3 hk3 hfa3
    have in3 := hin.seqs (F3.seqs hT)
    have w3 : ∀ {H'}, FrS Ps H H' → H' wt = some (.tup (was.map V.ref)) ∧ Paired (IsWish H') was wds := fun fr => ⟨fr.tups hT _ _ h2, pairedMap (fun _ _ e => IsWish.mono (fr.tups hT) e) h3⟩
    -- number
    refine ⟨.ref wt, rfl, .ref oa, rfl, .ref fa, rfl, wt, oa, fa, was, wds, ord, _, many, hues, rfl, (w3 F3).1, (w3 F3).2, gr, in3.ho, go.mem, hfa3, stand_good gt (zeros_good gt), F3.2, fun H4 f4 => ?_⟩
    have F4 := F3.trans f4
    -- the loop
    refine ⟨fun m σ Hm => FrS Ps H Hm ∧ ∃ (tk : List Int) (log : Log) (fa : Addr), Hm ka = some (.lst (tk.map V.int)) ∧ GoodK tb tk ∧ Hm fa = some (.tup ((stand tb tk).map V.int)) ∧ IsLog Hm la log ∧ LogOk wds log ∧ log.length + rem tb tk ≤ 6000 ∧ goR wds tb ord m tk log = some R ∧
      ∃ y8 y9, σ = [some (.ref ri), some (.ref ta), some (.ref oa), some (.ref wt), some (.ref ka), some (.ref fa), some (.ref la), some (vOpt (firstB (stand tb tk) wds ord)), y8, y9], ⟨rem tb (zerosI tb.length) + 1, F4, zerosI tb.length, [], fa, f4.1 ka _ nkP hk3, zeros_good gt, f4.tups F3.2 _ _ hfa3, ⟨[], f4.1 la _ nlP hl3, .nil⟩, LogOk.nil _, ?_, hR, none, none, rfl⟩, ?_⟩
    · have a := rem_le tb (zerosI tb.length) 1000 gt.few
      have : tb.length ≤ 6 := by omega
      rw [List.length_nil]
      omega
    · rintro m σ Hm ⟨Fm, tk, log, fa, hk, gk, hfa, hlog, okl, bl, hgo, y8, y9, rfl⟩
      have inm := hin.seqs (Fm.seqs hT)
      have hTm := Fm.2
      cases m with
      | zero => exact nomatch hgo
      | succ m =>
      rw [goR] at hgo
      cases ef : firstB (stand tb tk) wds ord with
      | none =>
        rw [ef] at hgo
        have eR : (true, stand tb tk, log) = R := Option.some.inj hgo
        refine ⟨.non, rfl, rfl, _, rfl, iteF ?_⟩
        refine ⟨.ref fa, rfl, .ref la, rfl, (by show 3 ≤ sizeLine; decide), fun t nt => ?_⟩
        have st := same_upd (o := .tup [.str "kept", .ref fa, .ref la]) nt
        refine q _ t R (Fm.same st) (Fm.free nt) hR ?_
        rw [← eR]
        exact ⟨fa, la, upd_same, st _ _ hfa, hlog.seqs (seqs_same st), nla0⟩
      | some k =>
        rw [ef] at hgo
        dsimp only at hgo
        obtain ⟨hk1', hbk⟩ := first_some ef
        obtain ⟨k0, k1⟩ := go.mem k hk1'
        obtain ⟨wd, hw, he⟩ := wd_of k0 k1
        have gw := gr.each wd (List.mem_of_getElem? hw)
        have kn : k.toNat < was.length := by omega
        obtain ⟨wd', hw', isw⟩ := pairedGetL (w3 Fm).2 (List.getElem?_eq_getElem kn)
        rw [hw] at hw'
        cases hw'
        obtain ⟨pa, ra, rs, i1, i2, i3, i4⟩ := id isw
        have g3 := gw.three
        refine ⟨.int k, rfl, rfl, _, rfl, iteT ?_⟩
        refine ⟨fun σ' Hn => FrS Ps H Hn ∧ ∃ (tk : List Int) (log : Log) (fa : Addr), Hn ka = some (.lst (tk.map V.int)) ∧ GoodK tb tk ∧ Hn fa = some (.tup ((stand tb tk).map V.int)) ∧ IsLog Hn la log ∧ LogOk wds log ∧ log.length + rem tb tk ≤ 6000 ∧ goR wds tb ord m tk log = some R ∧
          ∃ y8 y9, σ' = [some (.ref ri), some (.ref ta), some (.ref oa), some (.ref wt), some (.ref ka), some (.ref fa), some (.ref la), some (vOpt (firstB (stand tb tk) wds ord)), y8, y9], fun σ' H' n => ⟨m, Nat.lt_succ_self _, n⟩, ?_⟩
        -- places
        refine ⟨.ref wt, rfl, .int k, rfl, wt, _, k, _, rfl, rfl, .inl (.inl (w3 Fm).1), atI_of k0 (List.getElem?_eq_getElem kn), _, _, 0, _, rfl, rfl, .inl (.inl i1), atI_nat (j := 0) rfl, ?_⟩
        have hpr : ∀ p ∈ wd.1, 0 ≤ p ∧ p < (tb.length : Int) := fun p hp => by
          have := gw.pl p hp
          omega
        refine ⟨.ref ta, rfl, .ref ka, rfl, .ref pa, rfl, true, ta, ka, pa, tb, tk, wd.1, rfl, inm.tab, .inl ⟨rfl, hk⟩, gk.len, i2, hpr, hTm, fun H5 f5 => ⟨_, rfl, ite2 (fun e => ?_) (fun e => ?_)⟩⟩
        · have ec : canN tb tk wd.1 = false := by
            cases c : canN tb tk wd.1 with
            | true => rw [c] at e; exact absurd e (by decide)
            | false => rfl
          rw [← he] at ec
          rw [ec, if_neg (by decide)] at hgo
          have eR : (false, stand tb tk, log) = R := Option.some.inj hgo
          have F5 := Fm.trans f5
          refine ⟨.ref fa, rfl, .ref la, rfl, (by show 3 ≤ sizeLine; decide), fun t nt => ?_⟩
          have st := same_upd (o := .tup [.str "spent", .ref fa, .ref la]) nt
          refine q _ t R (F5.same st) (F5.free nt) hR ?_
          rw [← eR]
          exact ⟨fa, la, upd_same, st _ _ (f5.tups hTm _ _ hfa), (hlog.seqs (f5.seqs hTm)).seqs (seqs_same st), nla0⟩
        · have ec : canN tb tk wd.1 = true := by
            cases c : canN tb tk wd.1 with
            | true => rfl
            | false => rw [c] at e; exact absurd rfl e
          rw [← he] at ec
          rw [ec, if_pos rfl] at hgo
          have hgo2 : goR wds tb ord m (bumpA tk (plc wds k)) (log ++ [(k, huesA (stand tb tk) (plc wds k))]) = some R := hgo
          have cn := can_of gr nd gt hw he ec
          obtain ⟨g2, r2⟩ := bumpA_good gk cn
          have one := gw.one
          have F5 := Fm.trans f5
          have sq5 := f5.seqs hTm
          have hlog5 := hlog.seqs sq5
          obtain ⟨es, hl5, pe⟩ := hlog5
          have el := pairedLen pe
          -- log
          refine ⟨.ref la, rfl, .inl ⟨rfl, _, .inl (.inl hl5)⟩, .int k, rfl, .ref fa, rfl, .ref pa, rfl, fa, pa, _, wd.1, many, hues, rfl, sq5.1 _ _ hfa, i2.mono sq5.1, stand_good gt gk, gw.pl, by omega, f5.2, fun H6 r f6 nr hr6 => ?_⟩
          have F6 := F5.trans f6
          refine ⟨(by show 2 ≤ sizeLine; decide), fun e6 ne6 => ?_⟩
          have s7 := same_upd (o := .tup [.int k, .ref r]) ne6
          have hl6 := f6.1 la _ nlP hl5
          refine ⟨la, _, .ref e6, rfl, rfl, s7 _ _ hl6, ?_, ?_⟩
          · rw [List.length_map, el]
            exact Nat.lt_of_le_of_lt (show log.length ≤ 6000 by omega) (by decide)
          have hl7 : upd H6 e6 (.tup [.int k, .ref r]) la = some (.lst (es.map V.ref)) := s7 _ _ hl6
          have F7 : FrS Ps H (upd (upd H6 e6 (.tup [.int k, .ref r])) la (.lst (es.map V.ref ++ [.ref e6]))) := (F6.same s7).put nla0 nlP
          have tu7 : Tups H6 (upd (upd H6 e6 (.tup [.int k, .ref r])) la (.lst (es.map V.ref ++ [.ref e6]))) := (tups_same s7).trans (tups_lst hl7)
          have hlog7 : IsLog (upd (upd H6 e6 (.tup [.int k, .ref r])) la (.lst (es.map V.ref ++ [.ref e6]))) la (log ++ [(k, huesA (stand tb tk) (plc wds k))]) := by
            refine ⟨es ++ [e6], by rw [upd_same, List.map_append]; rfl, pairedSnoc (pairedMap (fun _ _ e => e.mono ((f6.tups f5.2).trans tu7)) pe) ⟨r, ?_, ?_⟩⟩
            · rw [upd_ne (fun z => by rw [z, hl6] at ne6; cases ne6)]
              exact upd_same
            · rw [he]
              exact tu7 _ _ hr6
          have hk7 : upd (upd H6 e6 (.tup [.int k, .ref r])) la (.lst (es.map V.ref ++ [.ref e6])) ka = some (.lst (tk.map V.int)) := by
            rw [upd_ne (Ne.symm nlk)]
            exact s7 _ _ (f6.1 ka _ nkP (f5.1 ka _ nkP hk))
          obtain ⟨oP, hpa7, _⟩ := ((i2.mono sq5.1).mono (f6.tups f5.2)).mono tu7
          generalize upd (upd H6 e6 (.tup [.int k, .ref r])) la (.lst (es.map V.ref ++ [.ref e6])) = H7 at F7 hlog7 hk7 hpa7
          -- taken
          refine ⟨.ref pa, rfl, pa, rfl, ⟨_, .inl (.inr ⟨_, hpa7⟩)⟩, ?_⟩
          refine for_tup (K := K) (a := pa) (xs := wd.1.map V.int) (fun i σ H8 => FrS Ps H H8 ∧ (∀ b o, b ≠ ka → H7 b = some o → H8 b = some o) ∧ H8 ka = some (.lst ((bumpA tk (wd.1.take i)).map V.int)) ∧ ∃ y9, σ = [some (.ref ri), some (.ref ta), some (.ref oa), some (.ref wt), some (.ref ka), some (.ref fa), some (.ref la), some (.int k), some (.ref pa), y9]) ⟨F7, fun _ _ _ e => e, hk7, _, rfl⟩ (fun i σ H8 _ p => .inl (.inr ⟨_, p.2.1 _ _ (fun z => by rw [z, hk7] at hpa7; cases hpa7) hpa7⟩)) (fun i x σ H8 hx pp => ?_) (fun σ H8 pp => ?_)
          · obtain ⟨F8, kp8, hk8, y9', rfl⟩ := pp
            obtain ⟨p, ep, rfl⟩ := map_get hx
            have hpp := hpr p (List.mem_of_getElem? ep)
            have hpl : p < ((bumpA tk (wd.1.take i)).length : Int) := by rw [bumpA_len, gk.len]; exact hpp.2
            have hat := atT hpp.1 hpl
            refine ⟨.ref ka, rfl, .int p, rfl, ka, _, p.toNat, _, rfl, congrArg V.int (by omega), .inl (.inl hk8), map_at hat, _, 1, rfl, rfl, ka, _, p, p.toNat, rfl, rfl, hk8, ?_, ?_⟩
            · rw [List.length_map]
              exact ixN_of hpp.1 hpl
            · refine ⟨F8.put nka0 nkP, fun b o n e => by rw [upd_ne n]; exact kp8 b o n e, ?_, _, rfl⟩
              rw [upd_same, take_snoc ep, bumpA_snoc, bump_eq hat, List.map_set]
          · obtain ⟨F8, kp8, hk8, y9', rfl⟩ := pp
            rw [List.length_map, List.take_length, ← he] at hk8
            have in8 := hin.seqs (F8.seqs hT)
            -- filling
            refine ⟨.ref ta, rfl, .ref ka, rfl, true, ta, ka, tb, _, rfl, in8.tab, .inl ⟨rfl, hk8⟩, g2, by omega, F8.2, fun H9 fa9 f9 nfa9 hfa9 => ?_⟩
            have F9 := F8.trans f9
            have in9 := hin.seqs (F9.seqs hT)
            -- number
            refine ⟨.ref wt, rfl, .ref oa, rfl, .ref fa9, rfl, wt, oa, fa9, was, wds, ord, _, many, hues, rfl, (w3 F9).1, (w3 F9).2, gr, in9.ho, go.mem, hfa9, stand_good gt g2, F9.2, fun H10 f10 => ?_⟩
            have F10 := F9.trans f10
            have sq : Seqs H8 H10 := (f9.seqs F8.2).trans (f10.seqs F9.2)
            have hlog8 : IsLog H8 la (log ++ [(k, huesA (stand tb tk) (plc wds k))]) := hlog7.keep ⟨fun b xs e => kp8 b _ (fun z => by rw [z, hk7] at e; cases e) e, fun b o xs e => kp8 b _ (fun z => by rw [z, hk7] at e; cases e) e⟩ fun xs e => kp8 _ _ nlk e
            refine ⟨F10, bumpA tk (plc wds k), _, fa9, sq.2 _ _ hk8, g2, f10.tups F9.2 _ _ hfa9, hlog8.seqs sq, okl.snoc k0 k1 hw he hbk, ?_, hgo2, _, _, rfl⟩
            rw [List.length_append, List.length_singleton]
            rw [he] at r2
            rw [he]
            omega
end
end Rd

set_option autoImplicit false
set_option Elab.async false
set_option linter.all false
set_option maxRecDepth 100000
set_option maxHeartbeats 4000000
/-! searching in breadth, by what it has found -/
namespace Rd
open PySem PySem.Spec PyProof.Rows L2 Dt
/-- one found: the draws taken, how deep, and whence by which wish -/
abbrev Ent := List Int × Int × Option (Int × List Int)
/-- a table of so many draws: what the search needs -/
structure GoodS (many hues : Int) (tb : List (List Int)) : Prop where
  len : (tb.length : Int) = many
  one : ∀ ds ∈ tb, 1 ≤ ds.length
  hue : ∀ ds ∈ tb, ∀ h ∈ ds, 0 ≤ h ∧ h < hues
section
variable {many hues : Int} {tb : List (List Int)} {wds : List WD}
theorem zerosS_good (g : GoodS many hues tb) : GoodK tb (zerosI tb.length) := by
  refine ⟨by simp [zerosI], fun p hp => ?_⟩
  rw [zeros_get]
  have := g.one _ (Dt.getD_mem (d := []) hp)
  omega
theorem standS_good {tk : List Int} (gt : GoodS many hues tb) (g : GoodK tb tk) : GoodF many hues (stand tb tk) := by
  refine ⟨by rw [stand_len g]; exact gt.len, fun h hh => ?_⟩
  obtain ⟨p, hp⟩ := List.getElem?_of_mem hh
  have il := (List.getElem?_eq_some_iff.mp hp).1
  rw [stand_len g] at il
  rw [stand_get g il] at hp
  cases hp
  have a := g.at_ p il
  unfold atF
  exact gt.hue _ (Dt.getD_mem (d := []) il) _ (Dt.getD_mem (by omega))
theorem bumpM_get {tk ps : List Int} {p : Nat} (hp : p < tk.length) : (bumpM tk ps).getD p 0 = if (p : Int) ∈ ps then tk.getD p 0 + 1 else tk.getD p 0 := by
  unfold bumpM
  rw [List.getD_eq_getElem?_getD, List.getElem?_map, List.getElem?_range hp]
  rfl
theorem mend_mem {tk : List Int} {m : Int × List Int} (h : m ∈ mendM wds tb tk) : m.1 ∈ broL (stand tb tk) wds wds.length ∧ canN tb tk (plc wds m.1) = true ∧ m.2 = bumpM tk (plc wds m.1) := by
  unfold mendM at h
  obtain ⟨k, hk, rfl⟩ := List.mem_map.mp h
  obtain ⟨h1, h2⟩ := List.mem_filter.mp hk
  exact ⟨h1, h2, rfl⟩
theorem mend_good {tk : List Int} (g : GoodK tb tk) {m : Int × List Int} (h : m ∈ mendM wds tb tk) : GoodK tb m.2 := by
  obtain ⟨_, h2, e⟩ := mend_mem h
  rw [e]
  refine ⟨by rw [bumpM_len]; exact g.len, fun p hp => ?_⟩
  have a := g.at_ p hp
  rw [bumpM_get (by rw [g.len]; exact hp)]
  by_cases c : (p : Int) ∈ plc wds m.1
  · rw [if_pos c]
    have z := List.all_eq_true.mp h2 _ c
    have z := of_decide_eq_true z
    unfold atF lenAt at z
    rw [Int.toNat_natCast] at z
    omega
  · rw [if_neg c]
    exact a
theorem good_box {tk : List Int} (g : GoodK tb tk) : tk ∈ boxL (tb.map List.length) := by
  refine box_mem (by rw [List.length_map]; exact g.len) fun p hp => ?_
  rw [List.length_map] at hp
  have a := g.at_ p hp
  have e : (tb.map List.length).getD p 0 = (tb.getD p []).length := by
    rw [List.getD_eq_getElem?_getD, List.getElem?_map, List.getD_eq_getElem?_getD, List.getElem?_eq_getElem hp]
    rfl
  rw [e]
  exact a
/-- found, and at most one deeper -/
def Near (es : List Ent) (e : Ent) (t : List Int) : Prop := ∃ f ∈ es, f.1 = t ∧ f.2.1 ≤ e.2.1 + 1
/-- how far the search is: all ahead of at is done, and part of what leads on from at -/
structure Bfs (wds : List WD) (tb : List (List Int)) (es : List Ent) (at_ part : Nat) : Prop where
  start : es[0]? = some (zerosI tb.length, 0, none)
  nd : (es.map (·.1)).Nodup
  good : ∀ e ∈ es, GoodK tb e.1
  back : ∀ (j : Nat) (e : Ent) (n : Int) (b : List Int), es[j]? = some e → e.2.2 = some (n, b) → ∃ (i : Nat) (d : Ent), i < j ∧ i ≤ at_ ∧ es[i]? = some d ∧ d.1 = b ∧ e.2.1 = d.2.1 + 1 ∧ (n, e.1) ∈ mendM wds tb b
  first : ∀ (j : Nat) (e : Ent), es[j]? = some e → e.2.2 = none → j = 0
  done : ∀ (i : Nat) (e : Ent), i < at_ → es[i]? = some e → broL (stand tb e.1) wds wds.length ≠ [] ∧ ∀ m ∈ mendM wds tb e.1, Near es e m.2
  doing : ∀ (e : Ent), es[at_]? = some e → ∀ m ∈ (mendM wds tb e.1).take part, Near es e m.2
  mono : ∀ (i j : Nat) (e f : Ent), i ≤ j → es[i]? = some e → es[j]? = some f → e.2.1 ≤ f.2.1
  near : ∀ (j : Nat) (e f : Ent), es[at_]? = some f → es[j]? = some e → e.2.1 ≤ f.2.1 + 1
theorem Bfs.few {es : List Ent} {a p : Nat} (h : Bfs wds tb es a p) : es.length ≤ prodL (tb.map List.length) := by
  have z := box_few (l := tb.map List.length) h.nd fun t ht => by
    obtain ⟨e, he, rfl⟩ := List.mem_map.mp ht
    exact good_box (h.good e he)
  rwa [List.length_map] at z
theorem Bfs.begin (g : GoodS many hues tb) : Bfs wds tb [(zerosI tb.length, 0, none)] 0 0 where
  start := rfl
  nd := List.nodup_cons.mpr ⟨List.not_mem_nil, List.nodup_nil⟩
  good := fun e he => by
    rw [List.mem_singleton.mp he]
    exact zerosS_good g
  back := fun j e n b hj hb => by
    cases j with
    | zero => cases hj; cases hb
    | succ j => cases hj
  first := fun j e hj _ => by
    cases j with
    | zero => rfl
    | succ j => cases hj
  done := fun i e hi => nomatch hi
  doing := fun e _ m hm => nomatch hm
  mono := fun i j e f _ hi hj => by
    cases i with
    | zero =>
      cases j with
      | zero => cases hi; cases hj; exact Int.le_refl _
      | succ j => cases hj
    | succ i => cases hi
  near := fun j e f ha hj => by
    cases ha
    cases j with
    | zero => cases hj; show (0 : Int) ≤ 0 + 1; decide
    | succ j => cases hj
/-- one that was found already -/
theorem Bfs.old {es : List Ent} {a p : Nat} {e : Ent} {m : Int × List Int} (h : Bfs wds tb es a p) (he : es[a]? = some e) (hm : (mendM wds tb e.1)[p]? = some m) (ho : m.2 ∈ es.map (·.1)) : Bfs wds tb es a (p + 1) :=
  ⟨h.start, h.nd, h.good, h.back, h.first, h.done, fun f hf x hx => by
    rw [he] at hf
    cases hf
    rw [take_snoc hm] at hx
    rcases List.mem_append.mp hx with z | z
    · exact h.doing e he x z
    · rw [List.mem_singleton.mp z]
      obtain ⟨f, hf, ef⟩ := List.mem_map.mp ho
      obtain ⟨j, hj⟩ := List.getElem?_of_mem hf
      exact ⟨f, hf, ef, h.near j f e he hj⟩, h.mono, h.near⟩
theorem get_snoc {α : Type} {l : List α} {x e : α} {j : Nat} (h : (l ++ [x])[j]? = some e) : l[j]? = some e ∨ (j = l.length ∧ e = x) := by
  by_cases c : j < l.length
  · rw [List.getElem?_append_left c] at h
    exact .inl h
  · rw [List.getElem?_append_right (by omega)] at h
    by_cases d : j = l.length
    · subst d
      rw [Nat.sub_self] at h
      cases h
      exact .inr ⟨rfl, rfl⟩
    · rw [List.getElem?_eq_none (by rw [List.length_singleton]; omega)] at h
      cases h
theorem get_more {α : Type} {l : List α} {x e : α} {j : Nat} (h : l[j]? = some e) : (l ++ [x])[j]? = some e := by
  rw [List.getElem?_append_left (List.getElem?_eq_some_iff.mp h).1]
  exact h
/-- a new one -/
theorem Bfs.new {es : List Ent} {a p : Nat} {e : Ent} {m : Int × List Int} (h : Bfs wds tb es a p) (he : es[a]? = some e) (hm : (mendM wds tb e.1)[p]? = some m) (hn : m.2 ∉ es.map (·.1)) : Bfs wds tb (es ++ [(m.2, e.2.1 + 1, some (m.1, e.1))]) a (p + 1) := by
  have al := (List.getElem?_eq_some_iff.mp he).1
  have mm := List.mem_of_getElem? hm
  have sub : ∀ d t, Near es d t → Near (es ++ [((m.2, e.2.1 + 1, some (m.1, e.1)) : Ent)]) d t := fun d t ht => by
    obtain ⟨f, hf, q⟩ := ht
    exact ⟨f, List.mem_append_left _ hf, q⟩
  have gn := mend_good (h.good e (List.mem_of_getElem? he)) mm
  have ea : (es ++ [((m.2, e.2.1 + 1, some (m.1, e.1)) : Ent)])[a]? = some e := get_more he
  refine ⟨get_more h.start, ?_, fun x hx => ?_, fun j x n b hj hb => ?_, fun j x hj hb => ?_, fun i x hi hx => ?_, fun x hx y hy => ?_, fun i j x f hij hi hj => ?_, fun j x f hf hj => ?_⟩
  · rw [List.map_append]
    refine List.nodup_append.mpr ⟨h.nd, List.nodup_cons.mpr ⟨List.not_mem_nil, List.nodup_nil⟩, fun b hb c hc => ?_⟩
    rw [List.mem_singleton.mp hc]
    exact fun z => hn (by
      have z : b = m.2 := z
      rw [← z]
      exact hb)
  · rcases List.mem_append.mp hx with z | z
    · exact h.good x z
    · rw [List.mem_singleton.mp z]
      exact gn
  · rcases get_snoc hj with z | ⟨rfl, rfl⟩
    · obtain ⟨i, d, q1, q2, q3, q4⟩ := h.back j x n b z hb
      exact ⟨i, d, q1, q2, get_more q3, q4⟩
    · cases hb
      exact ⟨a, e, al, Nat.le_refl _, ea, rfl, rfl, mm⟩
  · rcases get_snoc hj with z | ⟨rfl, rfl⟩
    · exact h.first j x z hb
    · cases hb
  · rcases get_snoc hx with z | ⟨rfl, rfl⟩
    · obtain ⟨q1, q2⟩ := h.done i x hi z
      exact ⟨q1, fun y hy => sub _ _ (q2 y hy)⟩
    · omega
  · rw [ea] at hx
    cases hx
    rw [take_snoc hm] at hy
    rcases List.mem_append.mp hy with z | z
    · exact sub _ _ (h.doing e he y z)
    · rw [List.mem_singleton.mp z]
      exact ⟨_, List.mem_append_right _ (List.mem_singleton.mpr rfl), rfl, Int.le_refl _⟩
  · rcases get_snoc hj with zj | ⟨rfl, rfl⟩
    · rcases get_snoc hi with zi | ⟨rfl, rfl⟩
      · exact h.mono i j x f hij zi zj
      · have := (List.getElem?_eq_some_iff.mp zj).1
        omega
    · rcases get_snoc hi with zi | ⟨rfl, rfl⟩
      · exact h.near i x e he zi
      · exact Int.le_refl _
  · rw [ea] at hf
    cases hf
    rcases get_snoc hj with z | ⟨rfl, rfl⟩
    · exact h.near j x e he z
    · exact Int.le_refl _
/-- on to the next -/
theorem Bfs.next {es : List Ent} {a : Nat} {e : Ent} (h : Bfs wds tb es a (mendM wds tb e.1).length) (he : es[a]? = some e) (hb : broL (stand tb e.1) wds wds.length ≠ []) : Bfs wds tb es (a + 1) 0 where
  start := h.start
  nd := h.nd
  good := h.good
  back := fun j x n b hj hb => by
    obtain ⟨i, d, q1, q2, q⟩ := h.back j x n b hj hb
    exact ⟨i, d, q1, by omega, q⟩
  first := h.first
  done := fun i x hi hx => by
    by_cases c : i < a
    · exact h.done i x c hx
    · obtain rfl : i = a := by omega
      rw [he] at hx
      cases hx
      refine ⟨hb, fun m hm => h.doing e he m ?_⟩
      rw [List.take_length]
      exact hm
  doing := fun x _ m hm => by
    rw [List.take_zero] at hm
    exact nomatch hm
  mono := h.mono
  near := fun j x f hf hj => by
    have n1 := h.near j x e he hj
    have n2 := h.mono a (a + 1) e f (by omega) he hf
    omega
/-- by these wishes from there to there -/
def Steps (wds : List WD) (tb : List (List Int)) : List Int → List Int → List Int → Prop
  | t, [], u => t = u
  | t, n :: ns, u => ∃ v, (n, v) ∈ mendM wds tb t ∧ Steps wds tb v ns u
theorem Steps.snoc : ∀ {ns : List Int} {t u v : List Int} {n : Int}, Steps wds tb t ns u → (n, v) ∈ mendM wds tb u → Steps wds tb t (ns ++ [n]) v
  | [], t, u, v, n, h, m => ⟨v, by rw [show t = u from h]; exact m, rfl⟩
  | k :: ns, t, u, v, n, h, m => by
    obtain ⟨w, hw, hr⟩ := h
    exact ⟨w, hw, Steps.snoc hr m⟩
theorem Steps.unsnoc : ∀ {ns : List Int} {t v : List Int} {n : Int}, Steps wds tb t (ns ++ [n]) v → ∃ u, Steps wds tb t ns u ∧ (n, v) ∈ mendM wds tb u
  | [], t, v, n, h => by
    obtain ⟨w, hw, hr⟩ := h
    rw [show w = v from hr] at hw
    exact ⟨t, rfl, hw⟩
  | k :: ns, t, v, n, h => by
    obtain ⟨w, hw, hr⟩ := h
    obtain ⟨u, h1, h2⟩ := Steps.unsnoc hr
    exact ⟨u, ⟨w, hw, h1⟩, h2⟩
theorem Bfs.at0 {es : List Ent} {a p : Nat} (h : Bfs wds tb es a p) {j : Nat} {e : Ent} (hj : es[j]? = some e) : 0 ≤ e.2.1 := h.mono 0 j _ e (Nat.zero_le _) h.start hj
/-- of depth none is the first alone -/
theorem Bfs.root {es : List Ent} {a p : Nat} (h : Bfs wds tb es a p) {j : Nat} {e : Ent} (hj : es[j]? = some e) (hd : e.2.1 ≤ 0) : e.1 = zerosI tb.length := by
  cases hb : e.2.2 with
  | none =>
    obtain rfl := h.first j e hj hb
    rw [h.start] at hj
    cases hj
    rfl
  | some nb =>
    obtain ⟨i, d, _, _, q3, _, q5, _⟩ := h.back j e nb.1 nb.2 hj hb
    have := h.at0 q3
    omega
/-- whatever may be reached is found no later, or something ahead is nearer -/
theorem Bfs.all {es : List Ent} {a : Nat} (h : Bfs wds tb es a 0) : ∀ (ns t : List Int), Steps wds tb (zerosI tb.length) ns t → (∃ (j : Nat) (e : Ent), es[j]? = some e ∧ e.1 = t ∧ e.2.1 ≤ (ns.length : Int)) ∨ ∃ (j : Nat) (e : Ent), a ≤ j ∧ es[j]? = some e ∧ e.2.1 ≤ (ns.length : Int) := by
  intro ns
  obtain ⟨k, hk⟩ : ∃ k, k = ns.length := ⟨_, rfl⟩
  induction k generalizing ns with
  | zero =>
    intro t ht
    rw [List.length_eq_zero_iff.mp hk.symm] at ht
    exact .inl ⟨0, _, h.start, ht, Int.natCast_nonneg _⟩
  | succ k ih =>
    intro t ht
    have ne : ns ≠ [] := fun z => by rw [z] at hk; cases hk
    have e := List.dropLast_concat_getLast ne
    rw [← e] at ht
    obtain ⟨u, h1, h2⟩ := Steps.unsnoc ht
    have dl : k = ns.dropLast.length := by rw [List.length_dropLast]; omega
    rcases ih ns.dropLast dl u h1 with ⟨j, d, hj, eu, hd⟩ | ⟨j, d, ha, hj, hd⟩
    · by_cases c : j < a
      · obtain ⟨f, hf, ef, lf⟩ := (h.done j d c hj).2 _ (by rw [eu]; exact h2)
        obtain ⟨i, hi⟩ := List.getElem?_of_mem hf
        exact .inl ⟨i, f, hi, ef, by omega⟩
      · exact .inr ⟨j, d, by omega, hj, by omega⟩
    · exact .inr ⟨j, d, ha, hj, by omega⟩
/-- the end found is reached by as many as it is deep, and no other with all kept by fewer -/
theorem Bfs.least {es : List Ent} {a : Nat} {e : Ent} (h : Bfs wds tb es a 0) (he : es[a]? = some e) {ns t : List Int} (hs : Steps wds tb (zerosI tb.length) ns t) (hk : broL (stand tb t) wds wds.length = []) : e.2.1 ≤ (ns.length : Int) := by
  rcases h.all ns t hs with ⟨j, d, hj, eu, hd⟩ | ⟨j, d, ha, hj, hd⟩
  · by_cases c : j < a
    · have := (h.done j d c hj).1
      rw [eu] at this
      exact (this hk).elim
    · have := h.mono a j e d (by omega) he hj
      omega
  · have := h.mono a j e d ha he hj
    omega
theorem Bfs.never {es : List Ent} (h : Bfs wds tb es es.length 0) {ns t : List Int} (hs : Steps wds tb (zerosI tb.length) ns t) : broL (stand tb t) wds wds.length ≠ [] := by
  rcases h.all ns t hs with ⟨j, d, hj, eu, hd⟩ | ⟨j, d, ha, hj, hd⟩
  · have := (h.done j d (List.getElem?_eq_some_iff.mp hj).1 hj).1
    rw [eu] at this
    exact this
  · have := (List.getElem?_eq_some_iff.mp hj).1
    omega
/-- no deeper than it stands -/
theorem Bfs.deep {es : List Ent} {a p : Nat} (h : Bfs wds tb es a p) : ∀ (j : Nat) (e : Ent), es[j]? = some e → e.2.1 ≤ (j : Int) := by
  intro j
  induction j using Nat.strongRecOn with
  | ind j ih =>
    intro e hj
    cases hb : e.2.2 with
    | none =>
      obtain rfl := h.first j e hj hb
      rw [h.start] at hj
      cases hj
      exact Int.le_refl _
    | some nb =>
      obtain ⟨i, d, q1, _, q3, _, q5, _⟩ := h.back j e nb.1 nb.2 hj hb
      have := ih i q1 d q3
      omega
/-- each found is reached by as many as it is deep -/
theorem Bfs.path {es : List Ent} {a p : Nat} (h : Bfs wds tb es a p) : ∀ (j : Nat) (e : Ent), es[j]? = some e → ∃ ns, Steps wds tb (zerosI tb.length) ns e.1 ∧ (ns.length : Int) = e.2.1 := by
  intro j
  induction j using Nat.strongRecOn with
  | ind j ih =>
    intro e hj
    cases hb : e.2.2 with
    | none =>
      obtain rfl := h.first j e hj hb
      rw [h.start] at hj
      cases hj
      exact ⟨[], rfl, rfl⟩
    | some nb =>
      obtain ⟨i, d, q1, _, q3, q4, q5, q6⟩ := h.back j e nb.1 nb.2 hj hb
      obtain ⟨ns, h1, h2⟩ := ih i q1 d q3
      rw [q4] at h1
      refine ⟨ns ++ [nb.1], h1.snoc q6, ?_⟩
      rw [List.length_append]
      have : (([nb.1] : List Int).length : Nat) = 1 := rfl
      omega
end
end Rd

set_option autoImplicit false
set_option Elab.async false
set_option linter.all false
set_option maxRecDepth 100000
set_option maxHeartbeats 4000000
namespace Rd
open PySem PySem.Spec PyProof.Rows L2 Dt
theorem tups_atD {H : Hp} {p : Addr} {o x : HO} (h : H p = some x) (n1 : ∀ xs, x ≠ .tup xs) (n2 : ∀ q xs, x ≠ .frz q (.tup xs)) : Tups H (upd H p o) := ⟨fun b xs e => by
    rw [upd_ne (fun z => by rw [z, h] at e; exact n1 xs (Option.some.inj e))]
    exact e, fun b q xs e => by
    rw [upd_ne (fun z => by rw [z, h] at e; exact n2 q xs (Option.some.inj e))]
    exact e⟩
abbrev sSea : Stmt := topS 22
abbrev nSea : List Str := ["riddle", "table", "start", "ways", "waiting", "at", "taken", "number", "after", "draws"]
theorem scSea : FnScope nSea ["riddle", "table"] (defScope sSea) := ⟨rfl, rfl, rfl, by decide +kernel, rfl, by decide +kernel, by decide +kernel⟩
/-- what is kept of one found -/
def IsFnd (H : Hp) (t : Addr) (e : Ent) : Prop := match e.2.2 with
  | none => H t = some (.tup [.int e.2.1, .non, .non])
  | some (n, b) => ∃ ba, H t = some (.tup [.int e.2.1, .int n, .ref ba]) ∧ H ba = some (.tup (b.map V.int))
def IsWayB (H : Hp) (kv : List Key × V) (e : Ent) : Prop := kv.1 = keyB e.1 ∧ ∃ t, kv.2 = .ref t ∧ IsFnd H t e
theorem IsFnd.mono {H H' : Hp} {t : Addr} {e : Ent} (tu : Tups H H') (h : IsFnd H t e) : IsFnd H' t e := by
  unfold IsFnd at *
  split at h
  · exact tu _ _ h
  · obtain ⟨ba, h1, h2⟩ := h
    exact ⟨ba, tu _ _ h1, tu _ _ h2⟩
theorem IsWayB.mono {H H' : Hp} {kv : List Key × V} {e : Ent} (tu : Tups H H') (h : IsWayB H kv e) : IsWayB H' kv e := by
  obtain ⟨h1, t, h2, h3⟩ := h
  exact ⟨h1, t, h2, h3.mono tu⟩
theorem way_keys {H : Hp} : ∀ {kvs : List (List Key × V)} {es : List Ent}, Paired (IsWayB H) kvs es → kvs.map (·.1) = (es.map (·.1)).map keyB
  | _, _, .nil => rfl
  | _, _, .cons h t => by rw [List.map_cons, List.map_cons, List.map_cons, way_keys t, h.1]
/-- it is told of one that is there -/
theorem way_at {H : Hp} {e : Ent} : ∀ {kvs : List (List Key × V)} {es : List Ent}, Paired (IsWayB H) kvs es → (es.map (·.1)).Nodup → e ∈ es → ∃ t, valV kvs (keyB e.1) = some (.ref t) ∧ IsFnd H t e
  | _, _, .nil, _, m => nomatch m
  | _, _, .cons (a := kv) (b := d) h t, nd, m => by
    rw [List.map_cons, List.nodup_cons] at nd
    obtain ⟨h1, a, h2, h3⟩ := h
    rcases List.mem_cons.mp m with z | z
    · subst z
      exact ⟨a, by rw [valV_pos h1, h2], h3⟩
    · have ne : ¬ kv.1 = keyB e.1 := fun q => nd.1 (by
        have := keyB_inj (h1.symm.trans q)
        rw [this]
        exact List.mem_map.mpr ⟨e, z, rfl⟩)
      rw [valV_neg ne]
      exact way_at t nd.2 z
theorem way_none {H : Hp} {kvs : List (List Key × V)} {es : List Ent} {a : List Int} (p : Paired (IsWayB H) kvs es) : (valV kvs (keyB a)).isSome = decide (a ∈ es.map (·.1)) := by
  have k := way_keys p
  by_cases m : a ∈ es.map (·.1)
  · rw [decide_eq_true m]
    have : keyB a ∈ kvs.map (·.1) := by
      rw [k]
      exact List.mem_map.mpr ⟨a, m, rfl⟩
    cases e : valV kvs (keyB a) with
    | some v => rfl
    | none => exact (valV_not e this).elim
  · rw [decide_eq_false m]
    cases e : valV kvs (keyB a) with
    | none => rfl
    | some v =>
      have q := valV_in e
      rw [k] at q
      obtain ⟨b, hb, eb⟩ := List.mem_map.mp q
      rw [← keyB_inj eb] at m
      exact (m hb).elim
theorem IsFnd.tup {H : Hp} {t : Addr} {e : Ent} (h : IsFnd H t e) : ∃ y z, H t = some (.tup [.int e.2.1, y, z]) := by
  unfold IsFnd at h
  split at h
  · exact ⟨_, _, h⟩
  · obtain ⟨ba, h1, _⟩ := h
    exact ⟨_, _, h1⟩
theorem way_len {H : Hp} {kvs : List (List Key × V)} {es : List Ent} (p : Paired (IsWayB H) kvs es) : kvs.length = es.length := pairedLen p
/-- how the search ends -/
def SeaEnd (wds : List WD) (tb : List (List Int)) (es : List Ent) (H : Hp) (last : V) : Prop :=
  (∃ (a : Nat) (e : Ent) (la : Addr), last = .ref la ∧ H la = some (.tup (e.1.map V.int)) ∧ es[a]? = some e ∧ broL (stand tb e.1) wds wds.length = [] ∧ Bfs wds tb es a 0) ∨ (last = .non ∧ Bfs wds tb es es.length 0)
def spSea (Ps : List Addr) : Sp := fun vs H Q _ => ∃ (ri ta : Addr) (wds : List WD) (many hues : Int) (tb : List (List Int)), vs = [.ref ri, .ref ta] ∧ IsRid H ri many hues wds ∧ GoodR many hues wds ∧ IsTab (fun _ => False) H ta tb ∧ GoodS many hues tb ∧ prodL (tb.map List.length) ≤ 5000 ∧ Tabs Ps H ∧
  ∀ H' t wa kvs es last, FrS Ps H H' → H t = none → H wa = none → H' t = some (.tup [.ref wa, last]) → H' wa = some (.dT kvs) → Paired (IsWayB H') kvs es → SeaEnd wds tb es H' last → Q (.ref t) H'
structure TxtSea (P : Program) (w : World) (K : PySem.W.Frag) (mg : Str → Option Value) (base : Heap) (Ps : List Addr) : Prop where
  m_tuple : mg "tuple" = none
  m_len : mg "len" = none
  c_broken : Cal P w K mg base 5 "broken" ["riddle", "filling"] (spBro Ps)
  c_standing : Cal P w K mg base 3 "standing" ["table", "taken"] (spStaE Ps)
  c_mendings : Cal P w K mg base 6 "mendings" ["riddle", "table", "taken"] (spMds Ps)
section
variable {P : Program} {w : World} {K : PySem.W.Frag} {mg : Str → Option Value} {base : Heap}
theorem ok_sea {f c Pt : Addr} {Ps : List Addr} {fd : FuncData} {k : Nat} (F : FunC K "searched" "searched" sSea f fd (.ref c)) (TB : GxR.TabB base mg c Pt) (hP : Pt ∈ Ps) (T : TxtSea P w K mg base Ps) : FnOk P w K mg base CX0 (k + 7) f fd ["riddle", "table"] (spSea Ps) := by
  refine F.ok scSea (fun vs H Q E h => ?_) (fun A outer s H vs Q E hr h => ?_)
  · obtain ⟨ri, ta, wds, many, hues, tb, rfl, _⟩ := h
    rfl
  · obtain ⟨ri, ta, wds, many, hues, tb, rfl, hrd, g, htb, gs, hp, hT, q⟩ := h
    refine ⟨_, (pss_cons (ps_set (i := 2) scSea.nd rfl (Or.inl rfl) (Gx.pe_tupX (own := [("draws", 9)]) hr (by rfl) T.m_tuple rfl scSea.nd TB rfl (blkOk_by (own := [("draws", 9)]) (N := nSea) (sc := defScope sSea) (by decide +kernel)) ⟨rfl, by decide +kernel, rfl⟩ (pi_list (pv 1))
   (fun _ _ _ _ _ _ hA => (pg_name (i := 9) scSea.nd rfl (Or.inl rfl))) (fun _ _ _ _ _ _ hA => pts_nil) (fun _ _ _ _ _ _ hA => pe_int)))
  (pss_cons (ps_set (i := 3) scSea.nd rfl (Or.inl rfl) (pe_disp1T (hu_of hr) (pv 2) (pe_tup (pa_cons pe_int (pa_cons pe_non (pa_cons pe_non pa_nil))))))
  (pss_cons (ps_set (i := 4) scSea.nd rfl (Or.inl rfl) (pe_lst (pa_cons (pv 2) pa_nil)))
  (pss_cons (ps_set (i := 5) scSea.nd rfl (Or.inl rfl) pe_int)
  (pss_cons (ps_while PassesOwn.never (pt_cmpR op_lt (pv 5) (pe_callB call_len_seq (by rfl) T.m_len (by decide +kernel) (pa_cons (pv 4) pa_nil)) (nomark _))
  (pss_cons (ps_set (i := 6) scSea.nd rfl (Or.inl rfl) (pe_ix ix_list (pv 4) (pv 5) (fun _ _ => rfl)))
  (pss_cons (ps_if (pt_not (pt_truth (pe_cal T.c_broken (hr.mono (by omega)) (by rfl) (pa_cons (pv 0) (pa_cons (pe_cal T.c_standing (hr.mono (by omega)) (by rfl) (pa_cons (pv 1) (pa_cons (pv 6) pa_nil))) pa_nil))) (by intro _; rfl)))
  (pss_one (ps_ret (pe_tup (pa_cons (pv 3) (pa_cons (pv 6) pa_nil))))) pss_nil)
  (pss_cons (ps_for PassesOwn.never rfl (pi_list (pe_cal T.c_mendings (hr.mono (by omega)) (by rfl) (pa_cons (pv 0) (pa_cons (pv 1) (pa_cons (pv 6) pa_nil))))) (pg_tup rfl (pgs_cons (pg_name (i := 7) scSea.nd rfl (Or.inl rfl)) (pgs_cons (pg_name (i := 8) scSea.nd rfl (Or.inl rfl)) pgs_nil)))
  (pss_one (ps_if (pt_cmp (pc_dnotin (hu_of hr) (pv 8) (pv 3)))
  (pss_cons (ps_dput (hu_of hr) (pv 3) (pv 8) (pe_tup (pa_cons (pe_op op_add (pe_ix ix_tup (pe_dget (hu_of hr) (pv 3) (pv 6) (fun _ _ => rfl)) pe_int (fun _ _ => rfl)) pe_int) (pa_cons (pv 7) (pa_cons (pv 6) pa_nil)))) rfl)
  (pss_one (ps_expr (pe_bm PySem.F.plainAttrs_list PySem.F.slot_list_append PySem.F.type_list_append mt_append (pv 4) (pa_cons (pv 8) pa_nil))))) pss_nil)))
  (pss_one (ps_aug (i := 5) scSea.nd rfl (Or.inl rfl) pe_int ip_add))))))
  (pss_one (ps_ret (pe_tup (pa_cons (pv 3) (pa_cons pe_non pa_nil)))))))))), ?_⟩
    obtain ⟨das, h1, _, _, pr⟩ := id htb
    have dl := pairedLen pr
    have tl := gs.len
    have m6 := g.m6
    -- start
    refine ⟨.ref ta, rfl, ta, rfl, ⟨_, .inl (.inl h1)⟩, hT _ hP, fun H2 tb2 => ?_⟩
    have f2 := FrS.one hT hP tb2
    refine Gx.tup_walk (J := Itl K ta) (n := das.length) (Nat.le_of_lt (small1000 (by omega))) (fun i zs H3 => FrS Ps H H3 ∧ zs = (zerosI i).map V.int) ⟨f2, rfl⟩ (fun i zs H3 hi p => ⟨_, _, .inl (.inl ((p.1.seqs hT).2 _ _ h1)), by rw [List.getElem?_map, List.getElem?_eq_getElem hi]; rfl⟩) (fun zs H3 p => ⟨_, .inl (.inl ((p.1.seqs hT).2 _ _ h1)), by rw [List.length_map]; exact Nat.le_refl _⟩) (fun i zs H3 p => by rw [p.2, List.length_map]; simp [zerosI]) (fun i x zs H3 H4 hi p y => ?_) (fun zs H3 p => ?_)
    · obtain ⟨f3, rfl⟩ := p
      obtain ⟨rfl, _⟩ := y
      refine ⟨rfl, yes_if ⟨f3, ?_⟩⟩
      unfold zerosI
      rw [List.replicate_succ', List.map_append]
      rfl
    obtain ⟨f3, rfl⟩ := p
    rw [dl]
    intro sa nsa
    have f4 := f3.same (same_upd (o := .tup ((zerosI tb.length).map V.int)) nsa)
    have hsa : upd H3 sa (.tup ((zerosI tb.length).map V.int)) sa = some (.tup ((zerosI tb.length).map V.int)) := upd_same
    generalize upd H3 sa (.tup ((zerosI tb.length).map V.int)) = H4 at f4 hsa
    -- ways
    intro wa nwa
    have nwa0 := f4.free nwa
    have nwaP := hT.new nwa0
    have s5 := same_upd (o := .dT []) nwa
    have hwa5 := upd_same (H := H4) (a := wa) (o := .dT [])
    refine ⟨.ref sa, rfl, (by show 3 ≤ sizeLine; decide), fun t0 nt0 => ?_⟩
    have s6 := same_upd (o := .tup [.int 0, .non, .non]) nt0
    have hwa6 := s6 _ _ hwa5
    have ht0 := upd_same (H := upd H4 wa (.dT [])) (a := t0) (o := .tup [.int 0, .non, .non])
    have hsa6 := s6 _ _ (s5 _ _ hsa)
    have f6 := (f4.same s5).same s6
    generalize upd (upd H4 wa (.dT [])) t0 (.tup [.int 0, .non, .non]) = H6 at f6 hwa6 ht0 hsa6
    clear s6 hwa5 s5 hsa nt0 nwa nsa f3 f2 tb2
    have nT : ∀ {b : Addr} {xs : List V}, H6 b = some (.tup xs) → b ≠ wa := fun {b xs} e z => by
      rw [z, hwa6] at e
      cases e
    refine ⟨sa, keyB (zerosI tb.length), rfl, hwa6, by rw [keyB_kV]; exact hsa6, ?_⟩
    have f7 := f6.put (o := .dT [(keyB (zerosI tb.length), V.ref t0)]) nwa0 nwaP
    have hwa7 : upd H6 wa (.dT [(keyB (zerosI tb.length), .ref t0)]) wa = some (.dT [(keyB (zerosI tb.length), .ref t0)]) := upd_same
    have ht07 : upd H6 wa (.dT [(keyB (zerosI tb.length), .ref t0)]) t0 = some (.tup [.int 0, .non, .non]) := by rw [upd_ne (nT ht0)]; exact ht0
    have hsa7 : upd H6 wa (.dT [(keyB (zerosI tb.length), .ref t0)]) sa = some (.tup ((zerosI tb.length).map V.int)) := by rw [upd_ne (nT hsa6)]; exact hsa6
    generalize upd H6 wa (.dT [(keyB (zerosI tb.length), .ref t0)]) = H7 at f7 hwa7 ht07 hsa7
    clear nT hwa6 ht0 hsa6 f6 f4 H6 H4
    -- waiting
    refine ⟨.ref sa, rfl, (by show 1 ≤ sizeLine; decide), fun wl nwl => ?_⟩
    have nwl0 := f7.free nwl
    have nwlP := hT.new nwl0
    have s8 := same_upd (o := .lst [V.ref sa]) nwl
    have f8 := f7.same s8
    have hwl8 := upd_same (H := H7) (a := wl) (o := .lst [V.ref sa])
    have hwa8 := s8 _ _ hwa7
    have ht08 := s8 _ _ ht07
    have hsa8 := s8 _ _ hsa7
    have nwawl : wa ≠ wl := ne_of_none hwa7 nwl
    generalize upd H7 wl (.lst [V.ref sa]) = H8 at f8 hwl8 hwa8 ht08 hsa8
    clear s8 nwl hwa7 ht07 hsa7 f7 H7
    refine ⟨fun m σ Hm => FrS Ps H Hm ∧ ∃ (a : Nat) (es : List Ent) (kvs : List (List Key × V)) (as : List Addr), m = 5001 - a ∧ a ≤ es.length ∧ Hm wa = some (.dT kvs) ∧ Paired (IsWayB Hm) kvs es ∧ Hm wl = some (.lst (as.map V.ref)) ∧ Paired (IsRow Hm) as (es.map (·.1)) ∧ Bfs wds tb es a 0 ∧
      ∃ y6 y7 y8, σ = [some (.ref ri), some (.ref ta), some (.ref sa), some (.ref wa), some (.ref wl), some (.int (a : Int)), y6, y7, y8, none], ⟨5001, f8, 0, [((zerosI tb.length, 0, none) : Ent)], _, [sa], rfl, Nat.zero_le _, hwa8, .cons ⟨rfl, t0, rfl, ht08⟩ .nil, hwl8, (.cons (show IsRow H8 sa (zerosI tb.length) from hsa8) .nil), Bfs.begin gs, none, none, none, rfl⟩, ?_⟩
    clear hwa8 ht08 hsa8 hwl8 f8
    rintro m σ Hm ⟨Fm, a, es, kvs, as, rfl, ale, hwa, pw, hwl, pas, B, y6, y7, y8, rfl⟩
    have al := pairedLen pas
    rw [List.length_map] at al
    have few := Nat.le_trans B.few hp
    refine ⟨.int (a : Int), rfl, .ref wl, rfl, wl, _, rfl, .inl (.inl (.inl hwl)), _, _, rfl, rfl, _, rfl, ite2 (fun c => ?_) (fun c => ?_)⟩
    · rw [List.length_map, al] at c
      have c : a < es.length := by simpa using c
      have c2 : a < as.length := by omega
      obtain ⟨e, he⟩ : ∃ e, es[a]? = some e := ⟨_, List.getElem?_eq_getElem c⟩
      obtain ⟨la, ela, hla⟩ := pairedGet pas (show (es.map (·.1))[a]? = some e.1 by rw [List.getElem?_map, he]; rfl)
      have hla : Hm la = some (.tup (e.1.map V.int)) := hla
      have em := List.mem_of_getElem? he
      have gk := B.good e em
      have gf := standS_good gs gk
      refine ⟨fun σ' Hn => FrS Ps H Hn ∧ ∃ (es : List Ent) (kvs : List (List Key × V)) (as : List Addr), a + 1 ≤ es.length ∧ Hn wa = some (.dT kvs) ∧ Paired (IsWayB Hn) kvs es ∧ Hn wl = some (.lst (as.map V.ref)) ∧ Paired (IsRow Hn) as (es.map (·.1)) ∧ Bfs wds tb es (a + 1) 0 ∧ ∃ y6 y7 y8, σ' = [some (.ref ri), some (.ref ta), some (.ref sa), some (.ref wa), some (.ref wl), some (.int ((a + 1 : Nat) : Int)), y6, y7, y8, none], ?_, ?_⟩
      · rintro σ' H' ⟨F', es', kvs', as', q1, q2, q3, q4, q5, q6, q7⟩
        exact ⟨5001 - (a + 1), by omega, F', a + 1, es', kvs', as', rfl, q1, q2, q3, q4, q5, q6, q7⟩
      refine ⟨.ref wl, rfl, .int (a : Int), rfl, wl, _, _, .ref la, rfl, rfl, .inl (.inl hwl), atI_nat (map_at ela), ?_⟩
      have htbm : IsTab (fun _ => False) Hm ta tb := htb.mono fun b xs _ z => (Fm.seqs hT).2 _ _ z
      refine ⟨.ref ri, rfl, .ref ta, rfl, .ref la, rfl, false, ta, la, tb, e.1, rfl, htbm, .inr ⟨rfl, hla⟩, gk, by omega, Fm.2, fun H9 fa f9 nfa hfa => ?_⟩
      refine ⟨ri, fa, _, wds, many, hues, rfl, hrd.mono ((Fm.trans f9).tups hT), hfa, gf, g, f9.2, fun Ha lb fa2 nlb hlb => ?_⟩
      have fa := f9.trans fa2
      have Fa := Fm.trans fa
      have ta' := fa.tups Fm.2
      have hwaA := fa.1 wa _ nwaP hwa
      have hwlA := fa.1 wl _ nwlP hwl
      have pwA := pairedMap (fun _ _ z => IsWayB.mono ta' z) pw
      have pasA : Paired (IsRow Ha) as (es.map (·.1)) := pairedMap (fun _ _ z => ta' _ _ z) pas
      have hlaA := ta' _ _ hla
      refine ⟨_, .inl ⟨_, .inl (.inl hlb), rfl⟩, ?_⟩
      clear hwa pw hwl pas hla f9 fa2 hfa nfa nlb
      cases hb : broL (stand tb e.1) wds wds.length with
      | nil =>
        refine iteT ?_
        refine ⟨.ref wa, rfl, .ref la, rfl, (by show 2 ≤ sizeLine; decide), fun t nt => ?_⟩
        have st := same_upd (o := .tup [.ref wa, .ref la]) nt
        exact q _ t wa kvs es (.ref la) (Fa.same st) (Fa.free nt) nwa0 upd_same (st _ _ hwaA) (pairedMap (fun _ _ z => IsWayB.mono (tups_same st) z) pwA) (.inl ⟨a, e, la, rfl, st _ _ hlaA, he, hb, B⟩)
      | cons kb rb =>
        refine iteF ?_
        have hne : broL (stand tb e.1) wds wds.length ≠ [] := by rw [hb]; exact fun z => nomatch z
        have htbA : IsTab (fun _ => False) Ha ta tb := htb.mono fun b xs _ z => (Fa.seqs hT).2 _ _ z
        refine ⟨.ref ri, rfl, .ref ta, rfl, .ref la, rfl, ri, ta, la, wds, many, hues, tb, e.1, rfl, hrd.mono (Fa.tups hT), g, htbA, hlaA, gk, gf, tl, Fa.2, fun Hb lm ms fb nlm hlm pms => ?_⟩
        have Fb := Fa.trans fb
        have tb' := fb.tups Fa.2
        have hwaB := fb.1 wa _ nwaP hwaA
        have hwlB := fb.1 wl _ nwlP hwlA
        have pwB := pairedMap (fun _ _ z => IsWayB.mono tb' z) pwA
        have pasB : Paired (IsRow Hb) as (es.map (·.1)) := pairedMap (fun _ _ z => tb' _ _ z) pasA
        have hlaB := tb' _ _ hlaA
        have nlmwl : lm ≠ wl := fun z => by rw [z, hwlA] at nlm; cases nlm
        have nlmwa : lm ≠ wa := fun z => by rw [z, hwaA] at nlm; cases nlm
        clear hwaA hwlA pwA pasA hlaA fa ta' htbA htbm
        have nTB : ∀ {b : Addr} {xs : List V}, Hb b = some (.tup xs) → b ≠ wa ∧ b ≠ wl := fun {b xs} z => ⟨fun y => (by rw [y, hwaB] at z; cases z), fun y => (by rw [y, hwlB] at z; cases z)⟩
        refine ⟨lm, rfl, ⟨_, .inl (.inl hlm)⟩, ?_⟩
        refine for_list (K := K) (a := lm) (xs := ms.map V.ref) (fun p σ Hc => FrS Ps H Hc ∧ (∀ b o, b ≠ wa → b ≠ wl → Hb b = some o → Hc b = some o) ∧ (∃ (es : List Ent) (kvs : List (List Key × V)) (as : List Addr), es[a]? = some e ∧ Hc wa = some (.dT kvs) ∧ Paired (IsWayB Hc) kvs es ∧ Hc wl = some (.lst (as.map V.ref)) ∧ Paired (IsRow Hc) as (es.map (·.1)) ∧ Bfs wds tb es a p) ∧
          ∃ y7 y8, σ = [some (.ref ri), some (.ref ta), some (.ref sa), some (.ref wa), some (.ref wl), some (.int (a : Int)), some (.ref la), y7, y8, none]) ⟨Fb, fun _ _ _ _ z => z, ⟨es, kvs, as, he, hwaB, pwB, hwlB, pasB, B⟩, y7, y8, rfl⟩ (fun p σ Hc _ z => .inl (.inl (z.2.1 _ _ nlmwa nlmwl hlm))) (fun p x σ Hc hx z => ?_) (fun σ Hc z => ?_)
        · obtain ⟨m0, em0, rfl⟩ := map_get hx
          obtain ⟨⟨n, af⟩, emx, t, hm0, ht⟩ := pairedGetL pms em0
          have hm0 : Hb m0 = some (.tup [.int n, .ref t]) := hm0
          have ht : Hb t = some (.tup (af.map V.int)) := ht
          obtain ⟨Fc, Kc, ⟨es, kvs, as, he, hwa, pw, hwl, pas, B⟩, y7, y8, rfl⟩ := z
          clear hwaB hwlB pwB pasB
          have al := pairedLen pas
          rw [List.length_map] at al
          have few := Nat.le_trans B.few hp
          have kl := pairedLen pw
          have em := List.mem_of_getElem? he
          have hm5 := Kc _ _ (nTB hm0).1 (nTB hm0).2 hm0
          have ht5 := Kc _ _ (nTB ht).1 (nTB ht).2 ht
          have hla5 := Kc _ _ (nTB hlaB).1 (nTB hlaB).2 hlaB
          have ht5' : Hc t = some (.tup ((keyB af).map kV)) := by rw [keyB_kV]; exact ht5
          have hla5' : Hc la = some (.tup ((keyB e.1).map kV)) := by rw [keyB_kV]; exact hla5
          refine ⟨m0, [.int n, .ref t], rfl, .inl (.inl hm5), rfl, .int n, [.ref t], rfl, .ref t, [], rfl, rfl, ?_⟩
          refine ⟨.ref t, rfl, .ref wa, rfl, wa, _, rfl, DGet.t hwa ht5', _, rfl, ?_⟩
          rw [way_none pw]
          by_cases old : af ∈ es.map (·.1)
          · rw [decide_eq_true old]
            refine iteF ⟨Fc, Kc, ⟨es, kvs, as, he, hwa, pw, hwl, pas, B.old he emx old⟩, _, _, rfl⟩
          · rw [decide_eq_false old]
            refine iteT ?_
            obtain ⟨te, ete, hte⟩ := way_at pw B.nd em
            obtain ⟨z1, z2, hte2⟩ := hte.tup
            have vn : valV kvs (keyB af) = none := by
              have := way_none (a := af) pw
              rw [decide_eq_false old] at this
              cases q : valV kvs (keyB af) with
              | none => rfl
              | some v => rw [q] at this; cases this
            refine ⟨.ref wa, rfl, .ref la, rfl, wa, .ref te, rfl, by rw [← ete]; exact DGet.t hwa hla5', te, _, 0, .int e.2.1, rfl, rfl, .inl (.inl hte2), rfl, e.2.1, 1, rfl, rfl, .int n, rfl, .ref la, rfl, (by show 3 ≤ sizeLine; decide), fun Tn nTn => ?_⟩
            have s1 := same_upd (o := .tup [.int (e.2.1 + 1), .int n, .ref la]) nTn
            have hTn := upd_same (H := Hc) (a := Tn) (o := .tup [.int (e.2.1 + 1), .int n, .ref la])
            have hwa1 := s1 _ _ hwa
            have hwl1 := s1 _ _ hwl
            have ht1 := s1 _ _ ht5'
            have hla1 := s1 _ _ hla5
            have ht1r := s1 _ _ ht5
            have F1 := Fc.same s1
            have pw1 := pairedMap (fun _ _ z => IsWayB.mono (tups_same s1) z) pw
            have pas1 : Paired (IsRow (upd Hc Tn (.tup [.int (e.2.1 + 1), .int n, .ref la]))) as (es.map (·.1)) := pairedMap (fun _ _ z => s1 _ _ z) pas
            have K1 : ∀ b o, b ≠ wa → b ≠ wl → Hb b = some o → upd Hc Tn (.tup [.int (e.2.1 + 1), .int n, .ref la]) b = some o := fun b o n1 n2 z => s1 _ _ (Kc b o n1 n2 z)
            generalize upd Hc Tn (.tup [.int (e.2.1 + 1), .int n, .ref la]) = H1' at hTn hwa1 hwl1 ht1 hla1 ht1r F1 pw1 pas1 K1
            clear s1 nTn hwa hwl ht5 ht5' hla5 hla5' Fc pw pas Kc hm5 hte hte2
            refine ⟨.ref wa, rfl, .ref t, rfl, wa, _, rfl, DPut.t hwa1 ht1 (Nat.lt_of_le_of_lt (show kvs.length ≤ 5000 by omega) (by decide)), ?_⟩
            rw [putK_new _ vn]
            have F2 := F1.put (o := .dT (kvs ++ [(keyB af, V.ref Tn)])) nwa0 nwaP
            have tu2 : Tups H1' (upd H1' wa (.dT (kvs ++ [(keyB af, .ref Tn)]))) := tups_atD hwa1 (fun _ z => nomatch z) (fun _ _ z => nomatch z)
            have hwa2 : upd H1' wa (.dT (kvs ++ [(keyB af, .ref Tn)])) wa = some (.dT (kvs ++ [(keyB af, .ref Tn)])) := upd_same
            have hwl2 : upd H1' wa (.dT (kvs ++ [(keyB af, .ref Tn)])) wl = some (.lst (as.map V.ref)) := by rw [upd_ne (Ne.symm nwawl)]; exact hwl1
            have K2 : ∀ b o, b ≠ wa → b ≠ wl → Hb b = some o → upd H1' wa (.dT (kvs ++ [(keyB af, .ref Tn)])) b = some o := fun b o n1 n2 z => by
              rw [upd_ne n1]
              exact K1 b o n1 n2 z
            have pw2 : Paired (IsWayB (upd H1' wa (.dT (kvs ++ [(keyB af, .ref Tn)])))) (kvs ++ [(keyB af, .ref Tn)]) (es ++ [(af, e.2.1 + 1, some (n, e.1))]) := pairedSnoc (pairedMap (fun _ _ z => IsWayB.mono tu2 z) pw1) ⟨rfl, Tn, rfl, la, tu2 _ _ hTn, tu2 _ _ hla1⟩
            have pas2 : Paired (IsRow (upd H1' wa (.dT (kvs ++ [(keyB af, .ref Tn)])))) (as ++ [t]) ((es ++ [((af, e.2.1 + 1, some (n, e.1)) : Ent)]).map (·.1)) := by
              rw [List.map_append]
              exact pairedSnoc (pairedMap (fun _ _ z => tu2 _ _ z) pas1) (tu2 _ _ ht1r)
            generalize upd H1' wa (.dT (kvs ++ [(keyB af, .ref Tn)])) = H2' at F2 hwa2 hwl2 K2 pw2 pas2
            clear tu2 hwa1 hwl1 ht1 hla1 ht1r F1 pw1 pas1 K1 hTn H1'
            refine ⟨.ref wl, rfl, .inl ⟨rfl, _, .inl (.inl hwl2)⟩, .ref t, rfl, wl, _, _, rfl, rfl, hwl2, ?_, ?_⟩
            · rw [List.length_map]
              exact Nat.lt_of_le_of_lt (show as.length ≤ 5000 by omega) (by decide)
            have tu3 : Tups H2' (upd H2' wl (.lst (as.map V.ref ++ [.ref t]))) := tups_atD hwl2 (fun _ z => nomatch z) (fun _ _ z => nomatch z)
            refine ⟨F2.put nwl0 nwlP, fun b o n1 n2 z => ?_, ⟨_, _, as ++ [t], get_more he, ?_, pairedMap (fun _ _ z => IsWayB.mono tu3 z) pw2, ?_, pairedMap (fun _ _ z => tu3 _ _ z) pas2, B.new he emx old⟩, _, _, rfl⟩
            · rw [upd_ne n2]
              exact K2 b o n1 n2 z
            · rw [upd_ne nwawl]
              exact hwa2
            · rw [upd_same, List.map_append]
              rfl
        · obtain ⟨Fc, Kc, ⟨es, kvs, as, he, hwa, pw, hwl, pas, B⟩, y7, y8, rfl⟩ := z
          have ml := pairedLen pms
          rw [List.length_map, ml] at B
          refine ⟨_, rfl, _, _, rfl, rfl, Fc, es, kvs, as, (List.getElem?_eq_some_iff.mp he).1, hwa, pw, hwl, pas, B.next he hne, _, _, _, rfl⟩
    · rw [List.length_map, al] at c
      have c : ¬ a < es.length := fun z => c (by simpa using z)
      obtain rfl : a = es.length := by omega
      refine ⟨.ref wa, rfl, (by show 2 ≤ sizeLine; decide), fun t nt => ?_⟩
      have st := same_upd (o := .tup [.ref wa, .non]) nt
      exact q _ t wa kvs es .non (Fm.same st) (Fm.free nt) nwa0 upd_same (st _ _ hwa) (pairedMap (fun _ _ z => IsWayB.mono (tups_same st) z) pw) (.inr ⟨rfl, B⟩)
end
end Rd

set_option autoImplicit false
set_option Elab.async false
set_option linter.all false
set_option maxRecDepth 100000
set_option maxHeartbeats 4000000
namespace Rd
open PySem PySem.Spec PyProof.Rows L2 Dt
abbrev sRtm : Stmt := topS 19
abbrev nRtm : List Str := ["table", "product", "draws"]
theorem scRtm : FnScope nRtm ["table"] (defScope sRtm) := ⟨rfl, rfl, rfl, by decide +kernel, rfl, by decide +kernel, by decide +kernel⟩
abbrev sFew : Stmt := topS 23
abbrev nFew : List Str := ["riddle", "table", "ways", "taken", "backwards", "depth", "number", "before"]
theorem scFew : FnScope nFew ["riddle", "table"] (defScope sFew) := ⟨rfl, rfl, rfl, by decide +kernel, rfl, by decide +kernel, by decide +kernel⟩
theorem ip_mulF {X : Cx} : PIp X .Mult (fun x y H Q => ∃ i j, x = .int i ∧ y = .int j ∧ CMul i j ∧ Q (.int (i * j)) H) := fun pins s σ H x y v u Q I r1 r2 h => by
  rcases h with ⟨i, j, rfl, rfl, hm, q⟩
  rcases r1 with ⟨t1, rfl⟩
  rcases r2 with ⟨t2, rfl⟩
  exact imul_int ⟨.int (i * j), _, I.tok _, ⟨_, rfl⟩, q⟩ (CMul.ok hm)
theorem prod_app : ∀ (a b : List Nat), prodL (a ++ b) = prodL a * prodL b
  | [], b => by show prodL b = 1 * prodL b; rw [Nat.one_mul]
  | n :: r, b => by show n * prodL (r ++ b) = n * prodL r * prodL b; rw [prod_app r b, Nat.mul_assoc]
theorem prod_pos : ∀ {l : List Nat}, (∀ n ∈ l, 1 ≤ n) → 1 ≤ prodL l
  | [], _ => Nat.le_refl 1
  | n :: r, h => Nat.mul_pos (h n List.mem_cons_self) (prod_pos fun x hx => h x (List.mem_cons_of_mem _ hx))
theorem prod_take {l : List Nat} (h : ∀ n ∈ l, 1 ≤ n) (i : Nat) : prodL (l.take i) ≤ prodL l := by
  have e := List.take_append_drop i l
  have z := prod_app (l.take i) (l.drop i)
  rw [e] at z
  rw [z]
  exact Nat.le_mul_of_pos_right _ (prod_pos fun n hn => h n (List.mem_of_mem_drop hn))
def spRtm : Sp := fun vs H Q _ => ∃ (ta : Addr) (tb : List (List Int)), vs = [.ref ta] ∧ IsTab (fun _ => False) H ta tb ∧ (∀ ds ∈ tb, 1 ≤ ds.length) ∧ prodL (tb.map List.length) ≤ 5000 ∧ Q .non H
def spFew (Ps : List Addr) : Sp := fun vs H Q _ => ∃ (ri ta : Addr) (wds : List WD) (many hues : Int) (tb : List (List Int)), vs = [.ref ri, .ref ta] ∧ IsRid H ri many hues wds ∧ GoodR many hues wds ∧ IsTab (fun _ => False) H ta tb ∧ GoodS many hues tb ∧ prodL (tb.map List.length) ≤ 5000 ∧ Tabs Ps H ∧
  ∀ H', FrS Ps H H' → ((∀ ns t, Steps wds tb (zerosI tb.length) ns t → broL (stand tb t) wds wds.length ≠ []) → Q .non H') ∧
    ∀ l ns t, H l = none → H' l = some (.lst (ns.map V.int)) → Steps wds tb (zerosI tb.length) ns t → broL (stand tb t) wds wds.length = [] → (∀ ns' t', Steps wds tb (zerosI tb.length) ns' t' → broL (stand tb t') wds wds.length = [] → ns.length ≤ ns'.length) → Q (.ref l) H'
structure TxtRtm (mg : Str → Option Value) : Prop where
  m_len : mg "len" = none
  g_MOST_CHOICES : ∃ u, mg "MOST_CHOICES" = some u ∧ RelV (.int 5000) u
structure TxtFew (P : Program) (w : World) (K : PySem.W.Frag) (mg : Str → Option Value) (base : Heap) (Ps : List Addr) : Prop where
  c_refuse_too_many : Cal P w K mg base 1 "refuse_too_many" ["table"] spRtm
  c_searched : Cal P w K mg base 7 "searched" ["riddle", "table"] (spSea Ps)
section
variable {P : Program} {w : World} {K : PySem.W.Frag} {mg : Str → Option Value} {base : Heap}
theorem ok_rtm {f : Addr} {fd : FuncData} {k : Nat} (F : Fun K "refuse_too_many" "refuse_too_many" sRtm f fd) (T : TxtRtm mg) : FnOk P w K mg base CX0 (k + 1) f fd ["table"] spRtm := by
  refine F.ok scRtm (fun vs H Q E h => ?_) (fun cdv A outer s H vs Q E hr h => ?_)
  · obtain ⟨ta, tb, rfl, _⟩ := h
    rfl
  · obtain ⟨ta, tb, rfl, htb, h1, hp, q⟩ := h
    refine ⟨_, (pss_cons (ps_set (i := 1) scRtm.nd rfl (Or.inl rfl) pe_int)
  (pss_cons (ps_for PassesOwn.never rfl (pi_list (pv 0)) (pg_name (i := 2) scRtm.nd rfl (Or.inl rfl))
  (pss_one (ps_aug (i := 1) scRtm.nd rfl (Or.inl rfl) (pe_callB call_len_seq (by rfl) T.m_len (by decide +kernel) (pa_cons (pv 2) pa_nil)) ip_mulF)))
  (pss_one (ps_if (pt_cmpR op_gt (pv 1) (C8.pe_gc (by rfl) T.g_MOST_CHOICES) (nomark _))
  (pss_one Rd.ps_never) pss_nil)))), ?_⟩
    obtain ⟨das, hta, _, _, pr⟩ := id htb
    have dl := pairedLen pr
    have one : ∀ n ∈ tb.map List.length, 1 ≤ n := fun n hn => by
      obtain ⟨ds, hd, rfl⟩ := List.mem_map.mp hn
      exact h1 ds hd
    refine ⟨.ref ta, rfl, ta, rfl, ⟨_, .inl (.inl hta)⟩, ?_⟩
    refine for_list (K := K) (a := ta) (xs := das.map V.ref) (fun i σ H1 => H1 = H ∧ ∃ y2, σ = [some (.ref ta), some (.int ((prodL ((tb.map List.length).take i) : Nat) : Int)), y2]) ⟨rfl, none, rfl⟩ (fun i σ H1 _ p => by rw [p.1]; exact .inl (.inl hta)) (fun i x σ H1 hx p => ?_) (fun σ H1 p => ?_)
    · obtain ⟨rfl, y2, rfl⟩ := p
      obtain ⟨d, ed, rfl⟩ := map_get hx
      obtain ⟨ds, eds, hd⟩ := pairedGetL pr ed
      have hd : H1 d = some (.lst (ds.map V.int)) := hd
      have e1 : (tb.map List.length)[i]? = some ds.length := by rw [List.getElem?_map, eds]; rfl
      have b1 := Nat.le_trans (prod_take one i) hp
      refine ⟨_, rfl, .ref d, rfl, d, _, rfl, .inl (.inl (.inl hd)), _, _, rfl, rfl, .inl ⟨by omega, by omega⟩, rfl, some (.ref d), ?_⟩
      rw [take_snoc e1, prod_app, List.length_map]
      show _ = [some (V.ref ta), some (.int ((prodL ((tb.map List.length).take i) * (ds.length * 1) : Nat) : Int)), some (.ref d)]
      rw [Nat.mul_one, Int.natCast_mul]
      rfl
    · obtain ⟨rfl, y2, rfl⟩ := p
      rw [List.length_map, dl, List.take_of_length_le (by rw [List.length_map]; exact Nat.le_refl _)]
      refine ⟨_, rfl, _, _, rfl, rfl, _, rfl, ite2 (fun c => ?_) (fun c => q)⟩
      have c := of_decide_eq_true c
      omega
theorem ok_few {f : Addr} {Ps : List Addr} {fd : FuncData} {k : Nat} (F : Fun K "fewest" "fewest" sFew f fd) (T : TxtFew P w K mg base Ps) : FnOk P w K mg base CX0 (k + 8) f fd ["riddle", "table"] (spFew Ps) := by
  refine F.ok scFew (fun vs H Q E h => ?_) (fun cdv A outer s H vs Q E hr h => ?_)
  · obtain ⟨ri, ta, wds, many, hues, tb, rfl, _⟩ := h
    rfl
  · obtain ⟨ri, ta, wds, many, hues, tb, rfl, hrd, g, htb, gs, hp, hT, q⟩ := h
    refine ⟨_, (pss_cons (ps_expr (pe_cal T.c_refuse_too_many (hr.mono (by omega)) (by rfl) (pa_cons (pv 1) pa_nil)))
  (pss_cons (ps_asg (pe_cal T.c_searched (hr.mono (by omega)) (by rfl) (pa_cons (pv 0) (pa_cons (pv 1) pa_nil))) (pg_tup rfl (pgs_cons (pg_name (i := 2) scFew.nd rfl (Or.inl rfl)) (pgs_cons (pg_name (i := 3) scFew.nd rfl (Or.inl rfl)) pgs_nil))))
  (pss_cons (ps_if (pt_cmpR op_isN (pv 3) pe_non (nomark _))
  (pss_one (ps_ret pe_non)) pss_nil)
  (pss_cons (ps_set (i := 4) scFew.nd rfl (Or.inl rfl) (pe_lst pa_nil))
  (pss_cons (ps_while PassesOwn.never (pt_cmpR op_gt (pe_ix ix_tup (pe_dget (hu_of hr) (pv 2) (pv 3) (fun _ _ => rfl)) pe_int (fun _ _ => rfl)) pe_int (nomark _))
  (pss_cons (ps_asg (pe_dget (hu_of hr) (pv 2) (pv 3) (fun _ _ => rfl)) (pg_tup rfl (pgs_cons (pg_name (i := 5) scFew.nd rfl (Or.inl rfl)) (pgs_cons (pg_name (i := 6) scFew.nd rfl (Or.inl rfl)) (pgs_cons (pg_name (i := 7) scFew.nd rfl (Or.inl rfl)) pgs_nil)))))
  (pss_cons (ps_expr (pe_bm PySem.F.plainAttrs_list PySem.F.slot_list_append PySem.F.type_list_append mt_append (pv 4) (pa_cons (pv 6) pa_nil)))
  (pss_one (ps_set (i := 3) scFew.nd rfl (Or.inl rfl) (pv 7))))))
  (pss_one (ps_ret (pe_revL (pv 4))))))))), ?_⟩
    refine ⟨.ref ta, rfl, ta, tb, rfl, htb, gs.one, hp, ?_⟩
    refine ⟨.ref ri, rfl, .ref ta, rfl, ri, ta, wds, many, hues, tb, rfl, hrd, g, htb, gs, hp, hT, fun H1 t wa kvs es last f1 nt nwa ht hwa pw hend => ?_⟩
    refine ⟨t, _, rfl, .inl (.inl ht), rfl, .ref wa, [last], rfl, last, [], rfl, rfl, ?_⟩
    rcases hend with ⟨a, e, la, rfl, hla, he, hb, B⟩ | ⟨rfl, B⟩
    · refine ⟨.ref la, rfl, rfl, _, rfl, iteF ?_⟩
      refine ⟨(by show 0 ≤ sizeLine; decide), fun l nl => ?_⟩
      have nl0 := f1.free nl
      have nlP := f1.2.new nl
      have s2 := same_upd (o := .lst []) nl
      have f2 := f1.same s2
      have hl2 := upd_same (H := H1) (a := l) (o := .lst [])
      have hwa2 := s2 _ _ hwa
      have hla2 := s2 _ _ hla
      have pw2 := pairedMap (fun _ _ z => IsWayB.mono (tups_same s2) z) pw
      have nwl : wa ≠ l := ne_of_none hwa nl
      generalize upd H1 l (.lst []) = H2 at f2 hl2 hwa2 hla2 pw2
      clear s2 hwa hla pw ht nl f1 nt H1
      have few := Nat.le_trans B.few hp
      refine ⟨fun m σ Hm => FrS Ps H Hm ∧ (∀ b o, b ≠ l → H2 b = some o → Hm b = some o) ∧ ∃ (d : Ent) (da : Addr) (bs : List Int), es[m]? = some d ∧ H2 da = some (.tup (d.1.map V.int)) ∧ Hm l = some (.lst (bs.map V.int)) ∧ Steps wds tb d.1 bs.reverse e.1 ∧ (bs.length : Int) + d.2.1 = e.2.1 ∧
        ∃ y5 y6 y7, σ = [some (.ref ri), some (.ref ta), some (.ref wa), some (.ref da), some (.ref l), y5, y6, y7], ⟨a, f2, fun _ _ _ z => z, e, la, [], he, hla2, hl2, rfl, by show ((0 : Nat) : Int) + e.2.1 = e.2.1; omega, none, none, none, rfl⟩, ?_⟩
      rintro m σ Hm ⟨Fm, Km, d, da, bs, hd, hda, hl, hst, hlen, y5, y6, y7, rfl⟩
      have dm := List.mem_of_getElem? hd
      obtain ⟨te, ete, hte⟩ := way_at pw2 B.nd dm
      obtain ⟨z1, z2, hte2⟩ := hte.tup
      have nTl : ∀ {b : Addr} {xs : List V}, H2 b = some (.tup xs) → b ≠ l := fun {b xs} z y => by
        rw [y, hl2] at z
        cases z
      have hwam := Km _ _ nwl hwa2
      have hdam := Km _ _ (nTl hda) hda
      have htem := Km _ _ (nTl hte2) hte2
      have hdam' : Hm da = some (.tup ((keyB d.1).map kV)) := by rw [keyB_kV]; exact hdam
      refine ⟨.ref wa, rfl, .ref da, rfl, wa, .ref te, rfl, by rw [← ete]; exact DGet.t hwam hdam', te, _, 0, .int d.2.1, rfl, rfl, .inl (.inl htem), rfl, d.2.1, 0, rfl, rfl, _, rfl, ite2 (fun c => ?_) (fun c => ?_)⟩
      · have c : 0 < d.2.1 := by simpa using c
        cases hbk : d.2.2 with
        | none =>
          have := B.first m d hd hbk
          subst this
          rw [B.start] at hd
          cases hd
          exact absurd c (Int.lt_irrefl 0)
        | some nb =>
          obtain ⟨n, b⟩ := nb
          obtain ⟨i, x, im, _, hx, ex, exd, mx⟩ := B.back m d n b hd hbk
          have hte3 : ∃ ba, H2 te = some (.tup [.int d.2.1, .int n, .ref ba]) ∧ H2 ba = some (.tup (b.map V.int)) := by
            unfold IsFnd at hte
            rw [hbk] at hte
            exact hte
          obtain ⟨ba, hte3, hba⟩ := hte3
          have htem3 := Km _ _ (nTl hte3) hte3
          refine ⟨fun σ' Hn => FrS Ps H Hn ∧ (∀ b o, b ≠ l → H2 b = some o → Hn b = some o) ∧ Hn l = some (.lst ((bs ++ [n]).map V.int)) ∧ ∃ y5 y6 y7, σ' = [some (.ref ri), some (.ref ta), some (.ref wa), some (.ref ba), some (.ref l), y5, y6, y7], ?_, ?_⟩
          · rintro σ' H' ⟨F', K', hl', y5, y6, y7, rfl⟩
            refine ⟨i, im, F', K', x, ba, bs ++ [n], hx, by rw [ex]; exact hba, hl', ?_, ?_, y5, y6, y7, rfl⟩
            · rw [List.reverse_append, ex]
              exact ⟨d.1, mx, hst⟩
            · rw [List.length_append]
              have : (([n] : List Int).length : Nat) = 1 := rfl
              omega
          · refine ⟨.ref wa, rfl, .ref da, rfl, wa, .ref te, rfl, by rw [← ete]; exact DGet.t hwam hdam', te, _, rfl, .inl (.inl htem3), rfl, .int d.2.1, [.int n, .ref ba], rfl, .int n, [.ref ba], rfl, .ref ba, [], rfl, rfl, ?_⟩
            refine ⟨.ref l, rfl, .inl ⟨rfl, _, .inl (.inl hl)⟩, .int n, rfl, l, _, _, rfl, rfl, hl, ?_, ?_⟩
            · have d0 := B.at0 hd
              have z0 := B.mono
              rw [List.length_map]
              have e5 := B.deep a e he
              have al := (List.getElem?_eq_some_iff.mp he).1
              exact Nat.lt_of_le_of_lt (show bs.length ≤ 5000 by omega) (by decide)
            · refine ⟨.ref ba, rfl, Fm.put nl0 (hT.new nl0), fun b o n1 z => ?_, ?_, _, _, _, rfl⟩
              · rw [upd_ne n1]
                exact Km b o n1 z
              · rw [upd_same, List.map_append]
                rfl
      · have c : ¬ 0 < d.2.1 := fun z => c (by simpa using z)
        have hz := B.root hd (by omega)
        rw [hz] at hst
        refine ⟨.ref l, rfl, l, _, rfl, .inl (.inl hl), fun r nr => ?_⟩
        have sr := same_upd (o := .lst (bs.map V.int).reverse) nr
        have d0 := B.at0 hd
        refine (q _ (Fm.same sr)).2 r bs.reverse e.1 (Fm.free nr) ?_ hst hb fun ns' t' hs' hk' => ?_
        · rw [upd_same, List.map_reverse]
        · have := B.least he hs' hk'
          rw [List.length_reverse]
          omega
    · refine ⟨.non, rfl, rfl, _, rfl, iteT ?_⟩
      exact (q H1 f1).1 fun ns t h => B.never h
end
end Rd

set_option autoImplicit false
set_option Elab.async false
set_option linter.all false
set_option maxRecDepth 100000
set_option maxHeartbeats 4000000
namespace Rd
open PySem PySem.Spec PyProof.Rows L2 Dt
abbrev sFof : Stmt := topS 24
abbrev nFof : List Str := ["riddle", "table", "ways", "last", "most", "taken"]
theorem scFof : FnScope nFof ["riddle", "table"] (defScope sFof) := ⟨rfl, rfl, rfl, by decide +kernel, rfl, by decide +kernel, by decide +kernel⟩
def kvF (fl : List (List Int × Int)) : List (List Key × V) := fl.map fun x => (keyB x.1, .int x.2)
theorem kvF_val {fl : List (List Int × Int)} {g : List Int} : valV (kvF fl) (keyB g) = if g ∈ fl.map (·.1) then some (.int (valL fl g)) else none := by
  induction fl with
  | nil => rfl
  | cons e r ih =>
    show valV ((keyB e.1, V.int e.2) :: kvF r) (keyB g) = _
    by_cases h : e.1 = g
    · rw [valV_pos (by rw [← h]), valL_cons, if_pos h, List.map_cons, if_pos (by rw [← h]; exact List.mem_cons_self)]
    · rw [valV_neg (fun z => h (keyB_inj z)), ih, valL_cons, if_neg h, List.map_cons]
      by_cases m : g ∈ r.map (·.1)
      · rw [if_pos m, if_pos (List.mem_cons_of_mem _ m)]
      · rw [if_neg m, if_neg (fun z => (List.mem_cons.mp z).elim (fun q => h q.symm) m)]
theorem kvF_get {fl : List (List Int × Int)} {g : List Int} : (valV (kvF fl) (keyB g)).getD (.int 0) = .int (valL fl g) := by
  rw [kvF_val]
  by_cases m : g ∈ fl.map (·.1)
  · rw [if_pos m]; rfl
  · rw [if_neg m, valL_not m]; rfl
theorem valF_mem {x : List Int × Int} : ∀ {fl : List (List Int × Int)}, (fl.map (·.1)).Nodup → x ∈ fl → valL fl x.1 = x.2
  | d :: r, nd, m => by
    rw [List.map_cons, List.nodup_cons] at nd
    rw [valL_cons]
    rcases List.mem_cons.mp m with z | z
    · rw [z, if_pos rfl]
    · rw [if_neg (fun q => nd.1 (by rw [q]; exact List.mem_map.mpr ⟨x, z, rfl⟩))]
      exact valF_mem nd.2 z
/-- floors that hold -/
structure FlOk (wds : List WD) (tb : List (List Int)) (fl : List (List Int × Int)) : Prop where
  nd : (fl.map (·.1)).Nodup
  good : ∀ x ∈ fl, GoodK tb x.1
  kept : ∀ x ∈ fl, broL (stand tb x.1) wds wds.length = [] → x.2 ≤ 0
  step : ∀ x ∈ fl, broL (stand tb x.1) wds wds.length ≠ [] → ∀ m ∈ mendM wds tb x.1, x.2 ≤ 1 + valL fl m.2
def flE (es : List Ent) (most : Int) : List (List Int × Int) := es.map fun e => (e.1, if most - e.2.1 > 0 then most - e.2.1 else 0)
theorem flE_keys {es : List Ent} {most : Int} : (flE es most).map (·.1) = es.map (·.1) := by
  unfold flE
  rw [List.map_map]
  rfl
theorem flE_val {es : List Ent} {most : Int} (nd : (es.map (·.1)).Nodup) {e : Ent} (he : e ∈ es) : valL (flE es most) e.1 = if most - e.2.1 > 0 then most - e.2.1 else 0 :=
  valF_mem (x := (e.1, if most - e.2.1 > 0 then most - e.2.1 else 0)) (by rw [flE_keys]; exact nd) (List.mem_map.mpr ⟨e, he, rfl⟩)
theorem flE_nonneg (es : List Ent) (most : Int) (t : List Int) : 0 ≤ valL (flE es most) t := by
  unfold flE
  induction es with
  | nil => exact Int.le_refl 0
  | cons e r ih =>
    rw [List.map_cons, valL_cons]
    by_cases c : e.1 = t
    · rw [if_pos c]
      show 0 ≤ if most - e.2.1 > 0 then most - e.2.1 else 0
      split <;> omega
    · rw [if_neg c]
      exact ih
theorem Bfs.floors {wds : List WD} {tb : List (List Int)} {es : List Ent} {a : Nat} {l : Ent} (B : Bfs wds tb es a 0) (hl : es[a]? = some l) : FlOk wds tb (flE es l.2.1) where
  nd := by rw [flE_keys]; exact B.nd
  good := fun x hx => by
    obtain ⟨e, he, rfl⟩ := List.mem_map.mp hx
    exact B.good e he
  kept := fun x hx hk => by
    obtain ⟨e, he, rfl⟩ := List.mem_map.mp hx
    obtain ⟨j, hj⟩ := List.getElem?_of_mem he
    by_cases c : j < a
    · exact ((B.done j e c hj).1 hk).elim
    · have := B.mono a j l e (by omega) hl hj
      show (if l.2.1 - e.2.1 > 0 then l.2.1 - e.2.1 else 0) ≤ 0
      split <;> omega
  step := fun x hx _ m hm => by
    obtain ⟨e, he, rfl⟩ := List.mem_map.mp hx
    obtain ⟨j, hj⟩ := List.getElem?_of_mem he
    have nn := flE_nonneg es l.2.1 m.2
    show (if l.2.1 - e.2.1 > 0 then l.2.1 - e.2.1 else 0) ≤ _
    by_cases c : j < a
    · obtain ⟨f, hf, ef, lf⟩ := (B.done j e c hj).2 m hm
      rw [← ef, flE_val B.nd hf]
      split <;> split <;> omega
    · have := B.mono a j l e (by omega) hl hj
      split <;> omega
def spFof (Ps : List Addr) (D : Addr) : Sp := fun vs H Q E => ∃ (ri ta : Addr) (wds : List WD) (many hues : Int) (tb : List (List Int)), vs = [.ref ri, .ref ta] ∧ IsRid H ri many hues wds ∧ GoodR many hues wds ∧ IsTab (fun _ => False) H ta tb ∧ GoodS many hues tb ∧ prodL (tb.map List.length) ≤ 5000 ∧ Tabs Ps H ∧
  ∀ H', FrS Ps H H' → ((∀ ns t, Steps wds tb (zerosI tb.length) ns t → broL (stand tb t) wds wds.length ≠ []) → E (.ref D) none H') ∧
    ∀ d fl ns t, H d = none → H' d = some (.dT (kvF fl)) → FlOk wds tb fl → Steps wds tb (zerosI tb.length) ns t → broL (stand tb t) wds wds.length = [] → (∀ ns' t', Steps wds tb (zerosI tb.length) ns' t' → broL (stand tb t') wds wds.length = [] → ns.length ≤ ns'.length) → valL fl (zerosI tb.length) = (ns.length : Int) → fl.length ≤ 5000 → Q (.ref d) H'
structure TxtFof (P : Program) (w : World) (K : PySem.W.Frag) (mg : Str → Option Value) (base : Heap) (Ps : List Addr) (D : Addr) : Prop extends Cls1 K D where
  m_max : mg "max" = none
  g_NoEnd : mg "NoEnd" = some (.ref D)
  c_refuse_too_many : Cal P w K mg base 1 "refuse_too_many" ["table"] spRtm
  c_searched : Cal P w K mg base 7 "searched" ["riddle", "table"] (spSea Ps)
section
variable {P : Program} {w : World} {K : PySem.W.Frag} {mg : Str → Option Value} {base : Heap}
theorem ok_fof {f D : Addr} {Ps : List Addr} {fd : FuncData} {k : Nat} (F : Fun K "floors_of" "floors_of" sFof f fd) (T : TxtFof P w K mg base Ps D) : FnOk P w K mg base (L2.CX P w) (k + 8) f fd ["riddle", "table"] (spFof Ps D) := by
  refine F.okX scFof (fun vs H Q E h => ?_) (fun cdv A outer s H vs Q E hr h => ?_)
  · obtain ⟨ri, ta, wds, many, hues, tb, rfl, _⟩ := h
    rfl
  · obtain ⟨ri, ta, wds, many, hues, tb, rfl, hrd, g, htb, gs, hp, hT, q⟩ := h
    refine ⟨_, (pss_cons (ps_expr (pe_cal T.c_refuse_too_many (hr.mono (by omega)) (by rfl) (pa_cons (pv 1) pa_nil)))
  (pss_cons (ps_asg (pe_cal T.c_searched (hr.mono (by omega)) (by rfl) (pa_cons (pv 0) (pa_cons (pv 1) pa_nil))) (pg_tup rfl (pgs_cons (pg_name (i := 2) scFof.nd rfl (Or.inr rfl)) (pgs_cons (pg_name (i := 3) scFof.nd rfl (Or.inl rfl)) pgs_nil))))
  (pss_cons (ps_if (pt_cmpR op_isN (pv 3) pe_non (nomark _))
  (pss_one (ps_raise rfl (takes_of rfl rfl rfl rfl) (pmk_own PySem.F.excBase_ValueError T.x T.g_NoEnd T.k (raises_own T.b T.t) (by rfl)))) pss_nil)
  (pss_cons (ps_set (i := 4) scFof.nd rfl (Or.inr rfl) (pe_ix ix_tup (pe_dget (hu_of hr) (pv 2) (pv 3) (fun _ _ => rfl)) pe_int (fun _ _ => rfl)))
  (pss_one (ps_ret (pe_dcT (own := [("taken", 5)]) (tk := tVar 5) (tv := tCB (fun xs H Q => ∃ i j : Int, xs = [V.int i, V.int j] ∧ Q (V.int (if j > i then j else i)) H) (tCons (tC (.int 0)) (tCons (tOp (rI0 fun i j => .int (i - j)) (tVar 4) (tOp (rIxT K) (tDGet (tVar 2) (tVar 5)) (tC (.int 0)))) tNil))) rfl scFof.nd (pi_keysE (pv 2)) (blkOk_by (own := [("taken", 5)]) (N := nFof) (sc := defScope sFof) (by decide +kernel))
   (fun _ _ _ _ _ => (pg_name (i := 5) scFof.nd rfl (Or.inl rfl))) (fun _ _ _ _ _ => pts_nil) (fun _ _ _ _ _ => (pv 5)) (fun _ _ _ _ _ => (pe_callB (call_max2 rfl) (by rfl) T.m_max (by decide +kernel) (pa_cons pe_int (pa_cons (pe_op op_sub (pv 4) (pe_ix ix_tup (pe_dget (hu_of hr) (pv 2) (pv 5) (fun _ _ => rfl)) pe_int (fun _ _ => rfl))) pa_nil)))) (hu_of hr)))))))), ?_⟩
    refine ⟨.ref ta, rfl, ta, tb, rfl, htb, gs.one, hp, ?_⟩
    refine ⟨.ref ri, rfl, .ref ta, rfl, ri, ta, wds, many, hues, tb, rfl, hrd, g, htb, gs, hp, hT, fun H1 t wa kvs es last f1 nt nwa ht hwa pw hend => ?_⟩
    refine ⟨t, _, rfl, .inl (.inl ht), rfl, .ref wa, [last], rfl, last, [], rfl, rfl, ?_⟩
    rcases hend with ⟨a, l, la, rfl, hla, hl, hb, B⟩ | ⟨rfl, B⟩
    · refine ⟨.ref la, rfl, rfl, _, rfl, iteF ?_⟩
      have few := Nat.le_trans B.few hp
      have hla' : H1 la = some (.tup ((keyB l.1).map kV)) := by rw [keyB_kV]; exact hla
      obtain ⟨te, ete, hte⟩ := way_at pw B.nd (List.mem_of_getElem? hl)
      obtain ⟨z1, z2, hte2⟩ := hte.tup
      refine ⟨.ref wa, rfl, .ref la, rfl, wa, .ref te, rfl, by rw [← ete]; exact DGet.t hwa hla', te, _, 0, .int l.2.1, rfl, rfl, .inl (.inl hte2), rfl, ?_⟩
      refine ⟨.ref wa, rfl, wa, _, rfl, hwa, .inl ⟨trivial, fun od => ?_⟩⟩
      have tu : Tups H1 (upd H1 wa (.frz od (.dT kvs))) := tups_atD hwa (fun _ z => nomatch z) (fun _ _ z => nomatch z)
      have f2 := f1.put (o := .frz od (.dT kvs)) nwa (hT.new nwa)
      have hwa2 : upd H1 wa (.frz od (.dT kvs)) wa = some (.frz od (.dT kvs)) := upd_same
      have pw2 := pairedMap (fun _ _ z => IsWayB.mono tu z) pw
      have kl := pairedLen pw
      generalize upd H1 wa (.frz od (.dT kvs)) = H2 at f2 hwa2 pw2
      clear tu hte hte2 ete hla' hla hwa pw ht nt f1 H1
      refine ⟨wa, od, rfl, .inr ⟨kvs, hwa2, fun D nD => ?_⟩⟩
      refine dcT_walk (J := Itkt wa od kvs) (n := kvs.length) (fun i H3 => Same H2 H3 ∧ H3 D = some (.dT (kvF ((flE es l.2.1).take i)))) ⟨same_upd nD, upd_same⟩ (fun i H3 hi p => ⟨p.1 _ _ hwa2, hi⟩) (fun H3 p => ⟨p.1 _ _ hwa2, Nat.le_refl _⟩) (fun i x H3 H4 hi p y => ?_) (fun H3 p => ?_)
      · obtain ⟨s3, hD⟩ := p
        obtain ⟨rfl, kk, v, qa, ex, rfl, hq⟩ := y
        obtain ⟨e, he, hw⟩ := pairedGetL pw2 ex
        have em := List.mem_of_getElem? he
        have ek : kk = keyB e.1 := hw.1
        subst ek
        obtain ⟨te, ete, hte⟩ := way_at pw2 B.nd em
        obtain ⟨z1, z2, hte2⟩ := hte.tup
        refine ⟨rfl, yes_if ?_⟩
        refine ⟨.ref qa, rfl, .int l.2.1, rfl, .ref wa, rfl, .ref qa, rfl, wa, .ref te, rfl, .inr ⟨kvs, keyB e.1, qa, .inr ⟨od, s3 _ _ hwa2⟩, rfl, hq, ete.symm⟩, te, _, 0, .int e.2.1, rfl, rfl, .inl (.inl (s3 _ _ hte2)), rfl, _, _, rfl, rfl, _, _, rfl, _, keyB e.1, qa, rfl, hq, hD, ?_, ?_⟩
        · unfold kvF
          rw [List.length_map, List.length_take]
          exact Nat.lt_of_le_of_lt (Nat.le_trans (Nat.min_le_left _ _) (show i ≤ 5000 by omega)) (by decide)
        · refine ⟨same_put s3 nD, ?_⟩
          have il := (List.getElem?_eq_some_iff.mp he).1
          have ef : (flE es l.2.1)[i]? = some (e.1, if l.2.1 - e.2.1 > 0 then l.2.1 - e.2.1 else 0) := by
            unfold flE
            rw [List.getElem?_map, he]
            rfl
          have nm : e.1 ∉ ((flE es l.2.1).take i).map (·.1) := fun m => by
            rw [List.map_take, flE_keys] at m
            obtain ⟨j, ej⟩ := List.getElem?_of_mem m
            have jl := (List.getElem?_eq_some_iff.mp ej).1
            rw [List.length_take] at jl
            rw [List.getElem?_take_of_lt (by omega)] at ej
            have ei : (es.map (·.1))[i]? = some e.1 := by rw [List.getElem?_map, he]; rfl
            have := (List.getElem?_inj (by rw [List.length_map]; exact il) B.nd).mp (ei.trans ej.symm)
            omega
          rw [upd_same, take_snoc ef, putK_new _ (by rw [kvF_val, if_neg nm])]
          unfold kvF
          rw [List.map_append]
          rfl
      · obtain ⟨s3, hD⟩ := p
        have fl : (flE es l.2.1).length = es.length := by unfold flE; rw [List.length_map]
        rw [List.take_of_length_le (by omega)] at hD
        have f3 := f2.same s3
        obtain ⟨ns, hst, hln⟩ := B.path a l hl
        refine (q H3 f3).2 D (flE es l.2.1) ns l.1 (f2.free nD) hD (B.floors hl) hst hb (fun ns' t' h1 h2 => ?_) ?_ (by omega)
        · have := B.least hl h1 h2
          omega
        · have z := flE_val (most := l.2.1) B.nd (List.mem_of_getElem? B.start)
          have z : valL (flE es l.2.1) (zerosI tb.length) = if l.2.1 - 0 > 0 then l.2.1 - 0 else 0 := z
          rw [z]
          have := B.at0 hl
          split <;> omega
    · refine ⟨.non, rfl, rfl, _, rfl, iteT ?_⟩
      exact (q H1 f1).1 fun ns t h => B.never h
end
end Rd

set_option autoImplicit false
set_option Elab.async false
set_option linter.all false
set_option maxRecDepth 100000
set_option maxHeartbeats 4000000
namespace Rd
open PySem PySem.Spec PyProof.Rows L2 Dt
abbrev sNum : Stmt := topS 5
abbrev nNum : List Str := ["thing", "low", "high"]
theorem scNum : FnScope nNum ["thing", "low", "high"] (defScope sNum) := ⟨rfl, rfl, rfl, by decide +kernel, rfl, by decide +kernel, by decide +kernel⟩
abbrev sIst : Stmt := topS 25
abbrev nIst : List Str := ["table", "taken", "beyond", "draws"]
theorem scIst : FnScope nIst ["table", "taken"] (defScope sIst) := ⟨rfl, rfl, rfl, by decide +kernel, rfl, by decide +kernel, by decide +kernel⟩
abbrev sIsf : Stmt := topS 26
abbrev nIsf : List Str := ["riddle", "table", "floors", "taken", "floor", "number", "after"]
theorem scIsf : FnScope nIsf ["riddle", "table", "floors", "taken"] (defScope sIsf) := ⟨rfl, rfl, rfl, by decide +kernel, rfl, by decide +kernel, by decide +kernel⟩
abbrev sArf : Stmt := topS 27
abbrev nArf : List Str := ["riddle", "table", "floors", "taken"]
theorem scArf : FnScope nArf ["riddle", "table", "floors"] (defScope sArf) := ⟨rfl, rfl, rfl, by decide +kernel, rfl, by decide +kernel, by decide +kernel⟩
/-- within the table -/
def istM (tb : List (List Int)) (tk : List Int) : Bool := decide (tk.length = tb.length) && (tk.zip tb).all fun x => decide (0 ≤ x.1 ∧ x.1 ≤ (x.2.length : Int) - 1)
theorem istM_good {tb : List (List Int)} {tk : List Int} : istM tb tk = true ↔ GoodK tb tk := by
  unfold istM
  rw [Bool.and_eq_true, decide_eq_true_eq, List.all_eq_true]
  constructor
  · rintro ⟨hl, h⟩
    refine ⟨hl, fun p hp => ?_⟩
    have e : (tk.zip tb)[p]? = some (tk[p]'(by omega), tb[p]) := List.getElem?_zip_eq_some.mpr ⟨List.getElem?_eq_getElem (by omega), List.getElem?_eq_getElem hp⟩
    have z := of_decide_eq_true (h _ (List.mem_of_getElem? e))
    rw [getD_get (show p < tk.length by omega), getD_get hp]
    dsimp only at z
    omega
  · intro g
    refine ⟨g.len, fun x hx => ?_⟩
    obtain ⟨p, hp⟩ := List.getElem?_of_mem hx
    obtain ⟨h1, h2⟩ := List.getElem?_zip_eq_some.mp hp
    have il := (List.getElem?_eq_some_iff.mp h2).1
    have a := g.at_ p il
    rw [List.getD_eq_getElem?_getD, h1, List.getD_eq_getElem?_getD, h2] at a
    have a : 0 ≤ x.1 ∧ x.1 < (x.2.length : Int) := a
    exact decide_eq_true ⟨a.1, by omega⟩
def isfM (wds : List WD) (tb : List (List Int)) (fl : List (List Int × Int)) (tk : List Int) : Bool := if broL (stand tb tk) wds wds.length = [] then decide (valL fl tk ≤ 0) else (mendM wds tb tk).all fun m => decide (valL fl tk ≤ 1 + valL fl m.2)
def arfM (wds : List WD) (tb : List (List Int)) (fl : List (List Int × Int)) : Bool := fl.all fun x => istM tb x.1 && isfM wds tb fl x.1
theorem FlOk.yes {wds : List WD} {tb : List (List Int)} {fl : List (List Int × Int)} (h : FlOk wds tb fl) : arfM wds tb fl = true := by
  refine List.all_eq_true.mpr fun x hx => ?_
  rw [Bool.and_eq_true]
  refine ⟨istM_good.mpr (h.good x hx), ?_⟩
  unfold isfM
  have v := valF_mem h.nd hx
  split
  · rename_i c
    exact decide_eq_true (by rw [v]; exact h.kept x hx c)
  · rename_i c
    refine List.all_eq_true.mpr fun m hm => decide_eq_true ?_
    rw [v]
    exact h.step x hx c m hm
/-- the dict held, all else as it was -/
def FrD (Ps : List Addr) (fd : Addr) (fl : List (List Int × Int)) (H H' : Hp) : Prop := (∀ b o, b ∉ Ps → b ≠ fd → H b = some o → H' b = some o) ∧ Tabs Ps H' ∧ ∃ od, H' fd = some (.frz od (.dT (kvF fl)))
def spNumF : Sp := fun vs H Q _ => ∃ t lo hi : Int, vs = [.int t, .int lo, .int hi] ∧ Q (.bl (decide (lo ≤ t ∧ t ≤ hi))) H
def spIst (Ps : List Addr) : Sp := fun vs H Q _ => ∃ (ta ka : Addr) (tb : List (List Int)) (tk : List Int), vs = [.ref ta, .ref ka] ∧ IsTab (fun _ => False) H ta tb ∧ H ka = some (.tup (tk.map V.int)) ∧ tb.length ≤ 999 ∧ Tabs Ps H ∧ ∀ H', FrS Ps H H' → Q (.bl (istM tb tk)) H'
def spIsf (Ps : List Addr) : Sp := fun vs H Q _ => ∃ (ri ta fd ka : Addr) (od : Obj) (wds : List WD) (many hues : Int) (tb : List (List Int)) (tk : List Int) (fl : List (List Int × Int)), vs = [.ref ri, .ref ta, .ref fd, .ref ka] ∧ IsRid H ri many hues wds ∧ GoodR many hues wds ∧ IsTab (fun _ => False) H ta tb ∧ GoodS many hues tb ∧ H fd = some (.frz od (.dT (kvF fl))) ∧ H ka = some (.tup (tk.map V.int)) ∧ tk ∈ fl.map (·.1) ∧ GoodK tb tk ∧ Tabs Ps H ∧
  ∀ H', FrS Ps H H' → Q (.bl (isfM wds tb fl tk)) H'
def spArf (Ps : List Addr) : Sp := fun vs H Q _ => ∃ (ri ta fd : Addr) (wds : List WD) (many hues : Int) (tb : List (List Int)) (fl : List (List Int × Int)), vs = [.ref ri, .ref ta, .ref fd] ∧ IsRid H ri many hues wds ∧ GoodR many hues wds ∧ IsTab (fun _ => False) H ta tb ∧ GoodS many hues tb ∧ Rd H fd (.dT (kvF fl)) ∧ fd ∉ Ps ∧ Tabs Ps H ∧
  ∀ H', FrD Ps fd fl H H' → Q (.bl (arfM wds tb fl)) H'
structure TxtNuF (mg : Str → Option Value) : Prop where
  m_isinstance : mg "isinstance" = none
  m_int : mg "int" = none
  m_bool : mg "bool" = none
structure TxtIst (P : Program) (w : World) (K : PySem.W.Frag) (mg : Str → Option Value) (base : Heap) : Prop where
  m_len : mg "len" = none
  m_all : mg "all" = none
  m_zip : mg "zip" = none
  c_is_number : Cal P w K mg base 1 "is_number" ["thing", "low", "high"] spNumF
structure TxtIsf (P : Program) (w : World) (K : PySem.W.Frag) (mg : Str → Option Value) (base : Heap) (Ps : List Addr) : Prop where
  m_all : mg "all" = none
  c_broken : Cal P w K mg base 5 "broken" ["riddle", "filling"] (spBro Ps)
  c_standing : Cal P w K mg base 3 "standing" ["table", "taken"] (spStaE Ps)
  c_mendings : Cal P w K mg base 6 "mendings" ["riddle", "table", "taken"] (spMds Ps)
structure TxtArf (P : Program) (w : World) (K : PySem.W.Frag) (mg : Str → Option Value) (base : Heap) (Ps : List Addr) : Prop where
  m_all : mg "all" = none
  c_is_taken : Cal P w K mg base 3 "is_taken" ["table", "taken"] (spIst Ps)
  c_is_floor : Cal P w K mg base 8 "is_floor" ["riddle", "table", "floors", "taken"] (spIsf Ps)
section
variable {P : Program} {w : World} {K : PySem.W.Frag} {mg : Str → Option Value} {base : Heap}
theorem ok_numF {f : Addr} {fd : FuncData} {k : Nat} (F : Fun K "is_number" "is_number" sNum f fd) (T : TxtNuF mg) : FnOk P w K mg base CX0 (k + 1) f fd ["thing", "low", "high"] spNumF := by
  refine F.ok scNum (fun vs H Q E h => ?_) (fun cdv A outer s H vs Q E hr h => ?_)
  · obtain ⟨t, lo, hi, rfl, _⟩ := h
    rfl
  · obtain ⟨t, lo, hi, rfl, q⟩ := h
    refine ⟨_, (pss_one (ps_ret (pe_and (pe_callB call_isi (by rfl) T.m_isinstance (by decide +kernel) (pa_cons (pv 0) (pa_cons (pe_bltn (v := .ty "int") (by rfl) T.m_int (by decide +kernel) rfl) pa_nil))) (pe_and (pe_not (pe_callB call_isi (by rfl) T.m_isinstance (by decide +kernel) (pa_cons (pv 0) (pa_cons (pe_bltn (v := .ty "bool") (by rfl) T.m_bool (by decide +kernel) rfl) pa_nil)))) (pe_one (pe_chain op_le op_le (pv 1) (pv 0) (pv 2))))))), ?_⟩
    refine ⟨.int t, rfl, .int t, .ty "int", .type "int", .type "int", true, rfl, .ty _, .base (.int t), kit_ty (by decide +kernel), true, rfl, iteT ?_⟩
    refine ⟨.int t, rfl, .int t, .ty "bool", .type "int", .type "bool", false, rfl, .ty _, .base (.int t), kit_ty (by decide +kernel), false, rfl, true, rfl, iteT ?_⟩
    refine ⟨.int lo, rfl, .int t, rfl, lo, t, rfl, rfl, _, rfl, ite2 (fun e => ?_) (fun e => ?_)⟩
    · refine ⟨.int hi, rfl, t, hi, rfl, rfl, ?_⟩
      have e : lo ≤ t := by simpa using e
      have e2 : decide (lo ≤ t ∧ t ≤ hi) = decide (t ≤ hi) := by simp [e]
      rw [e2] at q
      exact q
    · have e : ¬ lo ≤ t := by simpa using e
      have e2 : decide (lo ≤ t ∧ t ≤ hi) = false := by simp [e]
      rw [e2] at q
      exact q
theorem ok_ist {f c Pt : Addr} {Ps : List Addr} {fd : FuncData} {k : Nat} (F : FunC K "is_taken" "is_taken" sIst f fd (.ref c)) (TB : GxR.TabB base mg c Pt) (hP : Pt ∈ Ps) (T : TxtIst P w K mg base) : FnOk P w K mg base CX0 (k + 3) f fd ["table", "taken"] (spIst Ps) := by
  refine F.ok scIst (fun vs H Q E h => ?_) (fun A outer s H vs Q E hr h => ?_)
  · obtain ⟨ta, ka, tb, tk, rfl, _⟩ := h
    rfl
  · obtain ⟨ta, ka, tb, tk, rfl, htb, hk, tl, hT, q⟩ := h
    refine ⟨_, (pss_cons (ps_if (pt_cmpR op_ne (pe_callB call_len_seq (by rfl) T.m_len (by decide +kernel) (pa_cons (pv 1) pa_nil)) (pe_callB call_len_seq (by rfl) T.m_len (by decide +kernel) (pa_cons (pv 0) pa_nil)) (nomark _))
  (pss_one (ps_ret pe_bl)) pss_nil)
  (pss_one (ps_ret (Gx.pe_allX (own := [("beyond", 2), ("draws", 3)]) (g := gTup K 2 (gCons (gName 2) (gCons (gName 3) gNil))) (te := tCall spNumF [] E0 (tCons (tVar 2) (tCons (tC (.int 0)) (tCons (tOp (rI0 fun i j => .int (i - j)) (tCB (rLen K) (tCons (tVar 3) tNil)) (tC (.int 1))) tNil)))) hr (by rfl) T.m_all rfl scIst.nd TB rfl (blkOk_by (own := [("beyond", 2), ("draws", 3)]) (N := nIst) (sc := defScope sIst) (by decide +kernel)) ⟨rfl, by decide +kernel, rfl⟩ (pi_zipM (by rfl) T.m_zip (pa_cons (pv 1) (pa_cons (pv 0) pa_nil)))
   (fun _ _ _ _ _ _ hA => (pg_tup rfl (pgs_cons (pg_name (i := 2) scIst.nd rfl (Or.inl rfl)) (pgs_cons (pg_name (i := 3) scIst.nd rfl (Or.inl rfl)) pgs_nil)))) (fun _ _ _ _ _ _ hA => pts_nil) (fun _ _ _ _ _ _ hA => (pe_cal T.c_is_number (hA.mono (by omega)) (by rfl) (pa_cons (pv 2) (pa_cons pe_int (pa_cons (pe_op op_sub (pe_callB call_len_seq (by rfl) T.m_len (by decide +kernel) (pa_cons (pv 3) pa_nil)) pe_int) pa_nil))))))))), ?_⟩
    obtain ⟨das, hta, _, _, pr⟩ := id htb
    have dl := pairedLen pr
    refine ⟨.ref ka, rfl, ka, _, rfl, .inr (.inl (.inl hk)), .ref ta, rfl, ta, _, rfl, .inl (.inl (.inl hta)), rfl, _, rfl, ite2 (fun c => ?_) (fun c => ?_)⟩
    · have ne : ¬ tk.length = tb.length := fun z => by
        rw [List.length_map, List.length_map, dl, z, decide_eq_true rfl] at c
        cases c
      have : istM tb tk = false := by
        unfold istM
        rw [decide_eq_false ne, Bool.false_and]
      rw [this] at q
      exact q H (FrS.refl hT)
    · have eq : tk.length = tb.length := by
        by_cases z : tk.length = tb.length
        · exact z
        · refine absurd ?_ c
          rw [List.length_map, List.length_map, dl]
          show (!decide (V.int (tk.length : Int) = V.int (tb.length : Int))) = true
          rw [decide_eq_false fun y => z (by injection y with y; omega)]
          rfl
      have e0 : istM tb tk = (tk.zip tb).all fun x => decide (0 ≤ x.1 ∧ x.1 ≤ (x.2.length : Int) - 1) := by
        unfold istM
        rw [decide_eq_true eq, Bool.true_and]
      rw [e0] at q
      refine ⟨.ref ka, rfl, .ref ta, rfl, false, true, ka, ta, tk.map V.int, das.map V.ref, rfl, .inl (.inl hk), .inl (.inl hta), hT _ hP, fun H2 tb2 => ?_⟩
      have f2 := FrS.one hT hP tb2
      refine Gx.all_zipM (K := K) (k1 := false) (k2 := true) (a := ka) (b := ta) (xs := tk.map V.int) (ys := das.map V.ref) (by rw [List.length_map, List.length_map]; omega) (fun i H3 => FrS Ps H H3 ∧ ((tk.zip tb).take i).all (fun x => decide (0 ≤ x.1 ∧ x.1 ≤ (x.2.length : Int) - 1)) = true) ⟨f2, rfl⟩ (fun i H3 p => ⟨.inl (.inl (p.1.tups hT _ _ hk)), .inl (.inl ((p.1.seqs hT).2 _ _ hta))⟩) (fun i x y Tt H3 hx hy p nT => ?_) (fun H3 p => ?_)
      · obtain ⟨b, eb, rfl⟩ := map_get hx
        obtain ⟨d, ed, rfl⟩ := map_get hy
        obtain ⟨f3, e3⟩ := p
        obtain ⟨ds, eds, hd⟩ := pairedGetL pr ed
        have hd : H d = some (.lst (ds.map V.int)) := hd
        have f4 := f3.same (same_upd (o := .tup [.int b, .ref d]) nT)
        have ez : (tk.zip tb)[i]? = some (b, ds) := List.getElem?_zip_eq_some.mpr ⟨eb, eds⟩
        refine ⟨Tt, _, rfl, .inl (.inl upd_same), rfl, .int b, [.ref d], rfl, .ref d, [], rfl, rfl, rfl, yes_if ?_⟩
        refine ⟨.int b, rfl, .ref d, rfl, d, _, rfl, .inl (.inl (.inl ((f4.seqs hT).2 _ _ hd))), _, _, rfl, rfl, b, 0, _, rfl, _, rfl, ?_⟩
        rw [List.length_map]
        by_cases cc : 0 ≤ b ∧ b ≤ (ds.length : Int) - 1
        · rw [if_pos (decide_eq_true cc)]
          refine ⟨f4, ?_⟩
          rw [take_snoc ez, List.all_append, e3, List.all_cons, decide_eq_true cc]
          rfl
        · rw [if_neg (by rw [decide_eq_false cc]; decide)]
          have : ((tk.zip tb).all fun x => decide (0 ≤ x.1 ∧ x.1 ≤ (x.2.length : Int) - 1)) = false := by
            rw [List.all_eq_false]
            exact ⟨(b, ds), List.mem_of_getElem? ez, by rw [decide_eq_false cc]; decide⟩
          rw [this] at q
          exact q _ f4
      · obtain ⟨f3, e3⟩ := p
        have zl : (tk.zip tb).length = tk.length := by rw [List.length_zip]; omega
        rw [List.length_map, ← zl, List.take_length] at e3
        rw [e3] at q
        exact q _ f3
theorem ok_isf {f c Pt : Addr} {Ps : List Addr} {fd : FuncData} {k : Nat} (F : FunC K "is_floor" "is_floor" sIsf f fd (.ref c)) (TB : GxR.TabB base mg c Pt) (hP : Pt ∈ Ps) (T : TxtIsf P w K mg base Ps) : FnOk P w K mg base CX0 (k + 8) f fd ["riddle", "table", "floors", "taken"] (spIsf Ps) := by
  refine F.ok scIsf (fun vs H Q E h => ?_) (fun A outer s H vs Q E hr h => ?_)
  · obtain ⟨ri, ta, fd, ka, od, wds, many, hues, tb, tk, fl, rfl, _⟩ := h
    rfl
  · obtain ⟨ri, ta, fd, ka, od, wds, many, hues, tb, tk, fl, rfl, hrd, g, htb, gs, hfd, hk, hm, gk, hT, q⟩ := h
    refine ⟨_, (pss_cons (ps_set (i := 4) scIsf.nd rfl (Or.inr rfl) (pe_dget (hu_of hr) (pv 2) (pv 3) (fun _ _ => rfl)))
  (pss_cons (ps_if (pt_not (pt_truth (pe_cal T.c_broken (hr.mono (by omega)) (by rfl) (pa_cons (pv 0) (pa_cons (pe_cal T.c_standing (hr.mono (by omega)) (by rfl) (pa_cons (pv 1) (pa_cons (pv 3) pa_nil))) pa_nil))) (by intro _; rfl)))
  (pss_one (ps_ret (pe_cmpR op_le (pv 4) pe_int (nomark _)))) pss_nil)
  (pss_one (ps_ret (Gx.pe_allX (own := [("number", 5), ("after", 6)]) (g := gTup K 2 (gCons (gName 5) (gCons (gName 6) gNil))) (te := tOp (rI0 fun i j => .bl (decide (i ≤ j))) (tVar 4) (tOp (rI0 fun i j => .int (i + j)) (tC (.int 1)) (tDGet2 (tVar 2) (tVar 6) (tC (.int 0))))) hr (by rfl) T.m_all rfl scIsf.nd TB rfl (blkOk_by (own := [("number", 5), ("after", 6)]) (N := nIsf) (sc := defScope sIsf) (by decide +kernel)) ⟨rfl, by decide +kernel, rfl⟩ (pi_list (pe_cal T.c_mendings (hr.mono (by omega)) (by rfl) (pa_cons (pv 0) (pa_cons (pv 1) (pa_cons (pv 3) pa_nil)))))
   (fun _ _ _ _ _ _ hA => (pg_tup rfl (pgs_cons (pg_name (i := 5) scIsf.nd rfl (Or.inl rfl)) (pgs_cons (pg_name (i := 6) scIsf.nd rfl (Or.inl rfl)) pgs_nil)))) (fun _ _ _ _ _ _ hA => pts_nil) (fun _ _ _ _ _ _ hA => (pe_cmpR op_le (pv 4) (pe_op op_add pe_int (pe_dget2 (hu_of hA) (pv 2) (pv 6) pe_int ⟨by rfl, by rfl, by rfl, by rfl⟩)) (nomark _)))))))), ?_⟩
    have nfP : fd ∉ Ps := fun z => by
      obtain ⟨ps, e, _⟩ := hT fd z
      rw [hfd] at e
      cases e
    have hk' : H ka = some (.tup ((keyB tk).map kV)) := by rw [keyB_kV]; exact hk
    refine ⟨.ref fd, rfl, .ref ka, rfl, fd, .int (valL fl tk), rfl, .inr ⟨kvF fl, keyB tk, ka, .inr ⟨od, hfd⟩, rfl, hk', by rw [kvF_val, if_pos hm]⟩, ?_⟩
    have gf := standS_good gs gk
    have tl := gs.len
    have m6 := g.m6
    refine ⟨.ref ri, rfl, .ref ta, rfl, .ref ka, rfl, false, ta, ka, tb, tk, rfl, htb, .inr ⟨rfl, hk⟩, gk, by omega, hT, fun H1 fa f1 nfa hfa => ?_⟩
    refine ⟨ri, fa, _, wds, many, hues, rfl, hrd.mono (f1.tups hT), hfa, gf, g, f1.2, fun H2 lb f2 nlb hlb => ?_⟩
    have F2 := f1.trans f2
    refine ⟨_, .inl ⟨_, .inl (.inl hlb), rfl⟩, ?_⟩
    cases hb : broL (stand tb tk) wds wds.length with
    | nil =>
      refine iteT ?_
      have : isfM wds tb fl tk = decide (valL fl tk ≤ 0) := by
        unfold isfM
        rw [if_pos hb]
      rw [this] at q
      exact ⟨_, rfl, _, _, rfl, rfl, q _ F2⟩
    | cons kb rb =>
      refine iteF ?_
      have ef : isfM wds tb fl tk = (mendM wds tb tk).all fun m => decide (valL fl tk ≤ 1 + valL fl m.2) := by
        unfold isfM
        rw [if_neg (by rw [hb]; exact fun z => nomatch z)]
      rw [ef] at q
      have htb2 : IsTab (fun _ => False) H2 ta tb := htb.mono fun b xs _ z => (F2.seqs hT).2 _ _ z
      refine ⟨.ref ri, rfl, .ref ta, rfl, .ref ka, rfl, ri, ta, ka, wds, many, hues, tb, tk, rfl, hrd.mono (F2.tups hT), g, htb2, F2.tups hT _ _ hk, gk, gf, tl, F2.2, fun H3 lm ms f3 nlm hlm pms => ?_⟩
      have F3 := F2.trans f3
      have hT3 := F3.2
      have ml := pairedLen pms
      refine ⟨lm, rfl, ⟨_, .inl (.inl hlm)⟩, hT3 _ hP, fun H4 tb4 => ?_⟩
      have f4 := FrS.one hT3 hP tb4
      refine Gx.all_list (K := K) (a := lm) (xs := ms.map V.ref) (fun i H5 => FrS Ps H3 H5 ∧ ((mendM wds tb tk).take i).all (fun m => decide (valL fl tk ≤ 1 + valL fl m.2)) = true) ⟨f4, rfl⟩ (fun i H5 _ p => .inl (.inl ((p.1.seqs hT3).2 _ _ hlm))) (fun i x H5 hx p => ?_) (fun H5 p => ?_)
      · obtain ⟨m0, em0, rfl⟩ := map_get hx
        obtain ⟨⟨n, af⟩, emx, t, hm0, ht⟩ := pairedGetL pms em0
        have hm0 : H3 m0 = some (.tup [.int n, .ref t]) := hm0
        have ht : H3 t = some (.tup (af.map V.int)) := ht
        obtain ⟨f5, e5⟩ := p
        have t5 := f5.tups hT3
        have ht5 : H5 t = some (.tup ((keyB af).map kV)) := by rw [keyB_kV]; exact t5 _ _ ht
        have hfd5 := (F3.trans f5).1 fd _ nfP hfd
        refine ⟨m0, [.int n, .ref t], rfl, .inl (.inl (t5 _ _ hm0)), rfl, .int n, [.ref t], rfl, .ref t, [], rfl, rfl, rfl, yes_if ?_⟩
        refine ⟨.int _, rfl, .ref fd, rfl, fd, rfl, .inr ⟨kvF fl, .inr ⟨od, hfd5⟩⟩, .ref t, rfl, _, .inr ⟨kvF fl, keyB af, t, .inr ⟨od, hfd5⟩, rfl, ht5, rfl⟩, ?_⟩
        rw [kvF_get]
        refine ⟨_, _, rfl, rfl, _, _, rfl, rfl, _, rfl, ?_⟩
        by_cases cc : valL fl tk ≤ 1 + valL fl af
        · rw [if_pos (decide_eq_true cc)]
          refine ⟨f5, ?_⟩
          rw [take_snoc emx, List.all_append, e5, List.all_cons, decide_eq_true cc]
          rfl
        · rw [if_neg (by rw [decide_eq_false cc]; decide)]
          have : ((mendM wds tb tk).all fun m => decide (valL fl tk ≤ 1 + valL fl m.2)) = false := by
            rw [List.all_eq_false]
            exact ⟨(n, af), List.mem_of_getElem? emx, by rw [decide_eq_false cc]; decide⟩
          rw [this] at q
          exact q _ (F3.trans f5)
      · obtain ⟨f5, e5⟩ := p
        rw [List.length_map, ml, List.take_length] at e5
        rw [e5] at q
        exact q _ (F3.trans f5)
theorem ok_arf {f c Pt : Addr} {Ps : List Addr} {fd : FuncData} {k : Nat} (F : FunC K "are_floors" "are_floors" sArf f fd (.ref c)) (TB : GxR.TabB base mg c Pt) (hP : Pt ∈ Ps) (T : TxtArf P w K mg base Ps) : FnOk P w K mg base CX0 (k + 10) f fd ["riddle", "table", "floors"] (spArf Ps) := by
  refine F.ok scArf (fun vs H Q E h => ?_) (fun A outer s H vs Q E hr h => ?_)
  · obtain ⟨ri, ta, fd, wds, many, hues, tb, fl, rfl, _⟩ := h
    rfl
  · obtain ⟨ri, ta, fd, wds, many, hues, tb, fl, rfl, hrd, g, htb, gs, hfd, nfd, hT, q⟩ := h
    refine ⟨_, (pss_one (ps_ret (Gx.pe_allX (own := [("taken", 3)]) hr (by rfl) T.m_all rfl scArf.nd TB rfl (blkOk_by (own := [("taken", 3)]) (N := nArf) (sc := defScope sArf) (by decide +kernel)) ⟨rfl, by decide +kernel, rfl⟩ (pi_keysE (pv 2))
   (fun _ _ _ _ _ _ hA => (pg_name (i := 3) scArf.nd rfl (Or.inl rfl))) (fun _ _ _ _ _ _ hA => pts_nil) (fun _ _ _ _ _ _ hA => (pe_and (pe_cal T.c_is_taken (hA.mono (by omega)) (by rfl) (pa_cons (pv 1) (pa_cons (pv 3) pa_nil))) (pe_one (pe_cal T.c_is_floor (hA.mono (by omega)) (by rfl) (pa_cons (pv 0) (pa_cons (pv 1) (pa_cons (pv 2) (pa_cons (pv 3) pa_nil))))))))))), ?_⟩
    have tl := gs.len
    have m6 := g.m6
    have main : ∀ (H1 : Hp) (od : Obj), H1 fd = some (.frz od (.dT (kvF fl))) → (∀ b o, b ≠ fd → H b = some o → H1 b = some o) → Tabs Ps H1 → ∀ H2, GxR.Tabbed Pt H1 H2 →
        ∃ W : Nat → Nat → Hp → Prop, (∃ m, W 0 m H2) ∧ Gx.Turns (Itkt fd od (kvF fl)) (gName 3) tYes (tAndV (tCall (spIst Ps) [] E0 (tCons (tVar 1) (tCons (tVar 3) tNil))) (tCall (spIsf Ps) [] E0 (tCons (tVar 0) (tCons (tVar 1) (tCons (tVar 2) (tCons (tVar 3) tNil)))))) (List.map (fun x => x.snd) [(Str.ofString "taken", 3)]) (L2.start nArf [V.ref ri, V.ref ta, V.ref fd]) true (fun H => Q (.bl true) H) (fun H => Q (.bl false) H) W := by
      intro H1 od e1 k1 hT1 H2 tb2
      have f2 := FrS.one hT1 hP tb2
      have nTf : ∀ {b : Addr} {o : HO}, H b = some o → (∀ kvs, o ≠ .dT kvs) → (∀ od u, o ≠ .frz od u) → b ≠ fd := fun {b o} e n1 n2 z => by
        rcases hfd with h | ⟨od', h⟩
        · rw [z, h] at e
          exact n1 _ (Option.some.inj e).symm
        · rw [z, h] at e
          exact n2 _ _ (Option.some.inj e).symm
      have tu1 : Tups H H1 := ⟨fun b xs e => k1 b _ (nTf e (fun _ z => nomatch z) (fun _ _ z => nomatch z)) e, fun b q xs e => k1 b _ (fun z => by rcases hfd with h | ⟨od', h⟩ <;> rw [z, h] at e <;> cases e) e⟩
      have ls1 : ∀ b xs, H b = some (.lst xs) → H1 b = some (.lst xs) := fun b xs e => k1 b _ (nTf e (fun _ z => nomatch z) (fun _ _ z => nomatch z)) e
      have hrd1 := hrd.mono tu1
      have htb1 : IsTab (fun _ => False) H1 ta tb := htb.mono fun b xs _ z => ls1 _ _ z
      have fin : ∀ H3, FrS Ps H1 H3 → FrD Ps fd fl H H3 := fun H3 f3 => ⟨fun b o nb n e => f3.1 b o nb (k1 b o n e), f3.2, od, f3.1 fd _ nfd e1⟩
      refine Gx.all_keysT (Pv := fun i H3 => FrS Ps H1 H3 ∧ (fl.take i).all (fun x => istM tb x.1 && isfM wds tb fl x.1) = true) ⟨f2, rfl⟩ (fun i H3 p => p.1.1 fd _ nfd e1) (fun i kk v qa H3 ex hq p => ?_) (fun H3 p => ?_)
      · obtain ⟨f3, e3⟩ := p
        unfold kvF at ex
        rw [List.getElem?_map] at ex
        obtain ⟨x, hx, e⟩ := Option.map_eq_some_iff.mp ex
        cases e
        have xm := List.mem_of_getElem? hx
        rw [keyB_kV] at hq
        have htb3 : IsTab (fun _ => False) H3 ta tb := htb1.mono fun b xs _ z => (f3.seqs hT1).2 _ _ z
        have no : (istM tb x.1 && isfM wds tb fl x.1) = false → arfM wds tb fl = false := fun z => by
          unfold arfM
          rw [List.all_eq_false]
          exact ⟨x, xm, by rw [z]; decide⟩
        refine ⟨rfl, yes_if ?_⟩
        refine ⟨.ref ta, rfl, .ref qa, rfl, ta, qa, tb, x.1, rfl, htb3, hq, by omega, f3.2, fun H4 f4 => ⟨_, rfl, ?_⟩⟩
        have f14 := f3.trans f4
        cases c : istM tb x.1 with
        | false =>
          rw [if_neg (by decide)]
          refine ⟨false, rfl, ?_⟩
          rw [if_neg (by decide)]
          have := q H4 (fin H4 f14)
          rw [no (by rw [c]; rfl)] at this
          exact this
        | true =>
          rw [if_pos rfl]
          have gk := istM_good.mp c
          have htb4 : IsTab (fun _ => False) H4 ta tb := htb1.mono fun b xs _ z => (f14.seqs hT1).2 _ _ z
          refine ⟨.ref ri, rfl, .ref ta, rfl, .ref fd, rfl, .ref qa, rfl, ri, ta, fd, qa, od, wds, many, hues, tb, x.1, fl, rfl, hrd1.mono (f14.tups hT1), g, htb4, gs, f14.1 fd _ nfd e1, f4.tups f3.2 _ _ hq, List.mem_map.mpr ⟨x, xm, rfl⟩, gk, f14.2, fun H5 f5 => ⟨_, rfl, ?_⟩⟩
          have f15 := f14.trans f5
          cases cc : isfM wds tb fl x.1 with
          | true =>
            rw [if_pos rfl]
            refine ⟨f15, ?_⟩
            rw [take_snoc hx, List.all_append, e3, List.all_cons, c, cc]
            rfl
          | false =>
            rw [if_neg (by decide)]
            have := q H5 (fin H5 f15)
            rw [no (by rw [c, cc]; rfl)] at this
            exact this
      · obtain ⟨f3, e3⟩ := p
        have kl : (kvF fl).length = fl.length := by unfold kvF; rw [List.length_map]
        rw [kl, List.take_length] at e3
        have := q H3 (fin H3 f3)
        rw [show arfM wds tb fl = true from e3] at this
        exact this
    rcases id hfd with h | ⟨od, h⟩
    · refine ⟨.ref fd, rfl, fd, _, rfl, h, .inl ⟨trivial, fun od => ⟨fd, od, rfl, .inr ⟨kvF fl, upd_same, ?_⟩⟩⟩⟩
      have k1 : ∀ b o, b ≠ fd → H b = some o → upd H fd (.frz od (.dT (kvF fl))) b = some o := fun b o n e => by
        rw [upd_ne n]
        exact e
      have hT1 : Tabs Ps (upd H fd (.frz od (.dT (kvF fl)))) := hT.put nfd
      exact ⟨hT1 _ hP, fun H2 tb2 => main _ od upd_same k1 hT1 H2 tb2⟩
    · refine ⟨.ref fd, rfl, fd, _, rfl, h, .inr ⟨fd, od, rfl, .inr ⟨kvF fl, h, ?_⟩⟩⟩
      exact ⟨hT _ hP, fun H2 tb2 => main _ od h (fun _ _ _ e => e) hT H2 tb2⟩
end
end Rd

set_option Elab.async false
set_option linter.all false
set_option maxRecDepth 100000
set_option maxHeartbeats 4000000
namespace Rd
open PySem PySem.Spec PyProof.Rows L2 Dt
def difP (a b : WD) (r s : List Int) (p : Int) : Bool := !decide (r.getD (a.1.idxOf p) 0 = s.getD (b.1.idxOf p) 0)
theorem agree_nil (a b : WD) (r s : List Int) : ((shd a b).filter (difP a b r s) = []) ↔ agreeB a b r s = true := by
  unfold agreeB difP
  rw [List.filter_eq_nil_iff, List.all_eq_true]
  simp
theorem filter_take_snoc {α : Type} {l : List α} {i : Nat} {x : α} (p : α → Bool) (h : l[i]? = some x) : (l.take (i + 1)).filter p = (l.take i).filter p ++ (if p x = true then [x] else []) := by
  rw [take_snoc h, List.filter_append]
  congr 1
  cases c : p x with
  | true => rw [List.filter_cons_of_pos c, if_pos rfl]; rfl
  | false => rw [List.filter_cons_of_neg (by rw [c]; decide), if_neg (by decide)]; rfl
theorem shd_mem {a b : WD} {p : Int} (h : p ∈ shd a b) : p ∈ a.1 ∧ p ∈ b.1 := by
  obtain ⟨h1, h2⟩ := List.mem_filter.mp h
  exact ⟨h1, of_decide_eq_true h2⟩
theorem shd_len (a b : WD) : (shd a b).length ≤ a.1.length := List.length_filter_le _ _
section
variable {P : Program} {w : World} {K : PySem.W.Frag} {mg : Str → Option Value} {base : Heap}
set_option maxHeartbeats 16000000 in
theorem ok_mee {f : Addr} {fd : FuncData} {k : Nat} (F : Fun K "_law_meet" "_law_meet" sMee f fd) : FnOk P w K mg base CX0 (k + 1) f fd ["one", "other"] spMee := by
  refine F.ok scMee (fun vs H Q E h => ?_) (fun cdv A outer s H vs Q E hr h => ?_)
  · obtain ⟨wa, wb, a, b, many, hues, rfl, _⟩ := h
    rfl
  · obtain ⟨wa, wb, a, b, many, hues, rfl, ha, hb, ga, gb, m6, h4, q⟩ := h
    refine ⟨_, (pss_cons (ps_setLc (i := 2) (tt := tTest (tOp (rInT K) (tVar 5) (tOp (rIxT K) (tVar 1) (tC (.int 0))))) (own := [("place", 5)]) rfl scMee.nd rfl rfl (sw_true rfl rfl rfl (by decide +kernel)) (pi_tup (pe_ix ix_tup (pv 0) pe_int (fun _ _ => rfl))) (blkOk_by (own := [("place", 5)]) (N := nMee) (sc := defScope sMee) (by decide +kernel))
   (fun _ _ _ _ _ => (pg_name (i := 5) scMee.nd rfl (Or.inl rfl))) (fun _ _ _ _ _ => pts_one (pt_cmpR (Dt.op_inT (units65 hr)) (pv 5) (pe_ix ix_tup (pv 1) pe_int (fun _ _ => rfl)) (by rfl))) (fun _ _ _ _ _ => (pv 5)))
  (pss_cons (ps_if (pt_cmpR (op_eqD hr.units) (pv 2) (pe_lst pa_nil) (nomark _))
  (pss_one (ps_ret (pe_tup (pa_cons pe_bl (pa_cons pe_bl pa_nil))))) pss_nil)
  (pss_cons (ps_for PassesOwn.never rfl (pi_tup (pe_ix ix_tup (pv 0) pe_int (fun _ _ => rfl))) (pg_name (i := 3) scMee.nd rfl (Or.inr rfl))
  (pss_one (ps_for PassesOwn.never rfl (pi_tup (pe_ix ix_tup (pv 1) pe_int (fun _ _ => rfl))) (pg_name (i := 4) scMee.nd rfl (Or.inr rfl))
  (pss_one (ps_if (pt_cmpR (op_eqD hr.units) (pe_lc (tt := tTest (tOp rNe (tOp (rIxT K) (tVar 3) (tBMF (rIdxT K) (tOp (rIxT K) (tVar 0) (tC (.int 0))) (tCons (tVar 5) tNil))) (tOp (rIxT K) (tVar 4) (tBMF (rIdxT K) (tOp (rIxT K) (tVar 1) (tC (.int 0))) (tCons (tVar 5) tNil))))) (own := [("place", 5)]) rfl scMee.nd  (pi_list (pv 2)) (blkOk_by (own := [("place", 5)]) (N := nMee) (sc := defScope sMee) (by decide +kernel))
   (fun _ _ _ _ _ => (pg_name (i := 5) scMee.nd rfl (Or.inl rfl))) (fun _ _ _ _ _ => pts_one (pt_cmpR op_ne (pe_ix ix_tup (pv 3) (pe_bmF PySem.F.plainAttrs_tuple PySem.F.slot_tuple_index PySem.F.type_tuple_index mt_indexT (pe_ix ix_tup (pv 0) pe_int (fun _ _ => rfl)) (pa_cons (pv 5) pa_nil)) (fun _ _ => rfl)) (pe_ix ix_tup (pv 4) (pe_bmF PySem.F.plainAttrs_tuple PySem.F.slot_tuple_index PySem.F.type_tuple_index mt_indexT (pe_ix ix_tup (pv 1) pe_int (fun _ _ => rfl)) (pa_cons (pv 5) pa_nil)) (fun _ _ => rfl)) (nomark _))) (fun _ _ _ _ _ => (pv 5))) (pe_lst pa_nil) (nomark _))
  (pss_one (ps_ret (pe_tup (pa_cons pe_bl (pa_cons pe_bl pa_nil))))) pss_nil)))))
  (pss_one (ps_ret (pe_tup (pa_cons pe_bl (pa_cons pe_bl pa_nil)))))))), ?_⟩
    obtain ⟨pa, ra, rs, a1, a2, a3, a4⟩ := id ha
    obtain ⟨pb, rb, ss, b1, b2, b3, b4⟩ := id hb
    have a5 := ga.three
    have b5 := gb.three
    have fineI : ∀ p ∈ a.1, Fine (.int p) 1 7 := fun p hp => fine_int (ga.pl p hp).1 (by have := (ga.pl p hp).2; omega)
    have fineR : ∀ (wd : WD), Good many hues wd → Fine (rowD wd.1) 2 64 := fun wd g => fine_row (fun z hz => by have := g.pl z hz; omega) (by have := g.three; omega)
    -- shared
    refine ⟨.ref wa, rfl, wa, _, 0, _, rfl, rfl, .inl (.inl a1), rfl, pa, rfl, ⟨_, a2.sq⟩, fun D nD => ?_⟩
    refine lc_tup (K := K) (a := pa) (xs := a.1.map V.int) (fun i H3 => Same H H3 ∧ H3 D = some (.lst (((a.1.take i).filter fun p => decide (p ∈ b.1)).map V.int))) ⟨same_upd nD, upd_same⟩ (fun i H3 _ p => (a2.mono (tups_same p.1)).sq) (fun i x H3 hx p => ?_) (fun H3 p => ?_)
    · obtain ⟨z, ez, rfl⟩ := map_get hx
      obtain ⟨s3, hD⟩ := p
      have hz := List.mem_of_getElem? ez
      refine ⟨rfl, .int z, rfl, .ref wb, rfl, wb, _, 0, _, rfl, rfl, .inl (.inl (s3 _ _ b1)), rfl, .int z, b.1.map PyData.int, .int z, .tup (b2.mono (tups_same s3)).sq (dpInts _), (fineI z hz).shaped (by decide), (fineR b gb).shaped (by decide), _, rfl, ?_⟩
      rw [Gv.any_ints]
      have sn := filter_take_snoc (fun p => decide (p ∈ b.1)) ez
      refine ite2 (fun e => ?_) (fun e => ?_)
      · refine ⟨.int z, rfl, _, hD, ?_, same_put s3 nD, ?_⟩
        · rw [List.length_map]
          have := List.length_filter_le (fun p => decide (p ∈ b.1)) (a.1.take i)
          rw [List.length_take] at this
          exact small1000 (by omega)
        · rw [upd_same, sn, if_pos e, List.map_append]
          rfl
      · refine ⟨s3, ?_⟩
        rw [sn, if_neg e, List.append_nil]
        exact hD
    obtain ⟨s3, hD⟩ := p
    rw [List.length_map, List.take_length] at hD
    have hD : H3 D = some (.lst ((shd a b).map V.int)) := hD
    have sl := shd_len a b
    refine ⟨.ref D, rfl, (by show 0 ≤ sizeLine; decide), fun l4 nl4 => ?_⟩
    have s34 := same_upd (o := .lst []) nl4
    have s4 := s3.trans s34
    have hD4 := s34 _ _ hD
    have hl4 : upd H3 l4 (.lst []) l4 = some (.lst []) := upd_same
    generalize upd H3 l4 (.lst []) = H4 at s4 hD4 hl4
    have fineL : ∀ l : List Int, (∀ p ∈ l, p ∈ a.1) → l.length ≤ 3 → Fine (.list (l.map .int)) 2 (l.length * 15) := fun l h1 h2 => fine_ints fun z hz => by have := ga.pl z (h1 z hz); omega
    refine ⟨_, _, .lst (.inl (.inl hD4)) (dpInts _), .lst (.inl (.inl hl4)) .nil, (fineL _ (fun p hp => (shd_mem hp).1) (by omega)).shaped (by decide), (fineL [] (fun p hp => nomatch hp) (by decide)).shaped (by decide), _, rfl, ?_⟩
    rw [eqv_ints_nil]
    refine ite2 (fun e => ?_) (fun e => ?_)
    · have e2 : clB a b = false := (shd_nil a b).mp (of_decide_eq_true e)
      refine ⟨(by show 2 ≤ sizeLine; decide), fun t nt => ?_⟩
      refine q _ t (s4.trans (same_upd nt)) (s4.free nt) ?_
      rw [upd_same, e2]
      rfl
    · have e2 : clB a b = true := by
        cases c : clB a b with
        | true => rfl
        | false => exact absurd (decide_eq_true ((shd_nil a b).mpr c)) e
      obtain ⟨c1, c2⟩ : (∀ r ∈ a.2, r.length = a.1.length) ∧ (∀ r ∈ b.2, r.length = b.1.length) := ⟨fun r hr => (ga.row r hr).1, fun r hr => (gb.row r hr).1⟩
      refine ⟨.ref wa, rfl, wa, _, 1, _, rfl, rfl, .inl (.inl (s4 _ _ a1)), rfl, ra, rfl, ⟨_, .inl (.inl (s4 _ _ a3))⟩, ?_⟩
      refine for_tup (K := K) (a := ra) (xs := rs.map V.ref) (fun i σ H5 => Same H4 H5 ∧ (∀ r ∈ a.2.take i, (b.2.any fun s => agreeB a b r s) = false) ∧ ∃ y3 y4, σ = [some (.ref wa), some (.ref wb), some (.ref D), y3, y4, none]) ⟨fun _ _ e => e, (fun r z => nomatch z), none, none, rfl⟩ (fun i σ H5 _ p => .inl (.inl (p.1 _ _ (s4 _ _ a3)))) (fun i x σ H5 hx p => ?_) (fun σ H5 p => ?_)
      · obtain ⟨r1, er1, rfl⟩ := map_get hx
        obtain ⟨row, hrow, isr⟩ := pairedGetL a4 er1
        obtain ⟨s5, no, y3, y4, rfl⟩ := p
        have s05 := s4.trans s5
        refine ⟨.ref wb, rfl, wb, _, 1, _, rfl, rfl, .inl (.inl (s05 _ _ b1)), rfl, rb, rfl, ⟨_, .inl (.inl (s05 _ _ b3))⟩, ?_⟩
        refine for_tup (K := K) (a := rb) (xs := ss.map V.ref) (fun j σ H6 => Same H5 H6 ∧ (∀ s ∈ b.2.take j, agreeB a b row s = false) ∧ ∃ y4, σ = [some (.ref wa), some (.ref wb), some (.ref D), some (.ref r1), y4, none]) ⟨fun _ _ e => e, (fun r z => nomatch z), _, rfl⟩ (fun j σ H6 _ p => .inl (.inl (p.1 _ _ (s05 _ _ b3)))) (fun j x σ H6 hx p => ?_) (fun σ H6 p => ?_)
        · obtain ⟨r2, er2, rfl⟩ := map_get hx
          obtain ⟨sow, hsow, isr2⟩ := pairedGetL b4 er2
          obtain ⟨s6, no6, y4, rfl⟩ := p
          have s06 := s05.trans s6
          have s46 := s5.trans s6
          have rl := c1 row (List.mem_of_getElem? hrow)
          have sl2 := c2 sow (List.mem_of_getElem? hsow)
          refine ⟨.ref D, rfl, D, rfl, ⟨_, .inl (.inl (s46 _ _ hD4))⟩, fun D2 nD2 => ?_⟩
          refine lc_list (K := K) (a := D) (xs := (shd a b).map V.int) (fun m H7 => Same H6 H7 ∧ H7 D2 = some (.lst ((((shd a b).take m).filter (difP a b row sow)).map V.int))) ⟨same_upd nD2, upd_same⟩ (fun m H7 _ p => .inl (.inl ((s46.trans p.1) _ _ hD4))) (fun m x H7 hx p => ?_) (fun H7 p => ?_)
          · obtain ⟨z, ez, rfl⟩ := map_get hx
            obtain ⟨s7, hD2⟩ := p
            obtain ⟨z1, z2⟩ := shd_mem (List.mem_of_getElem? ez)
            have s07 := s06.trans s7
            have i1 := List.idxOf_lt_length_of_mem z1
            have i2 := List.idxOf_lt_length_of_mem z2
            have g1 : row[a.1.idxOf z]? = some (row.getD (a.1.idxOf z) 0) := by rw [List.getD_eq_getElem?_getD, List.getElem?_eq_getElem (by omega)]; rfl
            have g2 : sow[b.1.idxOf z]? = some (sow.getD (b.1.idxOf z) 0) := by rw [List.getD_eq_getElem?_getD, List.getElem?_eq_getElem (by omega)]; rfl
            have pa7 := a2.mono (tups_same s07)
            have pb7 := b2.mono (tups_same s07)
            obtain ⟨oa, ha1, ha2, ha3⟩ := id pa7
            obtain ⟨ob, hb1, hb2, hb3⟩ := id pb7
            refine ⟨rfl, .ref r1, rfl, .ref wa, rfl, wa, _, 0, _, rfl, rfl, .inl (.inl (s07 _ _ a1)), rfl, ⟨pa, oa, _, rfl, ha1, ha2, ha3⟩, .int z, rfl, pa, a.1, z, rfl, rfl, pa7.sq, z1, r1, _, _, _, rfl, rfl, .inl (.inl (s07 _ _ isr)), atI_nat (map_at g1), ?_⟩
            refine ⟨.ref r2, rfl, .ref wb, rfl, wb, _, 0, _, rfl, rfl, .inl (.inl (s07 _ _ b1)), rfl, ⟨pb, ob, _, rfl, hb1, hb2, hb3⟩, .int z, rfl, pb, b.1, z, rfl, rfl, pb7.sq, z2, r2, _, _, _, rfl, rfl, .inl (.inl (s07 _ _ isr2)), atI_nat (map_at g2), rfl, _, rfl, ?_⟩
            have ed : (!decide (V.int (row.getD (a.1.idxOf z) 0) = V.int (sow.getD (b.1.idxOf z) 0))) = difP a b row sow z := by
              unfold difP
              congr 1
              simp
            rw [ed]
            have sn := filter_take_snoc (difP a b row sow) ez
            refine ite2 (fun e => ?_) (fun e => ?_)
            · refine ⟨.int z, rfl, _, hD2, ?_, same_put s7 nD2, ?_⟩
              · rw [List.length_map]
                have := List.length_filter_le (difP a b row sow) ((shd a b).take m)
                rw [List.length_take] at this
                exact small1000 (by omega)
              · rw [upd_same, sn, if_pos e, List.map_append]
                rfl
            · refine ⟨s7, ?_⟩
              rw [sn, if_neg e, List.append_nil]
              exact hD2
          · obtain ⟨s7, hD2⟩ := p
            rw [List.length_map, List.take_length] at hD2
            refine ⟨(by show 0 ≤ sizeLine; decide), fun l8 nl8 => ?_⟩
            have s78 := same_upd (o := .lst []) nl8
            have f1 := fineL ((shd a b).filter (difP a b row sow)) (fun p hp => (shd_mem (List.mem_filter.mp hp).1).1) (by have := List.length_filter_le (difP a b row sow) (shd a b); omega)
            have fl := List.length_filter_le (difP a b row sow) (shd a b)
            refine ⟨_, _, .lst (.inl (.inl (s78 _ _ hD2))) (dpInts _), .lst (.inl (.inl upd_same)) .nil, f1.shaped (by omega), (fineL [] (fun p hp => nomatch hp) (by decide)).shaped (by decide), _, rfl, ?_⟩
            rw [eqv_ints_nil]
            refine ite2 (fun e => ?_) (fun e => ?_)
            · have ag := (agree_nil a b row sow).mp (of_decide_eq_true e)
              have e3 : meetB a b = true := by
                unfold meetB
                rw [List.any_eq_true]
                refine ⟨row, List.mem_of_getElem? hrow, ?_⟩
                rw [List.any_eq_true]
                exact ⟨sow, List.mem_of_getElem? hsow, ag⟩
              refine ⟨(by show 2 ≤ sizeLine; decide), fun t nt => ?_⟩
              have s08 := (s06.trans s7).trans s78
              refine q _ t (s08.trans (same_upd nt)) (s08.free nt) ?_
              rw [upd_same, e2, e3]
              rfl
            · refine ⟨(s6.trans s7).trans s78, fun s hs => ?_, _, rfl⟩
              rw [take_snoc hsow] at hs
              rcases List.mem_append.mp hs with z | z
              · exact no6 s z
              · rw [List.mem_singleton.mp z]
                cases c : agreeB a b row sow with
                | false => rfl
                | true => exact absurd (decide_eq_true ((agree_nil a b row sow).mpr c)) e
        · obtain ⟨s6, no6, y4, rfl⟩ := p
          rw [List.length_map, pairedLen b4, List.take_length] at no6
          refine ⟨s5.trans s6, fun r hr => ?_, _, _, rfl⟩
          rw [take_snoc hrow] at hr
          rcases List.mem_append.mp hr with z | z
          · exact no r z
          · rw [List.mem_singleton.mp z, List.any_eq_false]
            exact fun s hs => by rw [no6 s hs]; decide
      · obtain ⟨s5, no, y3, y4, rfl⟩ := p
        rw [List.length_map, pairedLen a4, List.take_length] at no
        have e3 : meetB a b = false := by
          unfold meetB
          rw [List.any_eq_false]
          exact fun r hr => by rw [no r hr]; decide
        refine ⟨(by show 2 ≤ sizeLine; decide), fun t nt => ?_⟩
        refine q _ t ((s4.trans s5).trans (same_upd nt)) ((s4.trans s5).free nt) ?_
        rw [upd_same, e2, e3]
        rfl
end
end Rd

set_option Elab.async false
set_option linter.all false
set_option maxRecDepth 100000
set_option maxHeartbeats 4000000
namespace Rd
open PySem PySem.Spec PyProof.Rows L2 Dt
abbrev sArd : Stmt := topS 40
abbrev nArd : List Str := ["tape", "small", "many", "hues", "wishes", "k", "wish", "other"]
theorem scArd : FnScope nArd ["tape", "small"] (defScope sArd) := ⟨rfl, rfl, rfl, by decide +kernel, rfl, by decide +kernel, by decide +kernel⟩
def IsBB (H : Hp) (t : Addr) (p : Bool × Bool) : Prop := H t = some (.tup [.bl p.1, .bl p.2])
theorem dpBBs {K : PySem.W.Frag} {H : Hp} : ∀ {ts : List Addr} {bs : List (Bool × Bool)}, Paired (IsBB H) ts bs → DpAll K H (ts.map V.ref) (bs.map fun p => .tuple [.bool p.1, .bool p.2])
  | _, _, .nil => .nil
  | _, _, .cons h t => .cons (.tup (.inl (.inl h)) (.cons (.bl _) (.cons (.bl _) .nil))) (dpBBs t)
structure TxtAr (P : Program) (w : World) (K : PySem.W.Frag) (mg : Str → Option Value) (base : Heap) : Prop where
  m_range : mg "range" = none
  m_len : mg "len" = none
  m_tuple : mg "tuple" = none
  c__law_digit : Cal P w K mg base 1 "_law_digit" ["tape", "many"] spDig
  c__law_wish : Cal P w K mg base 2 "_law_wish" ["tape", "many", "hues", "most"] spWis
  c__law_sizes : Cal P w K mg base 2 "_law_sizes" ["tape", "small"] spSzs
  c__law_meet : Cal P w K mg base 1 "_law_meet" ["one", "other"] spMee
section
variable {P : Program} {w : World} {K : PySem.W.Frag} {mg : Str → Option Value} {base : Heap}
theorem ok_ard {f : Addr} {fd : FuncData} {k : Nat} (F : Fun K "_law_apart_riddle" "_law_apart_riddle" sArd f fd) (T : TxtAr P w K mg base) : FnOk P w K mg base CX0 (k + 3) f fd ["tape", "small"] spRid := by
  refine F.ok scArd (fun vs H Q E h => ?_) (fun cdv A outer s H vs Q E hr h => ?_)
  · obtain ⟨tp, sm, rfl, _⟩ := h
    rfl
  · obtain ⟨tp, sm, rfl, hT, q⟩ := h
    refine ⟨_, (pss_cons (ps_asg (pe_cal T.c__law_sizes (hr.mono (by omega)) (by rfl) (pa_cons (pv 0) (pa_cons (pv 1) pa_nil))) (pg_tup rfl (pgs_cons (pg_name (i := 2) scArd.nd rfl (Or.inl rfl)) (pgs_cons (pg_name (i := 3) scArd.nd rfl (Or.inl rfl)) pgs_nil))))
  (pss_cons (ps_set (i := 4) scArd.nd rfl (Or.inl rfl) (pe_lst pa_nil))
  (pss_cons (ps_for PassesOwn.never rfl (pi_range1 (by rfl) T.m_range (pa_cons (pe_op op_add pe_int (pe_cal T.c__law_digit (hr.mono (by omega)) (by rfl) (pa_cons (pv 0) (pa_cons pe_int pa_nil)))) pa_nil)) (pg_name (i := 5) scArd.nd rfl (Or.inl rfl))
  (pss_cons (ps_set (i := 6) scArd.nd rfl (Or.inr rfl) (pe_cal T.c__law_wish (hr.mono (by omega)) (by rfl) (pa_cons (pv 0) (pa_cons (pv 2) (pa_cons (pv 3) (pa_cons pe_int pa_nil))))))
  (pss_one (ps_if (PW.pt (pw_and (pt_cmpR op_lt (pe_callB call_len_seq (by rfl) T.m_len (by decide +kernel) (pa_cons (pv 4) pa_nil)) pe_int (nomark _)) (pw_and1 (pt_cmpR (op_notInD (units65 hr)) (pe_tup (pa_cons pe_bl (pa_cons pe_bl pa_nil))) (pe_lc (te := tCall spMee [] E0 (tCons (tVar 6) (tCons (tVar 7) tNil))) (own := [("other", 7)]) rfl scArd.nd  (pi_list (pv 4)) (blkOk_by (own := [("other", 7)]) (N := nArd) (sc := defScope sArd) (by decide +kernel))
   (fun _ _ _ _ _ => (pg_name (i := 7) scArd.nd rfl (Or.inl rfl))) (fun _ _ _ _ _ => pts_nil) (fun _ _ _ _ _ => (pe_cal T.c__law_meet (hr.mono (by omega)) (by rfl) (pa_cons (pv 6) (pa_cons (pv 7) pa_nil))))) (by rfl)))))
  (pss_one (ps_expr (pe_bm PySem.F.plainAttrs_list PySem.F.slot_list_append PySem.F.type_list_append mt_append (pv 4) (pa_cons (pv 6) pa_nil)))) pss_nil))))
  (pss_one (ps_ret (pe_tup (pa_cons (pv 2) (pa_cons (pv 3) (pa_cons (pe_callTy call_tuple_of (by rfl) T.m_tuple (by decide +kernel) (pa_cons (pv 4) pa_nil)) pa_nil))))))))), ?_⟩
    refine ⟨.ref tp, rfl, .bl sm, rfl, tp, sm, rfl, hT, fun H1 t many hues D1 ht ok => ?_⟩
    obtain ⟨k1, k6, hh2, hh4, kp⟩ := id ok
    dsimp only at k1 k6 hh2 hh4
    refine ⟨t, _, rfl, .inl (.inl ht), rfl, .int many, [.int hues], rfl, .int hues, [], rfl, rfl, ?_⟩
    refine ⟨(by show 0 ≤ sizeLine; decide), fun lw nlw => ?_⟩
    have nw := D1.2.new nlw
    have nw0 : H lw = none := D1.free nlw
    have E2 := D1.put (o := .lst []) nw0 nw
    have hw2 : upd H1 lw (.lst []) lw = some (.lst []) := upd_same
    generalize upd H1 lw (.lst []) = H2 at E2 hw2
    refine ⟨.ref tp, rfl, tp, 14, rfl, E2.2, by decide, by decide, fun H3 nn D3 n0 n1 => ⟨2, nn, rfl, rfl, 2 + nn, rfl, by omega, by omega, ?_⟩⟩
    refine for_range (lo := 0) (n := (2 + nn).toNat) (fun i σ H4 => Taped tp H H4 ∧ (∃ (was : List Addr) (wds : List WD), H4 lw = some (.lst (was.map V.ref)) ∧ was.length ≤ 8 ∧ Paired (IsWish H4) was wds ∧ (∀ wd ∈ wds, Good many hues wd) ∧ ∀ wd ∈ wds, Neat wd) ∧ ∃ y5 y6, σ = [some (.ref tp), some (.bl sm), some (.int many), some (.int hues), some (.ref lw), y5, y6, none]) ⟨E2.trans D3, ⟨[], [], D3.1 lw _ nw hw2, by decide, .nil, (fun _ h => nomatch h), (fun _ h => nomatch h)⟩, none, none, rfl⟩ (fun i σ H4 hi p => ?_) (fun σ H4 p => ?_)
    · obtain ⟨E4, ⟨was, wds, hw4, wl8, pw, gd, ne⟩, y5, y6, rfl⟩ := p
      refine ⟨.ref tp, rfl, .int many, rfl, .int hues, rfl, tp, many, hues, 2, rfl, E4.2, k1, k6, hh2, hh4, by decide, by decide, fun H5 wa wd D5 isw gw nw2 => ?_⟩
      have hw5 := D5.1 lw _ nw hw4
      have E5 := E4.trans D5
      have pw5 := pairedMap (fun _ _ e => IsWish.mono (D5.tups E4.2) e) pw
      have skip : ∀ H6, Same H5 H6 → Taped tp H H6 ∧ (∃ (was : List Addr) (wds : List WD), H6 lw = some (.lst (was.map V.ref)) ∧ was.length ≤ 8 ∧ Paired (IsWish H6) was wds ∧ (∀ wd ∈ wds, Good many hues wd) ∧ ∀ wd ∈ wds, Neat wd) ∧ ∃ y5 y6, [some (.ref tp), some (.bl sm), some (.int many), some (.int hues), some (.ref lw), some (.int (0 + (i : Int))), some (V.ref wa), none] = [some (.ref tp), some (.bl sm), some (.int many), some (.int hues), some (.ref lw), y5, y6, none] := fun H6 s6 => ⟨E5.same s6, ⟨was, wds, s6 _ _ hw5, wl8, pairedMap (fun _ _ e => IsWish.mono (tups_same s6) e) pw5, gd, ne⟩, _, _, rfl⟩
      refine ⟨.ref lw, rfl, lw, _, rfl, .inl (.inl (.inl hw5)), _, _, rfl, rfl, _, rfl, ite2 (fun e => ?_) (fun e => ?_)⟩
      · have lt : was.length < 8 := by
          have := of_decide_eq_true e
          rw [List.length_map] at this
          omega
        refine ⟨(by show 2 ≤ sizeLine; decide), fun tt ntt => ⟨.ref lw, rfl, lw, rfl, ⟨_, .inl (.inl (same_upd ntt _ _ hw5))⟩, fun D nD => ?_⟩⟩
        have s6 := same_upd (o := .tup [.bl true, .bl true]) ntt
        have htt : upd H5 tt (.tup [.bl true, .bl true]) tt = some (.tup [.bl true, .bl true]) := upd_same
        generalize upd H5 tt (.tup [.bl true, .bl true]) = H6 at s6 htt nD
        refine lc_list (K := K) (a := lw) (xs := was.map V.ref) (fun j H7 => Same H6 H7 ∧ ∃ (ts : List Addr) (bs : List (Bool × Bool)), H7 D = some (.lst (ts.map V.ref)) ∧ ts.length = j ∧ Paired (IsBB H7) ts bs) ⟨same_upd nD, [], [], upd_same, rfl, .nil⟩ (fun j H7 _ p => .inl (.inl ((s6.trans p.1) _ _ hw5))) (fun j x H7 hx p => ?_) (fun H7 p => ?_)
        · obtain ⟨wb, eb, rfl⟩ := map_get hx
          obtain ⟨wd2, hwd2, isw2⟩ := pairedGetL pw5 eb
          obtain ⟨s7, ts, bs, hD, tl, pt⟩ := p
          have hj := (List.getElem?_eq_some_iff.mp eb).1
          have t57 := tups_same (s6.trans s7)
          refine ⟨rfl, yes_if ?_⟩
          refine ⟨.ref wa, rfl, .ref wb, rfl, wa, wb, wd, wd2, many, hues, rfl, isw.mono t57, isw2.mono t57, gw, gd wd2 (List.mem_of_getElem? hwd2), k6, hh4, fun H8 t8 s8 nt8 ht8 => ?_⟩
          have hD8 := s8 _ _ hD
          have tu : Tups H8 (upd H8 D (.lst (ts.map V.ref ++ [.ref t8]))) := tups_lst hD8
          refine ⟨_, hD8, ?_, same_put (s7.trans s8) nD, ts ++ [t8], bs ++ [(clB wd wd2, clB wd wd2 && meetB wd wd2)], ?_, ?_, pairedSnoc (pairedMap (fun _ _ e => tu _ _ (s8 _ _ e)) pt) (tu _ _ ht8)⟩
          · rw [List.length_map, tl]
            exact small1000 (by omega)
          · rw [upd_same, List.map_append]
            rfl
          · rw [List.length_append, tl]
            rfl
        · obtain ⟨s7, ts, bs, hD, tl, pt⟩ := p
          rw [List.length_map] at tl
          have bl := pairedLen pt
          have f1 : Fine (.list (bs.map fun p => .tuple [.bool p.1, .bool p.2])) 3 (bs.length * 9) := Fine.list (fineAll_map (n := 2) (w := 8) bs fun p _ => fine_bb p.1 p.2)
          have s57 := s6.trans s7
          refine ⟨_, _, .tup (.inl (.inl (s7 _ _ htt))) (.cons (.bl _) (.cons (.bl _) .nil)), .lst (.inl (.inl hD)) (dpBBs pt), (fine_bb true true).shaped (by decide), f1.shaped (by omega), _, rfl, ite2 (fun e2 => ?_) (fun e2 => ?_)⟩
          · have hw7 := s57 _ _ hw5
            have tu : Tups H7 (upd H7 lw (.lst (was.map V.ref ++ [.ref wa]))) := tups_lst hw7
            have pw7 := pairedMap (fun _ _ e => IsWish.mono ((tups_same s57).trans tu) e) pw5
            refine ⟨.ref lw, rfl, .inl ⟨rfl, _, .inl (.inl hw7)⟩, .ref wa, rfl, lw, _, .ref wa, rfl, rfl, hw7, ?_, (E5.same s57).put nw0 nw, ⟨was ++ [wa], wds ++ [wd], ?_, ?_, pairedSnoc pw7 ((isw.mono (tups_same s57)).mono tu), ?_, ?_⟩, _, _, rfl⟩
            · rw [List.length_map]
              exact small1000 (by omega)
            · rw [upd_same, List.map_append]
              rfl
            · rw [List.length_append]
              show was.length + 1 ≤ 8
              omega
            · intro wd' h'
              rcases List.mem_append.mp h' with h' | h'
              · exact gd wd' h'
              · rw [List.mem_singleton.mp h']
                exact gw
            · intro wd' h'
              rcases List.mem_append.mp h' with h' | h'
              · exact ne wd' h'
              · rw [List.mem_singleton.mp h']
                exact nw2
          · exact skip H7 s57
      · exact skip H5 fun _ _ e => e
    · obtain ⟨E4, ⟨was, wds, hw4, wl8, pw, gd, ne⟩, y5, y6, rfl⟩ := p
      refine ⟨.int many, rfl, .int hues, rfl, .ref lw, rfl, lw, _, rfl, .inl ⟨.inl (.inl hw4), fun wt nwt => ?_⟩⟩
      have st := same_upd (o := .tup (was.map V.ref)) nwt
      refine ⟨(by show 3 ≤ sizeLine; decide), fun ri nri => ?_⟩
      have sr := same_upd (o := .tup [.int many, .int hues, .ref wt]) nri
      refine q _ ri many hues wds ((E4.same st).same sr) ⟨wt, was, upd_same, sr _ _ upd_same, pairedMap (fun _ _ e => IsWish.mono (tups_same (st.trans sr)) e) pw⟩ ⟨k1, k6, hh2, hh4, ?_, gd⟩ ne ok
      rw [← pairedLen pw]
      omega
end
end Rd

set_option autoImplicit false
set_option Elab.async false
set_option linter.all false
set_option maxRecDepth 100000
set_option maxHeartbeats 4000000
/-! runs and the fewest: the ways on, apart wishes -/
namespace Rd
open PySem PySem.Spec PyProof.Rows L2 Dt
theorem broL_inQ {fs : List Int} {wds : List WD} {k : Int} : k ∈ broL fs wds wds.length ↔ ∃ n : Nat, k = (n : Int) ∧ ∃ wd, wds[n]? = some wd ∧ Dt.brk fs wd = true := by
  unfold broL
  rw [List.mem_map]
  constructor
  · rintro ⟨n, hn, rfl⟩
    obtain ⟨h1, h2⟩ := List.mem_filter.mp hn
    have nl := List.mem_range.mp h1
    refine ⟨n, rfl, _, List.getElem?_eq_getElem nl, ?_⟩
    rw [brkAt_of (List.getElem?_eq_getElem nl)] at h2
    exact h2
  · rintro ⟨n, rfl, wd, hw, hb⟩
    refine ⟨n, List.mem_filter.mpr ⟨List.mem_range.mpr (List.getElem?_eq_some_iff.mp hw).1, ?_⟩, rfl⟩
    rw [brkAt_of hw]
    exact hb
theorem ext_getDQ {a b : List Int} (hl : a.length = b.length) (h : ∀ p, p < a.length → a.getD p 0 = b.getD p 0) : a = b := by
  refine List.ext_getElem? fun p => ?_
  by_cases c : p < a.length
  · have z := h p c
    rw [List.getD_eq_getElem?_getD, List.getD_eq_getElem?_getD, List.getElem?_eq_getElem c, List.getElem?_eq_getElem (show p < b.length by omega)] at z
    rw [List.getElem?_eq_getElem c, List.getElem?_eq_getElem (show p < b.length by omega)]
    exact congrArg some z
  · rw [List.getElem?_eq_none (by omega), List.getElem?_eq_none (by omega)]
theorem bumpA_bumpM : ∀ {ps tk : List Int}, ps.Nodup → (∀ p ∈ ps, 0 ≤ p ∧ p.toNat < tk.length) → bumpA tk ps = bumpM tk ps
  | [], tk, _, _ => by
    refine ext_getDQ (by rw [bumpM_len]; rfl) fun p hp => ?_
    have hp : p < tk.length := hp
    rw [bumpM_get hp, if_neg (fun z => nomatch z)]
    rfl
  | q :: r, tk, nd, hr => by
    obtain ⟨n1, n2⟩ := List.nodup_cons.mp nd
    have hq := hr q List.mem_cons_self
    have e : bumpA tk (q :: r) = bumpA (bump tk q.toNat) r := rfl
    rw [e, bumpA_bumpM n2 (fun p hp => by rw [bump_len]; exact hr p (List.mem_cons_of_mem _ hp))]
    refine ext_getDQ (by rw [bumpM_len, bumpM_len, bump_len]) fun p hp => ?_
    rw [bumpM_len, bump_len] at hp
    rw [bumpM_get (by rw [bump_len]; exact hp), bumpM_get hp, bump_get]
    by_cases c : p = q.toNat
    · have cq : (p : Int) = q := by omega
      rw [if_neg (fun z => n1 (by rw [← cq]; exact z)), if_pos ⟨c, hq.2⟩, if_pos (by rw [cq]; exact List.mem_cons_self), ← c]
    · have cq : (p : Int) ≠ q := by omega
      rw [if_neg (show ¬ (p = q.toNat ∧ q.toNat < tk.length) from fun z => c z.1)]
      by_cases m : (p : Int) ∈ r
      · rw [if_pos m, if_pos (List.mem_cons_of_mem _ m)]
      · rw [if_neg m, if_neg (fun z => (List.mem_cons.mp z).elim cq m)]
theorem valL_or (es : List (List Int × Int)) (g : List Int) : valL es g = 0 ∨ (g, valL es g) ∈ es := by
  induction es with
  | nil => exact .inl rfl
  | cons e r ih =>
    rw [valL_cons]
    by_cases c : e.1 = g
    · rw [if_pos c, ← c]
      exact .inr List.mem_cons_self
    · rw [if_neg c]
      exact ih.imp id (List.mem_cons_of_mem _)
section
variable {many hues : Int} {wds : List WD} {tb : List (List Int)} {ord : List Int}
theorem steps_app {t u v : List Int} {ns ms : List Int} : Steps wds tb t ns u → Steps wds tb u ms v → Steps wds tb t (ns ++ ms) v := by
  induction ns generalizing t with
  | nil => intro a b; rw [show t = u from a]; exact b
  | cons n r ih =>
    rintro ⟨x, hx, hr⟩ b
    exact ⟨x, hx, ih hr b⟩
theorem steps_split {t v : List Int} {ns ms : List Int} : Steps wds tb t (ns ++ ms) v → ∃ u, Steps wds tb t ns u ∧ Steps wds tb u ms v := by
  induction ns generalizing t with
  | nil => intro a; exact ⟨t, rfl, a⟩
  | cons n r ih =>
    rintro ⟨x, hx, hr⟩
    obtain ⟨u, a, b⟩ := ih hr
    exact ⟨u, ⟨x, hx, a⟩, b⟩
/-- a run that keeps all goes by steps -/
theorem go_steps (gr : GoodR many hues wds) (nd : ∀ wd ∈ wds, wd.1.Nodup) (tl : (tb.length : Int) = many) (go : GoodO wds.length ord) : ∀ {n : Nat} {tk : List Int} {log log' : Log} {fs : List Int}, GoodK tb tk → goR wds tb ord n tk log = some (true, fs, log') → ∃ (ents : Log) (u : List Int), log' = log ++ ents ∧ Steps wds tb tk (ents.map (·.1)) u ∧ broL (stand tb u) wds wds.length = []
  | 0, _, _, _, _, _, h => nomatch h
  | n + 1, tk, log, log', fs, gk, h => by
    unfold goR at h
    split at h
    · rename_i e
      cases h
      exact ⟨[], tk, by rw [List.append_nil], rfl, (first_none go).mp e⟩
    · rename_i k e
      split at h
      · rename_i c
        obtain ⟨ko, kb⟩ := first_some e
        obtain ⟨k0, k1⟩ := go.mem k ko
        have kl : k.toNat < wds.length := by omega
        have hw := List.getElem?_eq_getElem kl
        have kin : k ∈ broL (stand tb tk) wds wds.length := broL_inQ.mpr ⟨k.toNat, by omega, _, hw, by rw [← brkAt_of hw]; exact kb⟩
        have pe : plc wds k = (wds[k.toNat]).1 := by
          unfold plc
          rw [List.getD_eq_getElem?_getD, hw]
          rfl
        have gd := gr.each _ (List.getElem_mem kl)
        have be : bumpA tk (plc wds k) = bumpM tk (plc wds k) := by
          rw [pe]
          refine bumpA_bumpM (nd _ (List.getElem_mem kl)) fun p hp => ?_
          have a := gd.pl p hp
          have b := gk.len
          omega
        rw [be] at h
        have mm : (k, bumpM tk (plc wds k)) ∈ mendM wds tb tk := List.mem_map.mpr ⟨k, List.mem_filter.mpr ⟨kin, c⟩, rfl⟩
        obtain ⟨ents, u, e1, e2, e3⟩ := go_steps gr nd tl go (mend_good gk mm) h
        refine ⟨(k, huesA (stand tb tk) (plc wds k)) :: ents, u, ?_, ⟨_, mm, e2⟩, e3⟩
        rw [e1, List.append_assoc]
        rfl
      · cases h
theorem run_steps (gr : GoodR many hues wds) (nd : ∀ wd ∈ wds, wd.1.Nodup) (gt : GoodT many hues tb) (go : GoodO wds.length ord) {fs : List Int} {log : Log} (h : runOf wds tb ord = some (true, fs, log)) : ∃ u, Steps wds tb (zerosI tb.length) (log.map (·.1)) u ∧ broL (stand tb u) wds wds.length = [] := by
  obtain ⟨ents, u, e1, e2, e3⟩ := go_steps gr nd gt.len go (zeros_good gt) h
  rw [List.nil_append] at e1
  rw [e1]
  exact ⟨u, e2, e3⟩
/-- floors are no higher than any way -/
theorem floor_le {fl : List (List Int × Int)} (ok : FlOk wds tb fl) : ∀ {ns t u : List Int}, Steps wds tb t ns u → broL (stand tb u) wds wds.length = [] → valL fl t ≤ (ns.length : Int)
  | [], t, u, h, k => by
    have h : t = u := h
    subst h
    rcases valL_or fl t with e | m
    · rw [e]; exact Int.le_refl 0
    · exact ok.kept _ m k
  | n :: r, t, u, ⟨v, hv, hr⟩, k => by
    have ih := floor_le ok hr k
    rcases valL_or fl t with e | m
    · rw [e]; exact Int.natCast_nonneg _
    · have b : broL (stand tb t) wds wds.length ≠ [] := fun z => by
        have := (mend_mem hv).1
        rw [z] at this
        cases this
      have := ok.step _ m b _ hv
      rw [List.length_cons]
      have e2 : (n, v).2 = v := rfl
      rw [e2] at this
      dsimp only at this
      omega
/-- wishes apart: what is broken at once has no place in common -/
def ApW (wds : List WD) (fills : List (List Int)) : Prop := Apt wds fills none
theorem clB_no {a b : WD} (h : clB a b = false) : ∀ p ∈ a.1, p ∉ b.1 := fun p hp hb => by
  have : clB a b = true := List.any_eq_true.mpr ⟨p, hp, decide_eq_true hb⟩
  rw [h] at this
  cases this
theorem apart_no (gr : GoodR many hues wds) (gt : GoodT many hues tb) (ap : ApW wds (fillL hues.toNat many.toNat)) {t : List Int} (gk : GoodK tb t) {i j : Nat} {a b : WD} (hij : i ≠ j) (ha : wds[i]? = some a) (hb : wds[j]? = some b) (ba : Dt.brk (stand tb t) a = true) (bb : Dt.brk (stand tb t) b = true) : ∀ p ∈ a.1, p ∉ b.1 := by
  have gf := stand_good gt gk
  have m1 := gr.m1
  have h2 := gr.h2
  have inF : stand tb t ∈ fillL hues.toNat many.toNat := fill_allC _ _ (by have := gf.len; omega) (fun h hh => by have := gf.hue h hh; omega)
  have key : ∀ {i j : Nat} {a b : WD}, i < j → wds[i]? = some a → wds[j]? = some b → Dt.brk (stand tb t) a = true → Dt.brk (stand tb t) b = true → clB a b = false := fun {i j a b} lt ha hb ba bb => by
    cases c : clB a b with
    | false => rfl
    | true =>
      have z := ap i j lt (List.getElem?_eq_some_iff.mp hb).1
      rw [pairR_of ha hb, if_pos c] at z
      have := List.find?_eq_none.mp z _ inF
      rw [ba, bb] at this
      exact absurd rfl this
  rcases Nat.lt_or_gt_of_ne hij with lt | gt'
  · exact clB_no (key lt ha hb ba bb)
  · have := key gt' hb ha bb ba
    rw [clB_comm] at this
    exact clB_no this
theorem atF_nn {l : List Int} (p : Nat) : atF l (p : Int) = l.getD p 0 := by
  unfold atF
  rw [Int.toNat_natCast]
theorem stand_off {t : List Int} (gk : GoodK tb t) {ps qs : List Int} (gk2 : GoodK tb (bumpM t ps)) (dj : ∀ q ∈ qs, q ∉ ps) (hq : ∀ q ∈ qs, 0 ≤ q ∧ q.toNat < tb.length) : huesA (stand tb (bumpM t ps)) qs = huesA (stand tb t) qs := by
  unfold huesA
  refine List.map_congr_left fun q hm => ?_
  have a := hq q hm
  have e1 := stand_get gk a.2
  have e2 := stand_get gk2 a.2
  have eq : (q.toNat : Int) = q := by omega
  have tl := gk.len
  unfold atF
  rw [List.getD_eq_getElem?_getD, List.getD_eq_getElem?_getD, e1, e2, bumpM_get (by omega), if_neg (by rw [eq]; exact dj q hm)]
/-- the next of one stays a next of the other, and both ways meet -/
theorem apart_dia (gr : GoodR many hues wds) (gt : GoodT many hues tb) (ap : ApW wds (fillL hues.toNat many.toNat)) {t v w : List Int} {n m : Int} (gk : GoodK tb t) (hn : (n, v) ∈ mendM wds tb t) (hm : (m, w) ∈ mendM wds tb t) (ne : n ≠ m) : (m, bumpM v (plc wds m)) ∈ mendM wds tb v := by
  obtain ⟨b1, c1, e1⟩ := mend_mem hn
  obtain ⟨b2, c2, e2⟩ := mend_mem hm
  dsimp only at b1 c1 e1 b2 c2 e2
  obtain ⟨i, rfl, a, ha, ka⟩ := broL_inQ.mp b1
  obtain ⟨j, rfl, b, hb, kb⟩ := broL_inQ.mp b2
  have pa : plc wds (i : Int) = a.1 := by unfold plc; rw [Int.toNat_natCast, List.getD_eq_getElem?_getD, ha]; rfl
  have pb : plc wds (j : Int) = b.1 := by unfold plc; rw [Int.toNat_natCast, List.getD_eq_getElem?_getD, hb]; rfl
  have gv : GoodK tb v := mend_good gk hn
  have dj := apart_no gr gt ap gk (fun z => ne (by rw [z])) ha hb ka kb
  have dj : ∀ q ∈ b.1, q ∉ a.1 := fun q hq hz => dj q hz hq
  have gb := gr.each b (List.mem_of_getElem? hb)
  have tl := gt.len
  have kl := gk.len
  have hr : ∀ q ∈ b.1, 0 ≤ q ∧ q.toNat < tb.length := fun q hq => by have := gb.pl q hq; omega
  rw [pa] at e1
  refine List.mem_map.mpr ⟨(j : Int), List.mem_filter.mpr ⟨broL_inQ.mpr ⟨j, rfl, b, hb, ?_⟩, ?_⟩, rfl⟩
  · unfold Dt.brk at kb ⊢
    rw [e1] at gv ⊢
    rw [stand_off gk gv dj hr]
    exact kb
  · rw [pb] at c2 ⊢
    unfold canN at c2 ⊢
    rw [List.all_eq_true] at c2 ⊢
    intro q hq
    have z := c2 q hq
    have a := hr q hq
    have e : atF v q = atF t q := by
      unfold atF
      rw [e1, bumpM_get (by omega), if_neg (by rw [show ((q.toNat : Nat) : Int) = q by omega]; exact dj q hq)]
    rw [e]
    exact z
theorem bumpM_comm (t a b : List Int) : bumpM (bumpM t a) b = bumpM (bumpM t b) a := by
  refine ext_getDQ (by rw [bumpM_len, bumpM_len, bumpM_len, bumpM_len]) fun p hp => ?_
  rw [bumpM_len, bumpM_len] at hp
  rw [bumpM_get (by rw [bumpM_len]; exact hp), bumpM_get hp, bumpM_get (by rw [bumpM_len]; exact hp), bumpM_get hp]
  by_cases c : (p : Int) ∈ a <;> by_cases d : (p : Int) ∈ b <;> simp only [c, d, if_true, if_false]
theorem apart_less (gr : GoodR many hues wds) (gt : GoodT many hues tb) (ap : ApW wds (fillL hues.toNat many.toNat)) : ∀ {ns t u : List Int} {m : Int} {w : List Int}, GoodK tb t → Steps wds tb t ns u → broL (stand tb u) wds wds.length = [] → (m, w) ∈ mendM wds tb t → ∃ ns' u', Steps wds tb w ns' u' ∧ broL (stand tb u') wds wds.length = [] ∧ ns'.length + 1 = ns.length
  | [], t, u, m, w, gk, h, k, hm => by
    have h : t = u := h
    subst h
    have := (mend_mem hm).1
    rw [k] at this
    cases this
  | n :: r, t, u, m, w, gk, ⟨v, hv, hr⟩, k, hm => by
    by_cases e : n = m
    · subst e
      have e1 := (mend_mem hv).2.2
      have e2 := (mend_mem hm).2.2
      dsimp only at e1 e2
      rw [e1] at hr
      rw [e2]
      exact ⟨r, u, hr, k, rfl⟩
    · have d1 := apart_dia gr gt ap gk hv hm e
      have d2 := apart_dia gr gt ap gk hm hv (fun z => e z.symm)
      obtain ⟨ns', u', h1, h2, h3⟩ := apart_less gr gt ap (mend_good gk hv) hr k d1
      have e1 := (mend_mem hv).2.2
      have e2 := (mend_mem hm).2.2
      dsimp only at e1 e2
      refine ⟨n :: ns', u', ⟨_, d2, ?_⟩, h2, by rw [List.length_cons, List.length_cons, h3]⟩
      rw [e2, bumpM_comm, ← e1]
      exact h1
theorem apart_same (gr : GoodR many hues wds) (gt : GoodT many hues tb) (ap : ApW wds (fillL hues.toNat many.toNat)) : ∀ {ms ns t u v : List Int}, GoodK tb t → Steps wds tb t ns u → broL (stand tb u) wds wds.length = [] → Steps wds tb t ms v → broL (stand tb v) wds wds.length = [] → ns.length = ms.length
  | [], [], _, _, _, _, _, _, _, _ => rfl
  | [], n :: r, t, u, v, gk, ⟨x, hx, hr⟩, k1, h2, k2 => by
    have h2 : t = v := h2
    subst h2
    have := (mend_mem hx).1
    rw [k2] at this
    cases this
  | m :: q, ns, t, u, v, gk, h1, k1, ⟨x, hx, hr⟩, k2 => by
    obtain ⟨ns', u', a, b, c⟩ := apart_less gr gt ap gk h1 k1 hx
    have := apart_same gr gt ap (mend_good gk hx) a b hr k2
    rw [List.length_cons]
    omega
end
end Rd

set_option autoImplicit false
set_option Elab.async false
set_option linter.all false
set_option maxRecDepth 100000
set_option maxHeartbeats 4000000
namespace Rd
open PySem PySem.Spec PyProof.Rows L2 Dt
abbrev sTor : Stmt := topS 41
abbrev nTor : List Str := ["riddle", "table", "way", "taken", "number", "place", "draws", "count"]
theorem scTor : FnScope nTor ["riddle", "table", "way"] (defScope sTor) := ⟨rfl, rfl, rfl, by decide +kernel, rfl, by decide +kernel, by decide +kernel⟩
theorem get_ofN {l : List Int} {k : Int} (k0 : 0 ≤ k) (k1 : k < (l.length : Int)) : l[k.toNat]? = some (atF l k) := by
  unfold atF
  rw [List.getD_eq_getElem?_getD, List.getElem?_eq_getElem (by omega)]
  rfl
/-- the draws that stand, one after the other, from lists -/
theorem stand_lcL {K : PySem.W.Frag} {H1 : Hp} {tL kA C : Addr} {das : List Addr} {tb : List (List Int)} {tk : List Int} {g : TG} {te : TE} {vs : List Nat} {σ : L2.St} {Q : Hp → Prop} (ht : H1 tL = some (.lst (das.map V.ref))) (hk : H1 kA = some (.lst (tk.map V.int))) (pt : Paired (IsInts H1) das tb) (gk : GoodK tb tk) (nC : H1 C = none) (hl : tb.length ≤ 999)
    (hs : ∀ (T d : Addr) (ds : List Int) (k : Int) (H2 : Hp) (R : V → Hp → Prop), H2 T = some (.tup [.ref d, .int k]) → H2 d = some (.lst (ds.map V.int)) → 0 ≤ k → k < (ds.length : Int) → R (.int (atF ds k)) H2 → g (.ref T) (wipe σ vs) H2 fun σ2 H3 => wipe σ2 vs = wipe σ vs ∧ te σ2 H3 R)
    (q : ∀ H2, Same H1 H2 → H2 C = some (.lst ((stand tb tk).map V.int)) → Q H2) :
    ∃ W : Nat → Nat → Hp → Prop, (∃ m, W 0 m (upd H1 C (.lst []))) ∧ ∀ i m H, W i m H →
      ((ItzM true true K tL kA).stop i H ∧ Q H) ∨ ((ItzM true true K tL kA).go i H ∧ ∃ Nx : Hp → Prop, (∀ H', Nx H' → ∃ m', m' < m ∧ W (i + 1) m' H') ∧ ∀ x H', (ItzM true true K tL kA).yld i H x H' → g x (wipe σ vs) H' fun σ2 H2 => wipe σ2 vs = wipe σ vs ∧ tYes σ2 H2 fun b H3 =>
        if b = true then te σ2 H3 fun y H4 => ∃ acc, H4 C = some (.lst acc) ∧ acc.length < sizeLine ∧ Nx (upd H4 C (.lst (acc ++ [y]))) else Nx H3) := by
  have dl := pairedLen pt
  have kl := gk.len
  have tT : ∀ {Hx}, Same H1 Hx → sqB true K Hx tL (das.map V.ref) := fun s => .inl (.inl (s _ _ ht))
  have tK : ∀ {Hx}, Same H1 Hx → sqB true K Hx kA (tk.map V.int) := fun s => .inl (.inl (s _ _ hk))
  refine lc_walk (J := ItzM true true K tL kA) (n := tb.length) (fun i Hx => Same H1 Hx ∧ Hx C = some (.lst (((stand tb tk).take i).map V.int))) ⟨same_upd nC, upd_same⟩ (fun i Hx hi p => ⟨_, _, _, _, tT p.1, tK p.1, List.getElem?_eq_getElem (by rw [List.length_map]; omega), List.getElem?_eq_getElem (by rw [List.length_map]; omega)⟩) (fun Hx p => ⟨_, _, tT p.1, tK p.1, by rw [List.length_map]; omega, by rw [List.length_map]; omega, .inl (by rw [List.length_map]; omega)⟩) (fun i x Hx H' hi p y => ?_) (fun Hx p => ?_)
  · obtain ⟨s2, hC⟩ := p
    obtain ⟨T, x1, x2, rfl, nT, rfl, e1, e2⟩ := y
    obtain ⟨d, ed, rfl⟩ := map_get (e1 _ (tT s2))
    obtain ⟨k, ek, rfl⟩ := map_get (e2 _ (tK s2))
    obtain ⟨ds, eds, hd⟩ := pairedGetL pt ed
    have hd : H1 d = some (.lst (ds.map V.int)) := hd
    have s3 := same_upd (o := .tup [V.ref d, .int k]) nT
    have a := gk.at_ i hi
    have edd : tb.getD i [] = ds := by
      rw [List.getD_eq_getElem?_getD, eds]
      rfl
    have ekk : tk.getD i 0 = k := by
      rw [List.getD_eq_getElem?_getD, ek]
      rfl
    rw [edd, ekk] at a
    have z := hs T d ds k _ (fun y H4 => ∃ acc, H4 C = some (.lst acc) ∧ acc.length < sizeLine ∧ (Same H1 (upd H4 C (.lst (acc ++ [y]))) ∧ upd H4 C (.lst (acc ++ [y])) C = some (.lst (((stand tb tk).take (i + 1)).map V.int)))) upd_same (s3 _ _ (s2 _ _ hd)) a.1 a.2 ⟨_, s3 _ _ hC, ?_, same_put (s2.trans s3) nC, ?_⟩
    · exact z
    · rw [List.length_map, List.length_take]
      exact small1000 (by omega)
    · have e := stand_get gk hi
      rw [edd, ekk] at e
      rw [upd_same, take_snoc e, List.map_append]
      rfl
  · have sl := stand_len gk
    have z := p.2
    rw [← sl, List.take_length] at z
    exact q Hx p.1 z
def spTor (Ps : List Addr) : Sp := fun vs H Q _ => ∃ (ri ta wa : Addr) (wds : List WD) (many hues : Int) (tb : List (List Int)) (ns u : List Int), vs = [.ref ri, .ref ta, .ref wa] ∧ IsRid H ri many hues wds ∧ GoodR many hues wds ∧ (∀ wd ∈ wds, wd.1.Nodup) ∧ IsTab (fun _ => False) H ta tb ∧ GoodS many hues tb ∧ H wa = some (.lst (ns.map V.int)) ∧ Steps wds tb (zerosI tb.length) ns u ∧ broL (stand tb u) wds wds.length = [] ∧ Tabs Ps H ∧
  ∀ H', FrS Ps H H' → Q (.bl true) H'
structure TxtTor (P : Program) (w : World) (K : PySem.W.Frag) (mg : Str → Option Value) (base : Heap) (Ps : List Addr) : Prop where
  m_zip : mg "zip" = none
  m_len : mg "len" = none
  m_tuple : mg "tuple" = none
  c_broken : Cal P w K mg base 5 "broken" ["riddle", "filling"] (spBro Ps)
section
variable {P : Program} {w : World} {K : PySem.W.Frag} {mg : Str → Option Value} {base : Heap}
set_option maxHeartbeats 16000000 in
theorem ok_tor {f : Addr} {Ps : List Addr} {fd : FuncData} {k : Nat} (F : Fun K "_law_told_right" "_law_told_right" sTor f fd) (T : TxtTor P w K mg base Ps) : FnOk P w K mg base CX0 (k + 6) f fd ["riddle", "table", "way"] (spTor Ps) := by
  refine F.ok scTor (fun vs H Q E h => ?_) (fun cdv A outer s H vs Q E hr h => ?_)
  · obtain ⟨ri, ta, wa, wds, many, hues, tb, ns, u, rfl, _⟩ := h
    rfl
  · obtain ⟨ri, ta, wa, wds, many, hues, tb, ns, u, rfl, hrd, gr, nd, htb, gs, hw, st, ku, hT, q⟩ := h
    refine ⟨_, (pss_cons (ps_set (i := 3) scTor.nd rfl (Or.inl rfl) (pe_op op_rep (pe_lst (pa_cons pe_int pa_nil)) (pe_callB call_len_seq (by rfl) T.m_len (by decide +kernel) (pa_cons (pv 1) pa_nil))))
  (pss_cons (ps_for PassesOwn.never rfl (pi_list (pv 2)) (pg_name (i := 4) scTor.nd rfl (Or.inl rfl))
  (C8.pss_cut (ps_if (pt_cmpR (op_notInD (units65 hr)) (pv 4) (pe_cal T.c_broken (hr.mono (by omega)) (by rfl) (pa_cons (pv 0) (pa_cons (pe_callTy call_tuple_of (by rfl) T.m_tuple (by decide +kernel) (pa_cons (pe_lc (g := gTup K 2 (gCons (gName 6) (gCons (gName 7) gNil))) (te := tOp (rIxL K) (tVar 6) (tVar 7)) (own := [("draws", 6), ("count", 7)]) rfl scTor.nd  (pi_zipM (by rfl) T.m_zip (pa_cons (pv 1) (pa_cons (pv 3) pa_nil))) (blkOk_by (own := [("draws", 6), ("count", 7)]) (N := nTor) (sc := defScope sTor) (by decide +kernel))
   (fun _ _ _ _ _ => (pg_tup rfl (pgs_cons (pg_name (i := 6) scTor.nd rfl (Or.inl rfl)) (pgs_cons (pg_name (i := 7) scTor.nd rfl (Or.inl rfl)) pgs_nil)))) (fun _ _ _ _ _ => pts_nil) (fun _ _ _ _ _ => (pe_ix ix_list (pv 6) (pv 7) (fun _ _ => rfl)))) pa_nil)) pa_nil))) (by rfl))
  (pss_one (ps_ret pe_bl)) pss_nil)
  (pss_one (ps_for PassesOwn.never rfl (pi_tup (pe_ix ix_tup (pe_ix ix_tup (pe_ix ix_tup (pv 0) pe_int (fun _ _ => rfl)) (pv 4) (fun _ _ => rfl)) pe_int (fun _ _ => rfl))) (pg_name (i := 5) scTor.nd rfl (Or.inl rfl))
  (pss_one (ps_asg (pe_op op_add (pe_ix ix_list (pv 3) (pv 5) (fun _ _ => rfl)) pe_int) (pg_sub (pv 3) (pv 5) set_list)))))))
  (pss_one (ps_ret (pe_cmpR (op_eqD hr.units) (pe_cal T.c_broken (hr.mono (by omega)) (by rfl) (pa_cons (pv 0) (pa_cons (pe_callTy call_tuple_of (by rfl) T.m_tuple (by decide +kernel) (pa_cons (pe_lc (g := gTup K 2 (gCons (gName 6) (gCons (gName 7) gNil))) (te := tOp (rIxL K) (tVar 6) (tVar 7)) (own := [("draws", 6), ("count", 7)]) rfl scTor.nd  (pi_zipM (by rfl) T.m_zip (pa_cons (pv 1) (pa_cons (pv 3) pa_nil))) (blkOk_by (own := [("draws", 6), ("count", 7)]) (N := nTor) (sc := defScope sTor) (by decide +kernel))
   (fun _ _ _ _ _ => (pg_tup rfl (pgs_cons (pg_name (i := 6) scTor.nd rfl (Or.inl rfl)) (pgs_cons (pg_name (i := 7) scTor.nd rfl (Or.inl rfl)) pgs_nil)))) (fun _ _ _ _ _ => pts_nil) (fun _ _ _ _ _ => (pe_ix ix_list (pv 6) (pv 7) (fun _ _ => rfl)))) pa_nil)) pa_nil))) (pe_lst pa_nil) (nomark _)))))), ?_⟩
    obtain ⟨das, hta, _, _, pr⟩ := id htb
    obtain ⟨wt, was, r1, r2, r3⟩ := id hrd
    have dl := pairedLen pr
    have wl := pairedLen r3
    have tl := gs.len
    have m6 := gr.m6
    have m1 := gr.m1
    refine ⟨(by show 1 ≤ sizeLine; decide), fun l0 nl0 => ?_⟩
    have s0 := same_upd (o := .lst [V.int 0]) nl0
    refine ⟨.ref ta, rfl, ta, _, rfl, .inl (.inl (.inl (s0 _ _ hta))), l0, _, _, rfl, rfl, upd_same, by rw [List.length_map]; omega, by rw [List.length_map]; omega, ?_, fun ka nka => ?_⟩
    · rw [List.length_map]
      show 1 * _ ≤ sizeLine
      exact Nat.le_of_lt (small1000 (by omega))
    have ez : (List.replicate ((das.map V.ref).length : Int).toNat [V.int 0]).flatten = (zerosI tb.length).map V.int := by rw [rep0B, List.length_map, dl]; rfl
    rw [ez]
    have nka0 : H ka = none := s0.free nka
    have s1 := s0.trans (same_upd (o := .lst ((zerosI tb.length).map V.int)) nka)
    have hk1 : upd (upd H l0 (.lst [V.int 0])) ka (.lst ((zerosI tb.length).map V.int)) ka = some (.lst ((zerosI tb.length).map V.int)) := upd_same
    generalize upd (upd H l0 (.lst [V.int 0])) ka (.lst ((zerosI tb.length).map V.int)) = H1 at s1 hk1
    have f1 := FrS.of hT s1
    have nkP : ka ∉ Ps := hT.new nka0
    have gz : GoodK tb (zerosI tb.length) := zerosS_good gs
    clear ez s0 nl0
    have ntb : ∀ {Hx : Hp}, FrS Ps H Hx → Hx ta = some (.lst (das.map V.ref)) ∧ Paired (IsInts Hx) das tb ∧ Hx ri = some (.tup [.int many, .int hues, .ref wt]) ∧ Hx wt = some (.tup (was.map V.ref)) ∧ Paired (IsWish Hx) was wds ∧ IsRid Hx ri many hues wds := fun {Hx} f => by
      have sq := f.seqs hT
      exact ⟨sq.2 _ _ hta, pairedMap (fun _ _ (e : IsInts H _ _) => sq.2 _ _ e) pr, sq.1 _ _ r1, sq.1 _ _ r2, pairedMap (fun _ _ e => IsWish.mono sq.1 e) r3, hrd.mono sq.1⟩
    refine ⟨.ref wa, rfl, wa, rfl, ⟨_, .inl (.inl (s1 _ _ hw))⟩, ?_⟩
    refine for_list (K := K) (a := wa) (xs := ns.map V.int) (fun i σ Hc => FrS Ps H Hc ∧ ∃ (tk : List Int) (y4 y5 y6 y7 : Option V), σ = [some (.ref ri), some (.ref ta), some (.ref wa), some (.ref ka), y4, y5, y6, y7] ∧ Hc ka = some (.lst (tk.map V.int)) ∧ GoodK tb tk ∧ Steps wds tb tk (ns.drop i) u) ⟨f1, zerosI tb.length, none, none, none, none, rfl, hk1, gz, st⟩ (fun i σ Hc _ p => .inl (.inl ((p.1.seqs hT).2 _ _ hw))) (fun i x σ Hc hx p => ?_) (fun σ Hc p => ?_)
    · obtain ⟨fc, tk, y4, y5, y6, y7, rfl, hk, gk, stc⟩ := p
      obtain ⟨n, en, rfl⟩ := map_get hx
      have il := (List.getElem?_eq_some_iff.mp en).1
      have ed : ns.drop i = n :: ns.drop (i + 1) := by
        rw [List.drop_eq_getElem_cons il]
        congr 1
        exact Option.some.inj (by rw [← en, List.getElem?_eq_getElem il])
      rw [ed] at stc
      obtain ⟨v, hv, st2⟩ := stc
      obtain ⟨nb, cn, ev⟩ := mend_mem hv
      dsimp only at nb cn ev
      obtain ⟨nn, rfl, wd, hwd, kb⟩ := broL_inQ.mp nb
      have pe : plc wds ((nn : Nat) : Int) = wd.1 := by unfold plc; rw [Int.toNat_natCast, List.getD_eq_getElem?_getD, hwd]; rfl
      have nl := (List.getElem?_eq_some_iff.mp hwd).1
      have gw := gr.each wd (List.mem_of_getElem? hwd)
      obtain ⟨c1, c2, c3, c4, c5, c6⟩ := ntb fc
      have w8 := gr.eight
      refine ⟨fun σ Hd => FrS Ps H Hd ∧ Hd ka = some (.lst (tk.map V.int)) ∧ ∃ y6 y7, σ = [some (.ref ri), some (.ref ta), some (.ref wa), some (.ref ka), some (.int (nn : Int)), y5, y6, y7], ?_, ?_⟩
      · refine ⟨.int (nn : Int), rfl, .ref ri, rfl, ?_⟩
        refine ⟨.ref ta, rfl, .ref ka, rfl, true, true, ta, ka, _, _, rfl, .inl (.inl c1), .inl (.inl hk), fun C nC => ?_⟩
        refine stand_lcL c1 hk c2 gk nC (by omega) (fun T d ds k H2 R hT hd k0 k1 r => ⟨_, _, rfl, .inl (.inl hT), rfl, .ref d, [.int k], rfl, .int k, [], rfl, rfl, rfl, .ref d, rfl, .int k, rfl, d, _, k, _, rfl, rfl, .inl (.inl hd), atI_of k0 (get_ofN k0 k1), r⟩) fun H2 s2 hC => ?_
        refine ⟨C, _, rfl, .inl ⟨.inl (.inl hC), fun lt nlt => ?_⟩⟩
        have s3 := s2.trans (same_upd (o := .tup ((stand tb tk).map V.int)) nlt)
        refine ⟨ri, lt, stand tb tk, wds, many, hues, rfl, c6.mono (tups_same s3), upd_same, standS_good gs gk, gr, (fc.same s3).2, fun H4 t f4 nt ht => ?_⟩
        refine ⟨.int (nn : Int), _, .int _, .lst (.inl (.inl ht)) (dpInts _), (fine_int (by omega) (by omega)).shaped (by decide), PySem.W.shaped_ints _, ?_⟩
        have fx := (fc.same s3).trans f4
        have e : (((broL (stand tb tk) wds wds.length).map PyData.int).any fun z => PyData.eqv z (.int ((nn : Nat) : Int))) = true := by
          rw [Gv.any_ints (nn : Int) (broL (stand tb tk) wds wds.length)]
          exact decide_eq_true nb
        rw [e]
        exact ⟨false, rfl, iteF ⟨fx, f4.1 _ _ nkP (s3 _ _ hk), _, _, rfl⟩⟩
      · clear c1 c2 c3 c4 c5 c6 hk fc
        rintro σ Hd ⟨fd', hk, y6, y7, rfl⟩
        obtain ⟨c1, c2, c3, c4, c5, c6⟩ := ntb fd'
        obtain ⟨wa', ewa, pa, ra, rs, w1, w2, w3, w4⟩ := pairedGet c5 hwd
        have hpr : ∀ p ∈ wd.1, 0 ≤ p ∧ p < (tb.length : Int) := fun p hp => by
          have := gw.pl p hp
          omega
        refine ⟨.ref ri, rfl, ri, _, 2, .ref wt, rfl, rfl, .inl (.inl c3), atI_nat (j := 2) rfl, .int (nn : Int), rfl, wt, _, (nn : Int), .ref wa', rfl, rfl, .inl (.inl c4), atI_nat (map_at ewa), wa', _, 0, .ref pa, rfl, rfl, .inl (.inl w1), atI_nat (j := 0) rfl, pa, rfl, ⟨_, w2.sq⟩, ?_⟩
        have pak : pa ≠ ka := fun z => by obtain ⟨o, e, _⟩ := w2; rw [z, hk] at e; cases e
        refine for_tup (K := K) (a := pa) (xs := wd.1.map V.int) (fun j σ H8 => FrS Ps H H8 ∧ IsPl H8 pa wd.1 ∧ H8 ka = some (.lst ((bumpA tk (wd.1.take j)).map V.int)) ∧ ∃ y5, σ = [some (.ref ri), some (.ref ta), some (.ref wa), some (.ref ka), some (.int (nn : Int)), y5, y6, y7]) ⟨fd', w2, hk, _, rfl⟩ (fun j σ H8 _ p => p.2.1.sq) (fun j x σ H8 hx pp => ?_) (fun σ H8 pp => ?_)
        · obtain ⟨F8, ip8, hk8, y5', rfl⟩ := pp
          obtain ⟨p, ep, rfl⟩ := map_get hx
          have hpp := hpr p (List.mem_of_getElem? ep)
          have kl := gk.len
          have hpl : p < ((bumpA tk (wd.1.take j)).length : Int) := by rw [bumpA_len]; omega
          have hat := get_ofN hpp.1 hpl
          refine ⟨.ref ka, rfl, .int p, rfl, ka, _, p, _, rfl, rfl, .inl (.inl hk8), atI_of hpp.1 hat, _, 1, rfl, rfl, .ref ka, rfl, .int p, rfl, ka, _, p, p.toNat, rfl, rfl, hk8, ?_, ?_⟩
          · rw [List.length_map]
            exact ixN_of hpp.1 hpl
          · refine ⟨F8.put nka0 nkP, ?_, ?_, _, rfl⟩
            · obtain ⟨o, e, z⟩ := ip8
              exact ⟨o, by rw [upd_ne pak]; exact e, z⟩
            · rw [upd_same, take_snoc ep, bumpA_snoc, bump_eq hat, List.map_set]
        · obtain ⟨F8, ip8, hk8, y5', rfl⟩ := pp
          rw [List.length_map, List.take_length] at hk8
          have kl := gk.len
          rw [bumpA_bumpM (nd wd (List.mem_of_getElem? hwd)) (fun p hp => by have := hpr p hp; omega), ← pe, ← ev] at hk8
          exact ⟨F8, v, _, _, _, _, rfl, hk8, mend_good gk hv, st2⟩
    · obtain ⟨fc, tk, y4, y5, y6, y7, rfl, hk, gk, stc⟩ := p
      rw [List.length_map, List.drop_length] at stc
      have stc : tk = u := stc
      subst stc
      obtain ⟨c1, c2, c3, c4, c5, c6⟩ := ntb fc
      refine ⟨.ref ri, rfl, .ref ta, rfl, .ref ka, rfl, true, true, ta, ka, _, _, rfl, .inl (.inl c1), .inl (.inl hk), fun C nC => ?_⟩
      refine stand_lcL c1 hk c2 gk nC (by omega) (fun T d ds k H2 R hT hd k0 k1 r => ⟨_, _, rfl, .inl (.inl hT), rfl, .ref d, [.int k], rfl, .int k, [], rfl, rfl, rfl, .ref d, rfl, .int k, rfl, d, _, k, _, rfl, rfl, .inl (.inl hd), atI_of k0 (get_ofN k0 k1), r⟩) fun H2 s2 hC => ?_
      refine ⟨C, _, rfl, .inl ⟨.inl (.inl hC), fun lt nlt => ?_⟩⟩
      have s3 := s2.trans (same_upd (o := .tup ((stand tb tk).map V.int)) nlt)
      refine ⟨ri, lt, stand tb tk, wds, many, hues, rfl, c6.mono (tups_same s3), upd_same, standS_good gs gk, gr, (fc.same s3).2, fun H4 t f4 nt ht => ⟨(by show 0 ≤ sizeLine; decide), fun e ne => ?_⟩⟩
      have s5 := same_upd (o := .lst []) ne
      rw [ku] at ht
      refine ⟨.list [], .list [], .lst (.inl (.inl (s5 _ _ ht))) .nil, .lst (.inl (.inl upd_same)) .nil, PySem.W.shaped_ints [], PySem.W.shaped_ints [], ?_⟩
      exact q _ (((fc.same s3).trans f4).same s5)
end
end Rd

set_option autoImplicit false
set_option Elab.async false
set_option linter.all false
set_option maxRecDepth 100000
set_option maxHeartbeats 4000000
namespace Rd
open PySem PySem.Spec PyProof.Rows L2 Dt
abbrev sRur : Stmt := topS 42
abbrev nRur : List Str := ["riddle", "log", "way", "floors", "taken", "at", "number", "row", "place"]
theorem scRur : FnScope nRur ["riddle", "log", "way", "floors"] (defScope sRur) := ⟨rfl, rfl, rfl, by decide +kernel, rfl, by decide +kernel, by decide +kernel⟩
theorem fine_apart : Fine (.str "apart") 2 64 := by
  exact ⟨by decide +kernel, by decide +kernel, by decide +kernel, by decide +kernel, by decide +kernel, by decide +kernel⟩
theorem fine_both : Fine (.str "both") 2 64 := by
  exact ⟨by decide +kernel, by decide +kernel, by decide +kernel, by decide +kernel, by decide +kernel, by decide +kernel⟩
theorem fine_ap {many hues : Int} {wds : List WD} (gr : GoodR many hues wds) : ∀ {r : ApR}, Apt wds (fillL hues.toNat many.toNat) r → Fine (apD r) 3 600
  | none, _ => (Fine.tuple (.cons fine_apart (.nil _))).mono (by omega) (by omega)
  | some (i, j, f), ⟨h1, h2, h3, _⟩ => by
    have e8 := gr.eight
    have m6 := gr.m6
    have m1 := gr.m1
    have x2 := gr.h2
    have x4 := gr.h4
    have hf : f ∈ fillL hues.toNat many.toNat := by
      unfold pairR at h3
      split at h3
      · split at h3
        · exact List.mem_of_find?_eq_some h3
        · cases h3
      · cases h3
    have gf := fill_goodF (many := many) (hues := hues) (by omega) (by omega) hf
    have a : Fine (.int ((i : Nat) : Int)) 2 7 := (fine_int (by omega) (by omega)).mono (by omega) (by omega)
    have b : Fine (.int ((j : Nat) : Int)) 2 7 := (fine_int (by omega) (by omega)).mono (by omega) (by omega)
    have c : Fine (rowD f) 2 64 := fine_row (fun z hz => by have := gf.hue z hz; omega) (by have := gf.len; omega)
    exact (Fine.tuple (.cons fine_both (.cons a (.cons b (.cons c (.nil _)))))).mono (by omega) (by omega)
theorem fine_apN : Fine (apD none) 3 600 := (Fine.tuple (.cons fine_apart (.nil _))).mono (by omega) (by omega)
def spRur (Ps : List Addr) : Sp := fun vs H Q _ => ∃ (ri la wa fd : Addr) (wds : List WD) (many hues : Int) (tb : List (List Int)) (log : Log) (ns t u : List Int) (fl : List (List Int × Int)), vs = [.ref ri, .ref la, .ref wa, .ref fd] ∧ IsRid H ri many hues wds ∧ GoodR many hues wds ∧ (∀ wd ∈ wds, wd.1.Nodup) ∧ GoodT many hues tb ∧ IsLog H la log ∧ log.length ≤ 6000 ∧ Steps wds tb (zerosI tb.length) (log.map (·.1)) u ∧ broL (stand tb u) wds wds.length = [] ∧
  H wa = some (.lst (ns.map V.int)) ∧ Steps wds tb (zerosI tb.length) ns t ∧ broL (stand tb t) wds wds.length = [] ∧ (∀ ns' t', Steps wds tb (zerosI tb.length) ns' t' → broL (stand tb t') wds wds.length = [] → ns.length ≤ ns'.length) ∧ Rd H fd (.dT (kvF fl)) ∧ FlOk wds tb fl ∧ Tabs Ps H ∧
  ∀ H', FrS Ps H H' → Q (.bl true) H'
structure TxtRur (P : Program) (w : World) (K : PySem.W.Frag) (mg : Str → Option Value) (base : Heap) (Ps : List Addr) : Prop where
  m_enumerate : mg "enumerate" = none
  m_len : mg "len" = none
  m_tuple : mg "tuple" = none
  c_apart : Cal P w K mg base 6 "apart" ["riddle"] (spApr Ps)
section
variable {P : Program} {w : World} {K : PySem.W.Frag} {mg : Str → Option Value} {base : Heap}
set_option maxHeartbeats 16000000 in
theorem ok_rur {f : Addr} {Ps : List Addr} {fd : FuncData} {k : Nat} (F : Fun K "_law_run_right" "_law_run_right" sRur f fd) (T : TxtRur P w K mg base Ps) : FnOk P w K mg base CX0 (k + 7) f fd ["riddle", "log", "way", "floors"] (spRur Ps) := by
  refine F.ok scRur (fun vs H Q E h => ?_) (fun cdv A outer s H vs Q E hr h => ?_)
  · obtain ⟨ri, la, wa, fd', wds, many, hues, tb, log, ns, t, u, fl, rfl, _⟩ := h
    rfl
  · obtain ⟨ri, la, wa, fd', wds, many, hues, tb, log, ns, t, u, fl, rfl, hrd, gr, nd, gt, hlog, l6, st, ku, hw, st2, kt, mi, hfd, ok, hT, q⟩ := h
    refine ⟨_, (pss_cons (ps_set (i := 4) scRur.nd rfl (Or.inl rfl) (pe_op op_rep (pe_lst (pa_cons pe_int pa_nil)) (pe_ix ix_tup (pv 0) pe_int (fun _ _ => rfl))))
  (pss_cons (ps_for PassesOwn.never rfl (pi_enum (by rfl) T.m_enumerate (pa_cons (pv 1) pa_nil)) (pg_tup rfl (pgs_cons (pg_name (i := 5) scRur.nd rfl (Or.inl rfl)) (pgs_cons (pg_tup rfl (pgs_cons (pg_name (i := 6) scRur.nd rfl (Or.inl rfl)) (pgs_cons (pg_name (i := 7) scRur.nd rfl (Or.inl rfl)) pgs_nil))) pgs_nil)))
  (C8.pss_cut (ps_if (pt_cmpR op_gt (pe_dget2 (hu_of hr) (pv 3) (pe_callTy call_tuple_of (by rfl) T.m_tuple (by decide +kernel) (pa_cons (pv 4) pa_nil)) pe_int ⟨by rfl, by rfl, by rfl, by rfl⟩) (pe_op op_sub (pe_callB call_len_seq (by rfl) T.m_len (by decide +kernel) (pa_cons (pv 1) pa_nil)) (pv 5)) (nomark _))
  (pss_one (ps_ret pe_bl)) pss_nil)
  (pss_one (ps_for PassesOwn.never rfl (pi_tup (pe_ix ix_tup (pe_ix ix_tup (pe_ix ix_tup (pv 0) pe_int (fun _ _ => rfl)) (pv 6) (fun _ _ => rfl)) pe_int (fun _ _ => rfl))) (pg_name (i := 8) scRur.nd rfl (Or.inl rfl))
  (pss_one (ps_asg (pe_op op_add (pe_ix ix_list (pv 4) (pv 8) (fun _ _ => rfl)) pe_int) (pg_sub (pv 4) (pv 8) set_list)))))))
  (pss_one (ps_ret (pe_and (pe_cmpR op_le (pe_callB call_len_seq (by rfl) T.m_len (by decide +kernel) (pa_cons (pv 2) pa_nil)) (pe_callB call_len_seq (by rfl) T.m_len (by decide +kernel) (pa_cons (pv 1) pa_nil)) (nomark _)) (pe_one (pe_or (pe_cmpR (op_neD hr.units) (pe_cal T.c_apart (hr.mono (by omega)) (by rfl) (pa_cons (pv 0) pa_nil)) (pe_tup (pa_cons pe_str pa_nil)) (nomark _)) (pe_one (pe_cmpR op_eq (pe_callB call_len_seq (by rfl) T.m_len (by decide +kernel) (pa_cons (pv 2) pa_nil)) (pe_callB call_len_seq (by rfl) T.m_len (by decide +kernel) (pa_cons (pv 1) pa_nil)) (nomark _)))))))))), ?_⟩
    obtain ⟨wt, was, r1, r2, r3⟩ := id hrd
    obtain ⟨es, hla, pe⟩ := id hlog
    have el := pairedLen pe
    have tl := gt.len
    have m6 := gr.m6
    have m1 := gr.m1
    have w8 := gr.eight
    refine ⟨(by show 1 ≤ sizeLine; decide), fun l0 nl0 => ?_⟩
    have s0 := same_upd (o := .lst [V.int 0]) nl0
    refine ⟨.ref ri, rfl, ri, _, 0, .int many, rfl, rfl, .inl (.inl (s0 _ _ r1)), atI_nat (j := 0) rfl, l0, _, _, rfl, rfl, upd_same, by omega, by omega, ?_, fun ka nka => ?_⟩
    · show 1 * _ ≤ sizeLine
      exact Nat.le_of_lt (small1000 (by omega))
    have ez : (List.replicate many.toNat [V.int 0]).flatten = (zerosI tb.length).map V.int := by rw [rep0B, show many.toNat = tb.length by omega]
    rw [ez]
    have nka0 : H ka = none := s0.free nka
    have s1 := s0.trans (same_upd (o := .lst ((zerosI tb.length).map V.int)) nka)
    have hk1 : upd (upd H l0 (.lst [V.int 0])) ka (.lst ((zerosI tb.length).map V.int)) ka = some (.lst ((zerosI tb.length).map V.int)) := upd_same
    generalize upd (upd H l0 (.lst [V.int 0])) ka (.lst ((zerosI tb.length).map V.int)) = H1 at s1 hk1
    have gz : GoodK tb (zerosI tb.length) := zeros_good gt
    clear ez s0 nl0
    refine ⟨.ref la, rfl, la, _, rfl, .inl (.inl (s1 _ _ hla)), ?_⟩
    refine for_enumL (K := K) (a := la) (xs := es.map V.ref) (fun i σ Hc => Same H Hc ∧ ∃ (tk : List Int) (y5 y6 y7 y8 : Option V), σ = [some (.ref ri), some (.ref la), some (.ref wa), some (.ref fd'), some (.ref ka), y5, y6, y7, y8] ∧ Hc ka = some (.lst (tk.map V.int)) ∧ GoodK tb tk ∧ Steps wds tb tk ((log.map (fun x : Int × List Int => x.1)).drop i) u) ⟨s1, zerosI tb.length, none, none, none, none, rfl, hk1, gz, st⟩ (fun i σ Hc _ p => .inl (.inl (p.1 _ _ hla))) (fun i x σ Hc Te hx p nTe => ?_) (fun σ Hc p => ?_)
    · obtain ⟨sc, tk, y5, y6, y7, y8, rfl, hk, gk, stc⟩ := p
      obtain ⟨e, ee, rfl⟩ := map_get hx
      obtain ⟨en, een, ra, hee, hra⟩ := pairedGetL pe ee
      have il := (List.getElem?_eq_some_iff.mp een).1
      have ed : (log.map (fun x : Int × List Int => x.1)).drop i = en.1 :: (log.map (fun x : Int × List Int => x.1)).drop (i + 1) := by
        rw [List.drop_eq_getElem_cons (by rw [List.length_map]; exact il)]
        congr 1
        rw [List.getElem_map]
        exact congrArg Prod.fst (Option.some.inj (by rw [← een, List.getElem?_eq_getElem il]))
      have fle := floor_le ok stc ku
      rw [List.length_drop, List.length_map] at fle
      rw [ed] at stc
      obtain ⟨v, hv, st3⟩ := stc
      obtain ⟨nb, cn, ev⟩ := mend_mem hv
      dsimp only at nb cn ev
      obtain ⟨nn, e1, wd, hwd, kb⟩ := broL_inQ.mp nb
      have pl : plc wds en.1 = wd.1 := by unfold plc; rw [e1, Int.toNat_natCast, List.getD_eq_getElem?_getD, hwd]; rfl
      have nl := (List.getElem?_eq_some_iff.mp hwd).1
      have gw := gr.each wd (List.mem_of_getElem? hwd)
      have sT := same_upd (o := .tup [.int ((i : Nat) : Int), .ref e]) nTe
      have sc2 := sc.trans sT
      refine ⟨_, _, rfl, .inl (.inl upd_same), rfl, .int ((i : Nat) : Int), [.ref e], rfl, .ref e, [], rfl, _, _, rfl, .inl (.inl (sc2 _ _ hee)), rfl, .int en.1, [.ref ra], rfl, .ref ra, [], rfl, rfl, rfl, ?_⟩
      have hk := sT _ _ hk
      generalize upd Hc Te (.tup [.int ((i : Nat) : Int), .ref e]) = Hd at sc2 hk
      clear sT sc
      refine ⟨fun σ Hx => Same Hd Hx ∧ σ = [some (.ref ri), some (.ref la), some (.ref wa), some (.ref fd'), some (.ref ka), some (.int ((i : Nat) : Int)), some (.int en.1), some (.ref ra), y8], ?_, ?_⟩
      · have rd : ∀ {Hx : Hp}, Same H Hx → Rd Hx fd' (.dT (kvF fl)) := fun s => hfd.elim (fun e => .inl (s _ _ e)) (fun ⟨o, e⟩ => .inr ⟨o, s _ _ e⟩)
        refine ⟨.ref fd', rfl, fd', rfl, .inr ⟨_, rd sc2⟩, .ref ka, rfl, ka, _, rfl, .inl ⟨.inl (.inl hk), fun lt nlt => ?_⟩⟩
        have s3 := same_upd (o := .tup (tk.map V.int)) nlt
        refine ⟨_, .inr ⟨kvF fl, keyB tk, lt, rd (sc2.trans s3), rfl, by rw [keyB_kV]; exact upd_same, rfl⟩, ?_⟩
        rw [kvF_get]
        refine ⟨.ref la, rfl, la, _, rfl, .inl (.inl (.inl (s3 _ _ (sc2 _ _ hla)))), .int ((i : Nat) : Int), rfl, _, _, rfl, rfl, _, _, rfl, rfl, _, rfl, ite2 (fun c => ?_) (fun c => ⟨s3, rfl⟩)⟩
        have c := of_decide_eq_true c
        rw [List.length_map] at c
        omega
      rintro σ Hx ⟨sx, rfl⟩
      have sc3 := sc2.trans sx
      have hk := sx _ _ hk
      clear sx sc2
      obtain ⟨wa', ewa, pa, raa, rs, w1, w2, w3, w4⟩ := pairedGet r3 hwd
      have w2 := w2.mono (tups_same sc3)
      have hpr : ∀ p ∈ wd.1, 0 ≤ p ∧ p < (tb.length : Int) := fun p hp => by
        have := gw.pl p hp
        omega
      refine ⟨.ref ri, rfl, ri, _, 2, .ref wt, rfl, rfl, .inl (.inl (sc3 _ _ r1)), atI_nat (j := 2) rfl, .int en.1, rfl, wt, _, en.1, .ref wa', rfl, rfl, .inl (.inl (sc3 _ _ r2)), ?_, wa', _, 0, .ref pa, rfl, rfl, .inl (.inl (sc3 _ _ w1)), atI_nat (j := 0) rfl, pa, rfl, ⟨_, w2.sq⟩, ?_⟩
      · rw [e1]
        exact atI_nat (map_at ewa)
      have pak : pa ≠ ka := fun z => by obtain ⟨o, e, _⟩ := w2; rw [z, hk] at e; cases e
      refine for_tup (K := K) (a := pa) (xs := wd.1.map V.int) (fun j σ H8 => Same H H8 ∧ IsPl H8 pa wd.1 ∧ H8 ka = some (.lst ((bumpA tk (wd.1.take j)).map V.int)) ∧ ∃ y8, σ = [some (.ref ri), some (.ref la), some (.ref wa), some (.ref fd'), some (.ref ka), some (.int ((i : Nat) : Int)), some (.int en.1), some (.ref ra), y8]) ⟨sc3, w2, hk, _, rfl⟩ (fun j σ H8 _ p => p.2.1.sq) (fun j x σ H8 hx pp => ?_) (fun σ H8 pp => ?_)
      · obtain ⟨F8, ip8, hk8, y5', rfl⟩ := pp
        obtain ⟨p, ep, rfl⟩ := map_get hx
        have hpp := hpr p (List.mem_of_getElem? ep)
        have kl := gk.len
        have hpl : p < ((bumpA tk (wd.1.take j)).length : Int) := by rw [bumpA_len]; omega
        have hat := get_ofN hpp.1 hpl
        refine ⟨.ref ka, rfl, .int p, rfl, ka, _, p, _, rfl, rfl, .inl (.inl hk8), atI_of hpp.1 hat, _, 1, rfl, rfl, .ref ka, rfl, .int p, rfl, ka, _, p, p.toNat, rfl, rfl, hk8, ?_, ?_⟩
        · rw [List.length_map]
          exact ixN_of hpp.1 hpl
        · refine ⟨same_put F8 nka0, ?_, ?_, _, rfl⟩
          · obtain ⟨o, e, z⟩ := ip8
            exact ⟨o, by rw [upd_ne pak]; exact e, z⟩
          · rw [upd_same, take_snoc ep, bumpA_snoc, bump_eq hat, List.map_set]
      · obtain ⟨F8, ip8, hk8, y5', rfl⟩ := pp
        rw [List.length_map, List.take_length] at hk8
        have kl := gk.len
        rw [bumpA_bumpM (nd wd (List.mem_of_getElem? hwd)) (fun p hp => by have := hpr p hp; omega), ← pl, ← ev] at hk8
        exact ⟨F8, v, _, _, _, _, rfl, hk8, mend_good gk hv, st3⟩
    · obtain ⟨sc, tk, y5, y6, y7, y8, rfl, _⟩ := p
      have le := mi _ _ st ku
      rw [List.length_map] at le
      refine ⟨.ref wa, rfl, wa, _, rfl, .inl (.inl (.inl (sc _ _ hw))), .ref la, rfl, la, _, rfl, .inl (.inl (.inl (sc _ _ hla))), _, _, rfl, rfl, true, ?_, iteT ?_⟩
      · rw [List.length_map, List.length_map]
        exact congrArg V.bl (decide_eq_true (by omega))
      refine ⟨.ref ri, rfl, ri, wds, many, hues, rfl, hrd.mono (tups_same sc), gr, hT.same sc, fun H4 ta r f4 hap ia => ⟨(by show 1 ≤ sizeLine; decide), fun tp np => ?_⟩⟩
      have s5 := same_upd (o := .tup [V.str "apart"]) np
      have f1 := fine_ap gr hap
      have f2 := fine_apN
      have F5 := ((FrS.of hT sc).trans f4).same s5
      refine ⟨apD r, apD none, dpAp (ia.mono (tups_same s5)), dpAp (r := none) upd_same, f1.shaped (by decide), f2.shaped (by decide), ?_⟩
      have s05 := F5.seqs hT
      cases r with
      | some x =>
        obtain ⟨i, j, f⟩ := x
        refine ⟨true, ?_, iteT (q _ F5)⟩
        have z : PyData.eqv (apD (some (i, j, f))) (apD none) = false := by
          simp [apD, PyData.eqv, PyData.eqvAll]
        rw [z]
        rfl
      | none =>
        refine ⟨false, by rw [fine_eqv f2]; rfl, iteF ?_⟩
        have e := apart_same gr gt hap gz st2 kt st ku
        rw [List.length_map] at e
        refine ⟨.ref wa, rfl, wa, _, rfl, .inl (.inl (.inl (s05.2 _ _ hw))), .ref la, rfl, la, _, rfl, .inl (.inl (.inl (s05.2 _ _ hla))), rfl, ?_⟩
        rw [List.length_map, List.length_map, el, e, decide_eq_true rfl]
        exact q _ F5
end
end Rd

set_option autoImplicit false
set_option Elab.async false
set_option linter.all false
set_option maxRecDepth 100000
set_option maxHeartbeats 4000000
namespace Rd
open PySem PySem.Spec PyProof.Rows L2 Dt
abbrev sLaw : Stmt := topS 43
abbrev nLaw : List Str := ["script", "start", "tape", "riddle", "table", "way", "floors", "turn", "end", "filling", "log"]
theorem scLaw : FnScope nLaw ["script"] (defScope sLaw) := ⟨rfl, rfl, rfl, by decide +kernel, rfl, by decide +kernel, by decide +kernel⟩
theorem prodL_pow {m : Nat} : ∀ {l : List Nat}, (∀ n ∈ l, n ≤ m) → prodL l ≤ m ^ l.length
  | [], _ => Nat.le_refl 1
  | n :: r, h => by
    show n * prodL r ≤ m ^ (r.length + 1)
    rw [Nat.pow_succ, Nat.mul_comm]
    exact Nat.mul_le_mul (prodL_pow fun x hx => h x (List.mem_cons_of_mem _ hx)) (h n List.mem_cons_self)
theorem small_tb {many most : Int} {tb : List (List Int)} (l : (tb.length : Int) = many) (h : ∀ ds ∈ tb, (ds.length : Int) ≤ most) (p : most.toNat ^ many.toNat ≤ 5000) : prodL (tb.map List.length) ≤ 5000 := by
  refine Nat.le_trans (prodL_pow (m := most.toNat) fun n hn => ?_) (by rw [List.length_map]; rw [← l, Int.toNat_natCast] at p; exact p)
  obtain ⟨ds, hds, rfl⟩ := List.mem_map.mp hn
  have := h ds hds
  omega
def NvP (wds : List WD) (tb : List (List Int)) : Prop := ∀ ns t, Steps wds tb (zerosI tb.length) ns t → broL (stand tb t) wds wds.length ≠ []
def MiP (wds : List WD) (tb : List (List Int)) (ns : List Int) : Prop := (∃ t, Steps wds tb (zerosI tb.length) ns t ∧ broL (stand tb t) wds wds.length = []) ∧ ∀ ns' t', Steps wds tb (zerosI tb.length) ns' t' → broL (stand tb t') wds wds.length = [] → ns.length ≤ ns'.length
/-- the way told, or none -/
def WayP (tp : Addr) (wds : List WD) (tb : List (List Int)) (H : Hp) (v : V) : Prop := (v = .non ∧ NvP wds tb) ∨ ∃ l ns, v = .ref l ∧ H l = some (.lst (ns.map V.int)) ∧ l ≠ tp ∧ MiP wds tb ns
/-- and the floors -/
def WayF (tp : Addr) (wds : List WD) (tb : List (List Int)) (H : Hp) (v : V) (f : V) : Prop := (v = .non ∧ NvP wds tb) ∨ ∃ l ns fd fl, v = .ref l ∧ f = .ref fd ∧ H l = some (.lst (ns.map V.int)) ∧ l ≠ tp ∧ MiP wds tb ns ∧ Rd H fd (.dT (kvF fl)) ∧ FlOk wds tb fl
theorem WayF.frt {tp : Addr} {Ps : List Addr} {wds : List WD} {tb : List (List Int)} {H H' : Hp} {v f : V} (t : Tape H tp) (tt : Tabs Ps H) (fr : FrT tp Ps H H') (h : WayF tp wds tb H v f) : WayF tp wds tb H' v f := by
  rcases h with h | ⟨l, ns, fd, fl, e1, e2, hl, nl, mi, rd, ok⟩
  · exact .inl h
  · refine .inr ⟨l, ns, fd, fl, e1, e2, fr.lst tt nl hl, nl, mi, ?_, ok⟩
    have key : ∀ o, H fd = some o → (∀ xs, o ≠ .lst xs) → (∀ ps, o ≠ .tbl ps) → H' fd = some o := fun o e n1 n2 => fr.keep fd o (fun z => by
      obtain ⟨b, c, h1, _⟩ := t
      rw [z, h1] at e
      exact n1 _ (Option.some.inj e).symm) (fun z => by
      obtain ⟨ps, q, _⟩ := tt fd z
      rw [e] at q
      exact n2 ps (Option.some.inj q)) e
    rcases rd with e | ⟨o, e⟩
    · exact .inl (key _ e (fun _ z => nomatch z) (fun _ z => nomatch z))
    · exact .inr ⟨o, key _ e (fun _ z => nomatch z) (fun _ z => nomatch z)⟩
theorem FrD.keepD {Ps : List Addr} {fd : Addr} {fl : List (List Int × Int)} {H H' : Hp} (t : Tabs Ps H) (hd : H fd = some (.dT (kvF fl))) (f : FrD Ps fd fl H H') {b : Addr} {o : HO} (e : H b = some o) (n1 : ∀ kvs, o ≠ .dT kvs) (n2 : ∀ ps, o ≠ .tbl ps) : H' b = some o := f.1 b o (fun z => by
    obtain ⟨ps, q, _⟩ := t b z
    rw [e] at q
    exact n2 ps (Option.some.inj q)) (fun z => by
    rw [z, hd] at e
    exact n1 _ (Option.some.inj e).symm) e
theorem FrD.seqs {Ps : List Addr} {fd : Addr} {fl : List (List Int × Int)} {H H' : Hp} (t : Tabs Ps H) (hd : H fd = some (.dT (kvF fl))) (f : FrD Ps fd fl H H') : Seqs H H' := ⟨⟨fun b xs e => f.keepD t hd e (fun _ z => nomatch z) (fun _ z => nomatch z), fun b o xs e => f.keepD t hd e (fun _ z => nomatch z) (fun _ z => nomatch z)⟩, fun b xs e => f.keepD t hd e (fun _ z => nomatch z) (fun _ z => nomatch z)⟩
theorem LI.frd {K : PySem.W.Frag} {a : Addr} {xs : List V} {Ps : List Addr} {tp fd : Addr} {fl : List (List Int × Int)} {H H' : Hp} (h : LI K a xs Ps tp H) (hd : H fd = some (.dT (kvF fl))) (f : FrD Ps fd fl H H') : LI K a xs Ps tp H' := by
  refine ⟨h.tape.seqs (f.seqs h.tabs hd), f.2.1, ?_, h.far⟩
  rcases h.scr with (z | ⟨o, z⟩) | z
  · exact .inl (.inl (f.keepD h.tabs hd z (fun _ z => nomatch z) (fun _ z => nomatch z)))
  · exact .inl (.inr ⟨o, f.keepD h.tabs hd z (fun _ z => nomatch z) (fun _ z => nomatch z)⟩)
  · exact .inr z
structure TxtL (P : Program) (w : World) (K : PySem.W.Frag) (mg : Str → Option Value) (base : Heap) (Ps : List Addr) (D : Addr) : Prop where
  m_len : mg "len" = none
  m_range : mg "range" = none
  m_max : mg "max" = none
  m_min : mg "min" = none
  c__law_tape : Cal P w K mg base 1 "_law_tape" ["script", "start"] (spTap K)
  c__law_digit : Cal P w K mg base 1 "_law_digit" ["tape", "many"] spDig
  c__law_riddle : Cal P w K mg base 3 "_law_riddle" ["tape", "small"] spRid
  c__law_apart_riddle : Cal P w K mg base 3 "_law_apart_riddle" ["tape", "small"] spRid
  c__law_table : Cal P w K mg base 2 "_law_table" ["tape", "riddle", "most"] spTab
  c__law_order : Cal P w K mg base 2 "_law_order" ["tape", "many"] spOrd
  c__law_told_right : Cal P w K mg base 6 "_law_told_right" ["riddle", "table", "way"] (spTor Ps)
  c__law_run_right : Cal P w K mg base 7 "_law_run_right" ["riddle", "log", "way", "floors"] (spRur Ps)
  c_fewest : Cal P w K mg base 8 "fewest" ["riddle", "table"] (spFew Ps)
  c_floors_of : CalX P w K mg base 8 "floors_of" ["riddle", "table"] (spFof Ps D)
  c_are_floors : Cal P w K mg base 10 "are_floors" ["riddle", "table", "floors"] (spArf Ps)
  c_run : Cal P w K mg base 6 "run" ["riddle", "table", "order"] (spRun Ps)
section
variable {P : Program} {w : World} {K : PySem.W.Frag} {mg : Str → Option Value} {base : Heap} {D : Addr}
set_option maxHeartbeats 32000000 in
theorem body_law {fa a : Addr} {Ps : List Addr} {s : Shared} {H : Hp} {cdv : Value} {ns : List Int} (T : TxtL P w K mg base Ps D) (hl : ns.length ≤ 63) (hT : Tabs Ps H) (hS : SqL K H a (ns.map V.int))
    (hr : Room 10 (callerA.deeper (envOfC (Str.ofString "law") (defScope sLaw) s.heap.objs.size fa cdv))) :
    ∃ t, PSs (cxOf CX0 P w K mg base nLaw (Str.ofString "law") (defScope sLaw) fa cdv callerA [] s H (fun _ _ _ => False)).nox (defBody sLaw) t ∧ t { nx := fun _ _ => False, rt := fun v _ => v = .bl true } (start nLaw [.ref a]) H := by
  refine ⟨_, (pss_cons (ps_for PassesOwn.never rfl (pi_range1 (by rfl) T.m_range (pa_cons (pe_callB (call_max2 rfl) (by rfl) T.m_max (by decide +kernel) (pa_cons pe_int (pa_cons (pe_callB (call_min2 rfl) (by rfl) T.m_min (by decide +kernel) (pa_cons pe_int (pa_cons (pe_callB call_len_seq (by rfl) T.m_len (by decide +kernel) (pa_cons (pv 0) pa_nil)) pa_nil))) pa_nil))) pa_nil)) (pg_name (i := 1) scLaw.nd rfl (Or.inl rfl))
  (pss_cons (ps_set (i := 2) scLaw.nd rfl (Or.inl rfl) (pe_cal T.c__law_tape (hr.mono (by omega)) (by rfl) (pa_cons (pv 0) (pa_cons (pv 1) pa_nil))))
  (C8.pss_cut (ps_set (i := 3) scLaw.nd rfl (Or.inl rfl) (pe_ix ix_list (pe_lst (pa_cons (pe_cal T.c__law_riddle (hr.mono (by omega)) (by rfl) (pa_cons (pv 2) (pa_cons pe_bl pa_nil))) (pa_cons (pe_cal T.c__law_apart_riddle (hr.mono (by omega)) (by rfl) (pa_cons (pv 2) (pa_cons pe_bl pa_nil))) (pa_cons (pe_cal T.c__law_riddle (hr.mono (by omega)) (by rfl) (pa_cons (pv 2) (pa_cons pe_bl pa_nil))) pa_nil)))) (pe_cal T.c__law_digit (hr.mono (by omega)) (by rfl) (pa_cons (pv 2) (pa_cons pe_int pa_nil))) (fun _ _ => rfl)))
  (C8.pss_cut (ps_set (i := 4) scLaw.nd rfl (Or.inl rfl) (pe_cal T.c__law_table (hr.mono (by omega)) (by rfl) (pa_cons (pv 2) (pa_cons (pv 3) (pa_cons (pe_ix ix_list (pe_lst (pa_cons pe_int (pa_cons pe_int (pa_cons pe_int (pa_cons pe_int (pa_cons pe_int (pa_cons pe_int (pa_cons pe_int pa_nil)))))))) (pe_ix ix_tup (pv 3) pe_int (fun _ _ => rfl)) (fun _ _ => rfl)) pa_nil)))))
  (C8.pss_cut (ps_set (i := 5) scLaw.nd rfl (Or.inl rfl) (pe_cal T.c_fewest (hr.mono (by omega)) (by rfl) (pa_cons (pv 3) (pa_cons (pv 4) pa_nil))))
  (pss_cons (ps_set (i := 6) scLaw.nd rfl (Or.inl rfl) pe_dnewK)
  (C8.pss_cut (ps_if (pt_cmpR op_notN (pv 5) pe_non (nomark _))
  (pss_cons (ps_set (i := 6) scLaw.nd rfl (Or.inl rfl) (pe_calX T.c_floors_of (hr.mono (by omega)) takes0 (by rfl) (pa_cons (pv 3) (pa_cons (pv 4) pa_nil))))
  (pss_one (ps_if (PW.pt (pw_or (pt_not (pt_val (pe_cal T.c__law_told_right (hr.mono (by omega)) (by rfl) (pa_cons (pv 3) (pa_cons (pv 4) (pa_cons (pv 5) pa_nil)))))) (pw_or1 (pt_not (pt_val (pe_cal T.c_are_floors (hr.mono (by omega)) (by rfl) (pa_cons (pv 3) (pa_cons (pv 4) (pa_cons (pv 6) pa_nil)))))))))
  (pss_one (ps_ret pe_bl)) pss_nil))) pss_nil)
  (pss_one (ps_for PassesOwn.never rfl (pi_range1 (by rfl) T.m_range (pa_cons pe_int pa_nil)) (pg_name (i := 7) scLaw.nd rfl (Or.inl rfl))
  (pss_cons (ps_asg (pe_cal T.c_run (hr.mono (by omega)) (by rfl) (pa_cons (pv 3) (pa_cons (pv 4) (pa_cons (pe_cal T.c__law_order (hr.mono (by omega)) (by rfl) (pa_cons (pv 2) (pa_cons (pe_callB call_len_seq (by rfl) T.m_len (by decide +kernel) (pa_cons (pe_ix ix_tup (pv 3) pe_int (fun _ _ => rfl)) pa_nil)) pa_nil))) pa_nil)))) (pg_tup rfl (pgs_cons (pg_name (i := 8) scLaw.nd rfl (Or.inl rfl)) (pgs_cons (pg_name (i := 9) scLaw.nd rfl (Or.inl rfl)) (pgs_cons (pg_name (i := 10) scLaw.nd rfl (Or.inl rfl)) pgs_nil)))))
  (pss_one (ps_if (PW.pt (pw_and (pt_cmpR op_eq (pv 8) pe_str (nomark _)) (pw_and1 (PW.pt (pw_or (pt_cmpR op_isN (pv 5) pe_non (nomark _)) (pw_or1 (pt_not (pt_val (pe_cal T.c__law_run_right (hr.mono (by omega)) (by rfl) (pa_cons (pv 3) (pa_cons (pv 10) (pa_cons (pv 5) (pa_cons (pv 6) pa_nil)))))))))))))
  (pss_one (ps_ret pe_bl)) pss_nil))))))))))))
  (pss_one (ps_ret pe_bl))), ?_⟩
  refine ⟨.ref a, rfl, a, _, rfl, .inl hS, 2, _, rfl, 1, _, rfl, ?_⟩
  rw [List.length_map]
  obtain ⟨c1, c5⟩ : 1 ≤ (if (if (ns.length : Int) < 2 then (ns.length : Int) else 2) > 1 then (if (ns.length : Int) < 2 then (ns.length : Int) else 2) else 1) ∧ (if (if (ns.length : Int) < 2 then (ns.length : Int) else 2) > 1 then (if (ns.length : Int) < 2 then (ns.length : Int) else 2) else 1) ≤ 2 := by split <;> split <;> omega
  generalize (if (if (ns.length : Int) < 2 then (ns.length : Int) else 2) > 1 then (if (ns.length : Int) < 2 then (ns.length : Int) else 2) else 1) = cells at c1 c5
  refine ⟨cells, rfl, by omega, by omega, for_range (lo := 0) (n := cells.toNat) (fun i σ H2 => Tabs Ps H2 ∧ SqL K H2 a (ns.map V.int) ∧ ∃ y1 y2 y3 y4 y5 y6 y7 y8 y9 y10, σ = [some (.ref a), y1, y2, y3, y4, y5, y6, y7, y8, y9, y10]) ⟨hT, hS, none, none, none, none, none, none, none, none, none, none, rfl⟩ (fun i σ H2 hi p => ?_) (fun σ H2 p => ?_)⟩
  · obtain ⟨hT2, hS2, y1, y2, y3, y4, y5, y6, y7, y8, y9, y10, rfl⟩ := p
    -- tape
    refine ⟨.ref a, rfl, .int (0 + (i : Int)), rfl, a, ns, _, rfl, hS2, hl, by omega, by omega, fun H3 tp s3 ntp tp3 => ?_⟩
    have L3 : LI K a (ns.map V.int) Ps tp H3 := ⟨tp3, hT2.same s3, sq_keep hS2 (s3 a), fun e H' => sq_new hS2 ntp e H'⟩
    clear hT2 hS2 hT hS s3 ntp tp3
    -- riddle
    refine ⟨fun σ Hc => ∃ (ri : Addr) (wds : List WD) (many hues : Int), LI K a (ns.map V.int) Ps tp Hc ∧ IsRid Hc ri many hues wds ∧ GoodR many hues wds ∧ (∀ wd ∈ wds, wd.1.Nodup) ∧ σ = [some (.ref a), some (.int (0 + (i : Int))), some (.ref tp), some (.ref ri), y4, y5, y6, y7, y8, y9, y10], ?_, ?_⟩
    · refine ⟨.ref tp, rfl, tp, _, rfl, L3.tape, fun H4 ri1 m1 h1 w1 D4 rid1 gr1 ne1 _ => ?_⟩
      have L4 := L3.taped D4
      refine ⟨.ref tp, rfl, tp, _, rfl, L4.tape, fun H5 ri2 m2 h2 w2 D5 rid2 gr2 ne2 _ => ?_⟩
      have L5 := L4.taped D5
      have rid1 := rid1.mono (D5.tups L4.tape)
      refine ⟨.ref tp, rfl, tp, _, rfl, L5.tape, fun H6 ri3 m3 h3 w3 D6 rid3 gr3 ne3 _ => ⟨(by show 3 ≤ sizeLine; decide), fun l nl => ?_⟩⟩
      have L6 := L5.taped D6
      have s7 := same_upd (o := .lst [V.ref ri1, .ref ri2, .ref ri3]) nl
      have tu := (D6.tups L5.tape).trans (tups_same s7)
      have rid1 := rid1.mono tu
      have rid2 := rid2.mono tu
      have rid3 := rid3.mono (tups_same s7)
      have ntp := L6.tape.new nl
      have L7 := L6.same s7
      have hl7 : upd H6 l (.lst [V.ref ri1, .ref ri2, .ref ri3]) l = some (.lst [V.ref ri1, .ref ri2, .ref ri3]) := upd_same
      generalize upd H6 l _ = H7 at rid1 rid2 rid3 L7 hl7
      refine ⟨.ref tp, rfl, tp, 3, rfl, L7.tape, by decide, by decide, fun H8 d D8 d0 d1 => ?_⟩
      have L8 := L7.taped D8
      have tu8 := D8.tups L7.tape
      have hl8 := D8.1 _ _ ntp hl7
      have hd : d = 0 ∨ d = 1 ∨ d = 2 := by omega
      rcases hd with rfl | rfl | rfl
      · exact ⟨l, _, 0, .ref ri1, rfl, rfl, .inl (.inl hl8), atI_nat (j := 0) rfl, ri1, w1, m1, h1, L8, rid1.mono tu8, gr1, fun wd h => (ne1 wd h).nd, rfl⟩
      · exact ⟨l, _, 1, .ref ri2, rfl, rfl, .inl (.inl hl8), atI_nat (j := 1) rfl, ri2, w2, m2, h2, L8, rid2.mono tu8, gr2, fun wd h => (ne2 wd h).nd, rfl⟩
      · exact ⟨l, _, 2, .ref ri3, rfl, rfl, .inl (.inl hl8), atI_nat (j := 2) rfl, ri3, w3, m3, h3, L8, rid3.mono tu8, gr3, fun wd h => (ne3 wd h).nd, rfl⟩
    clear L3
    rintro σ H5 ⟨ri, wds, many, hues, L5, rid, gr, nd, rfl⟩
    have m1 := gr.m1
    have m6 := gr.m6
    have h2 := gr.h2
    have h4 := gr.h4
    -- table
    obtain ⟨wt, was, r1, r2, r3⟩ := id rid
    refine ⟨fun σ Hc => ∃ (ta : Addr) (tb : List (List Int)) (most : Int), LI K a (ns.map V.int) Ps tp Hc ∧ IsRid Hc ri many hues wds ∧ IsTab (· = tp) Hc ta tb ∧ GoodT many hues tb ∧ (∀ ds ∈ tb, (ds.length : Int) ≤ most) ∧ most.toNat ^ many.toNat ≤ 5000 ∧ σ = [some (.ref a), some (.int (0 + (i : Int))), some (.ref tp), some (.ref ri), some (.ref ta), y5, y6, y7, y8, y9, y10], ?_, ?_⟩
    · refine ⟨.ref tp, rfl, .ref ri, rfl, (by show 7 ≤ sizeLine; decide), fun l7 nl7 => ?_⟩
      have s7 := same_upd (o := .lst [V.int 4, .int 4, .int 6, .int 6, .int 4, .int 3, .int 3]) nl7
      have L7 := L5.same s7
      obtain ⟨mo, hmo, mo1, mo2, mp⟩ : ∃ mo, atI [V.int 4, .int 4, .int 6, .int 6, .int 4, .int 3, .int 3] many = some (.int mo) ∧ 1 ≤ mo ∧ mo ≤ 900 ∧ mo.toNat ^ many.toNat ≤ 5000 := by
        have : many = 1 ∨ many = 2 ∨ many = 3 ∨ many = 4 ∨ many = 5 ∨ many = 6 := by omega
        rcases this with rfl | rfl | rfl | rfl | rfl | rfl
        · exact ⟨4, rfl, by decide, by decide, by decide⟩
        · exact ⟨6, rfl, by decide, by decide, by decide⟩
        · exact ⟨6, rfl, by decide, by decide, by decide⟩
        · exact ⟨4, rfl, by decide, by decide, by decide⟩
        · exact ⟨3, rfl, by decide, by decide, by decide⟩
        · exact ⟨3, rfl, by decide, by decide, by decide⟩
      refine ⟨.ref ri, rfl, ri, _, 0, .int many, rfl, rfl, .inl (.inl (s7 _ _ r1)), atI_nat (j := 0) rfl, l7, _, many, .int mo, rfl, rfl, .inl (.inl upd_same), hmo, tp, ri, many, hues, mo, _, rfl, L7.tape, s7 _ _ r1, m1, m6, h2, h4, mo1, mo2, fun H8 ta tb D8 tab8 gt le => ?_⟩
      exact ⟨ta, tb, mo, L7.taped D8, (rid.mono (tups_same s7)).mono (D8.tups L7.tape), tab8.weak (Bv := (· = tp)) L7.tape.old, gt, le, mp, rfl⟩
    clear r1 r2 r3 L5 rid
    rintro σ H6 ⟨ta, tb, most, L6, rid6, tab6, gt, le, mp, rfl⟩
    have small := small_tb gt.len le mp
    have gs : GoodS many hues tb := ⟨gt.len, gt.one, gt.hue⟩
    -- way
    refine ⟨fun σ Hc => ∃ v : V, WayP tp wds tb Hc v ∧ LI K a (ns.map V.int) Ps tp Hc ∧ IsRid Hc ri many hues wds ∧ IsTab (· = tp) Hc ta tb ∧ σ = [some (.ref a), some (.int (0 + (i : Int))), some (.ref tp), some (.ref ri), some (.ref ta), some v, y6, y7, y8, y9, y10], ?_, ?_⟩
    · refine ⟨.ref ri, rfl, .ref ta, rfl, ri, ta, wds, many, hues, tb, rfl, rid6, gr, tab6.none, gs, small, L6.tabs, fun H7 f => ⟨fun nv => ⟨.non, .inl ⟨rfl, nv⟩, L6.frs f, rid6.mono (f.seqs L6.tabs).1, tab6.seqs (f.seqs L6.tabs), rfl⟩, fun l ms t nl hl hs hk mi => ⟨.ref l, .inr ⟨l, ms, rfl, hl, L6.tape.new nl, ⟨t, hs, hk⟩, mi⟩, L6.frs f, rid6.mono (f.seqs L6.tabs).1, tab6.seqs (f.seqs L6.tabs), rfl⟩⟩⟩
    clear L6 rid6 tab6
    rintro σ H7 ⟨v, wp, L7, rid7, tab7, rfl⟩
    -- floors
    refine fun d0 nd0 => ?_
    have s8 := same_upd (o := .dK []) nd0
    have L8 := L7.same s8
    have rid8 := rid7.mono (tups_same s8)
    have tab8 := tab7.seqs (seqs_same s8)
    have wp8 : WayP tp wds tb (upd H7 d0 (.dK [])) v := wp.imp id fun ⟨l, ms, e, hl, r⟩ => ⟨l, ms, e, s8 _ _ hl, r⟩
    generalize upd H7 d0 (.dK []) = H8 at L8 rid8 tab8 wp8
    clear s8 L7 rid7 tab7 wp
    refine ⟨fun σ Hc => ∃ f : V, WayF tp wds tb Hc v f ∧ LI K a (ns.map V.int) Ps tp Hc ∧ IsRid Hc ri many hues wds ∧ IsTab (· = tp) Hc ta tb ∧ σ = [some (.ref a), some (.int (0 + (i : Int))), some (.ref tp), some (.ref ri), some (.ref ta), some v, some f, y7, y8, y9, y10], ?_, ?_⟩
    · rcases wp8 with ⟨rfl, nv⟩ | ⟨l, ms, rfl, hl, ltp, ⟨t, hs, hk⟩, mi⟩
      · exact ⟨.non, rfl, rfl, false, rfl, iteF ⟨_, .inl ⟨rfl, nv⟩, L8, rid8, tab8, rfl⟩⟩
      · refine ⟨.ref l, rfl, rfl, true, rfl, iteT ?_⟩
        refine ⟨.ref ri, rfl, .ref ta, rfl, ri, ta, wds, many, hues, tb, rfl, rid8, gr, tab8.none, gs, small, L8.tabs, fun H9 f9 => ⟨fun nv => absurd hk (nv ms t hs), fun d fl ms' u nd' hd ok hs' hk' mi' va few => ?_⟩⟩
        have L9 := L8.frs f9
        have sq9 := f9.seqs L8.tabs
        have rid9 := rid8.mono sq9.1
        have tab9 := tab8.seqs sq9
        have hl9 := sq9.2 _ _ hl
        have ndP : d ∉ Ps := L8.tabs.new nd'
        refine ⟨.ref ri, rfl, .ref ta, rfl, .ref l, rfl, ri, ta, l, wds, many, hues, tb, ms, t, rfl, rid9, gr, nd, tab9.none, gs, hl9, hs, hk, L9.tabs, fun H10 f10 => ⟨true, rfl, iteF ?_⟩⟩
        have L10 := L9.frs f10
        have sq10 := f10.seqs L9.tabs
        have rid10 := rid9.mono sq10.1
        have tab10 := tab9.seqs sq10
        have hd10 := f10.1 _ _ ndP hd
        refine ⟨.ref ri, rfl, .ref ta, rfl, .ref d, rfl, ri, ta, d, wds, many, hues, tb, fl, rfl, rid10, gr, tab10.none, gs, .inl hd10, ndP, L10.tabs, fun H11 f11 => ⟨_, rfl, ?_⟩⟩
        rw [ok.yes]
        have sq11 := f11.seqs L10.tabs hd10
        exact iteF ⟨.ref d, .inr ⟨l, ms, d, fl, rfl, rfl, sq11.2 _ _ (sq10.2 _ _ hl9), ltp, ⟨⟨t, hs, hk⟩, mi⟩, .inr f11.2.2, ok⟩, L10.frd hd10 f11, rid10.mono sq11.1, tab10.seqs sq11, rfl⟩
    clear L8 rid8 tab8 wp8
    rintro σ H8 ⟨f, wf, L8, rid8, tab8, rfl⟩
    -- turns
    refine ⟨4, rfl, by decide, by decide, ?_⟩
    refine for_range (lo := 0) (n := 4) (fun j σ Hc => WayF tp wds tb Hc v f ∧ LI K a (ns.map V.int) Ps tp Hc ∧ IsRid Hc ri many hues wds ∧ IsTab (· = tp) Hc ta tb ∧ ∃ y7 y8 y9 y10, σ = [some (.ref a), some (.int (0 + (i : Int))), some (.ref tp), some (.ref ri), some (.ref ta), some v, some f, y7, y8, y9, y10]) ⟨wf, L8, rid8, tab8, y7, y8, y9, y10, rfl⟩ (fun j σ Hc hj p => ?_) (fun σ Hc p => ?_)
    · clear wf L8 rid8 tab8
      obtain ⟨wf, L8, rid8, tab8, y7, y8, y9, y10, rfl⟩ := p
      obtain ⟨wt8, was8, t1, t2, t3⟩ := id rid8
      have wl8 := pairedLen t3
      have w8 := gr.eight
      refine ⟨.ref ri, rfl, .ref ta, rfl, .ref tp, rfl, .ref ri, rfl, ri, _, 2, _, rfl, rfl, .inl (.inl t1), atI_nat (j := 2) rfl, wt8, _, rfl, .inr (.inl (.inl t2)), tp, _, rfl, L8.tape, by omega, by rw [List.length_map]; omega, fun H9 oa ord D9 ho go pmo => ?_⟩
      rw [List.length_map, wl8, Int.toNat_natCast] at go
      have L9 := L8.taped D9
      have tab9 := tab8.taped D9
      have rid9 := rid8.mono (D9.tups L8.tape)
      have wf9 := wf.frt L8.tape L8.tabs (FrT.taped L8.tape L8.tabs D9)
      have in9 : RunIn H9 ri ta oa many hues wds tb ord := ⟨rid9, gr, nd, tab9.none, gt, ho, go⟩
      clear wf L8 rid8 tab8 t1 t2 t3
      refine ⟨ri, ta, oa, many, hues, wds, tb, ord, rfl, in9, L9.tabs, fun H10 t10 R f10 nt10 hR res10 => ?_⟩
      have L10 := L9.frs f10
      have sq10 := f10.seqs L9.tabs
      have rid10 := rid9.mono sq10.1
      have tab10 := tab9.seqs sq10
      have wf10 := wf9.frt L9.tape L9.tabs (FrT.frs L9.tape L9.tabs f10)
      obtain ⟨R', hR', _, okR, lR⟩ := runOf_some gr nd gt go
      cases Option.some.inj (hR'.symm.trans hR)
      obtain ⟨fr, la, q1, q2, q3, q4⟩ := res10
      refine ⟨t10, _, rfl, .inl (.inl q1), rfl, .str (endS R.1), [.ref fr, .ref la], rfl, .ref fr, [.ref la], rfl, .ref la, [], rfl, rfl, ?_⟩
      obtain ⟨b, fs, log⟩ := R
      cases b with
      | false => exact ⟨.str (endS false), rfl, rfl, false, rfl, iteF ⟨wf10, L10, rid10, tab10, _, _, _, _, rfl⟩⟩
      | true =>
        obtain ⟨u, st, ku⟩ := run_steps gr nd gt go hR
        rcases wf10 with ⟨rfl, nv⟩ | ⟨l, ms, fd, fl, rfl, rfl, hl, ltp, ⟨⟨t, hs, hk⟩, mi⟩, rd, ok⟩
        · exact absurd ku (nv _ _ st)
        · refine ⟨.str (endS true), rfl, rfl, true, rfl, iteT ⟨.ref l, rfl, rfl, false, rfl, iteF ?_⟩⟩
          refine ⟨.ref ri, rfl, .ref la, rfl, .ref l, rfl, .ref fd, rfl, ri, la, l, fd, wds, many, hues, tb, log, ms, t, u, fl, rfl, rid10, gr, nd, gt, q3, lR, st, ku, hl, hs, hk, mi, rd, ok, L10.tabs, fun H11 f11 => ⟨true, rfl, iteF ?_⟩⟩
          have sq11 := f11.seqs L10.tabs
          have wf11 := WayF.frt L10.tape L10.tabs (FrT.frs L10.tape L10.tabs f11) (.inr ⟨l, ms, fd, fl, rfl, rfl, hl, ltp, ⟨⟨t, hs, hk⟩, mi⟩, rd, ok⟩)
          exact ⟨wf11, L10.frs f11, rid10.mono sq11.1, tab10.seqs sq11, _, _, _, _, rfl⟩
    · obtain ⟨_, L, _, _, _, _, _, _, rfl⟩ := p
      exact ⟨L.tabs, L.scr, _, _, _, _, _, _, _, _, _, _, rfl⟩
  · exact rfl
end
end Rd

set_option Elab.async false
set_option linter.all false
set_option maxRecDepth 100000
set_option maxHeartbeats 4000000
namespace Rd
open PySem PySem.Spec PyProof.Rows L2 Dt
theorem all_mk {l : PySem.W.OpenLaw} {w : World} {K : PySem.W.Frag} {h : Heap} {mg : Str → Option Value} {fa : Addr} {tb : Str → Addr × Addr} (X : K.In h) (G : h.Ns mainGlobals mg) (hfa : mg "law" = some (.ref fa)) (ht : ∀ y ∈ [("hues_at" : Str), ("clash" : Str), ("standing" : Str), ("have_next" : Str), ("taken_on" : Str), ("searched" : Str), ("is_taken" : Str), ("is_floor" : Str), ("are_floors" : Str)], Lg.TabOf mg h y (tb y))
    {f1 f2 f3 f4 f5 f6 f7 f8 f9 f10 f11 f12 f13 f14 f15 f16 f17 f18 f19 f20 f21 f22 f23 f24 f25 f26 f27 f28 f29 f30 f31 f32 f33 f34 : Addr} {od1 an1 od2 an2 od3 an3 od4 an4 od5 an5 od6 an6 od7 an7 od8 an8 od9 an9 od10 an10 od11 an11 od12 an12 od13 an13 od14 an14 od15 an15 od16 an16 od17 an17 od18 an18 od19 an19 od20 an20 od21 an21 od22 an22 od23 an23 od24 an24 od25 an25 od26 an26 od27 an27 od28 an28 od29 an29 od30 an30 od31 an31 od32 an32 od33 an33 od34 an34 : Option Addr} {sl1 sl2 sl3 sl4 sl5 sl6 sl7 sl8 sl9 sl10 sl11 sl12 sl13 sl14 sl15 sl16 sl17 sl18 sl19 sl20 sl21 sl22 sl23 sl24 sl25 sl26 sl27 sl28 sl29 sl30 sl31 sl32 sl33 sl34 : Array (Option Value)} {oc1 kV1 dc1 pm1 cd1 ct1 oc2 kV2 dc2 pm2 cd2 ct2 oc3 kV3 dc3 pm3 cd3 ct3 oc4 kV4 dc4 pm4 cd4 ct4 oc5 kV5 dc5 pm5 cd5 ct5 oc6 kV6 dc6 pm6 cd6 ct6 oc7 kV7 dc7 pm7 cd7 ct7 oc8 kV8 dc8 pm8 cd8 ct8 oc9 kV9 dc9 pm9 cd9 ct9 oc10 kV10 dc10 pm10 cd10 ct10 oc11 kV11 dc11 pm11 cd11 ct11 oc12 kV12 dc12 pm12 cd12 ct12 oc13 kV13 dc13 pm13 cd13 ct13 oc14 kV14 dc14 pm14 cd14 ct14 oc15 kV15 dc15 pm15 cd15 ct15 oc16 kV16 dc16 pm16 cd16 ct16 oc17 kV17 dc17 pm17 cd17 ct17 oc18 kV18 dc18 pm18 cd18 ct18 oc19 kV19 dc19 pm19 cd19 ct19 oc20 kV20 dc20 pm20 cd20 ct20 oc21 kV21 dc21 pm21 cd21 ct21 oc22 kV22 dc22 pm22 cd22 ct22 oc23 kV23 dc23 pm23 cd23 ct23 oc24 kV24 dc24 pm24 cd24 ct24 oc25 kV25 dc25 pm25 cd25 ct25 oc26 kV26 dc26 pm26 cd26 ct26 oc27 kV27 dc27 pm27 cd27 ct27 oc28 kV28 dc28 pm28 cd28 ct28 oc29 kV29 dc29 pm29 cd29 ct29 oc30 kV30 dc30 pm30 cd30 ct30 oc31 kV31 dc31 pm31 cd31 ct31 oc32 kV32 dc32 pm32 cd32 ct32 oc33 kV33 dc33 pm33 cd33 ct33 oc34 kV34 dc34 pm34 cd34 ct34 : Value} {tk_MOST_CHOICES : Tok} {qn0 : Addr}
    (a1 : PySem.W.nsIn K mainGlobals "is_number" = some (some (.ref f1))) (l1 : K.lookup f1 = some ⟨oc1, od1, .func (PySem.W.fnOf "is_number" "is_number" (defArgs sNum) (defBody sNum) (defScope sNum) .none kV1 dc1 pm1 an1 cd1 ct1), sl1⟩) (c1 : PySem.W.codeIn K cd1 "is_number" = true) (k1 : PySem.W.keepIn K (.ref f1) = true)
    (a2 : PySem.W.nsIn K mainGlobals "hues_at" = some (some (.ref f2))) (l2 : K.lookup f2 = some ⟨oc2, od2, .func (PySem.W.fnOf "hues_at" "hues_at" (defArgs sHue) (defBody sHue) (defScope sHue) .none kV2 dc2 pm2 an2 cd2 ct2), sl2⟩) (c2 : PySem.W.codeIn K cd2 "hues_at" = true) (k2 : PySem.W.keepIn K (.ref f2) = true)
    (a3 : PySem.W.nsIn K mainGlobals "is_broken" = some (some (.ref f3))) (l3 : K.lookup f3 = some ⟨oc3, od3, .func (PySem.W.fnOf "is_broken" "is_broken" (defArgs sIsB) (defBody sIsB) (defScope sIsB) .none kV3 dc3 pm3 an3 cd3 ct3), sl3⟩) (c3 : PySem.W.codeIn K cd3 "is_broken" = true) (k3 : PySem.W.keepIn K (.ref f3) = true)
    (a4 : PySem.W.nsIn K mainGlobals "broken" = some (some (.ref f4))) (l4 : K.lookup f4 = some ⟨oc4, od4, .func (PySem.W.fnOf "broken" "broken" (defArgs sBro) (defBody sBro) (defScope sBro) .none kV4 dc4 pm4 an4 cd4 ct4), sl4⟩) (c4 : PySem.W.codeIn K cd4 "broken" = true) (k4 : PySem.W.keepIn K (.ref f4) = true)
    (a5 : PySem.W.nsIn K mainGlobals "all_fillings" = some (some (.ref f5))) (l5 : K.lookup f5 = some ⟨oc5, od5, .func (PySem.W.fnOf "all_fillings" "all_fillings" (defArgs sAlf) (defBody sAlf) (defScope sAlf) .none kV5 dc5 pm5 an5 cd5 ct5), sl5⟩) (c5 : PySem.W.codeIn K cd5 "all_fillings" = true) (k5 : PySem.W.keepIn K (.ref f5) = true)
    (a6 : PySem.W.nsIn K mainGlobals "clash" = some (some (.ref f6))) (l6 : K.lookup f6 = some ⟨oc6, od6, .func (PySem.W.fnOf "clash" "clash" (defArgs sCla) (defBody sCla) (defScope sCla) .none kV6 dc6 pm6 an6 cd6 ct6), sl6⟩) (c6 : PySem.W.codeIn K cd6 "clash" = true) (k6 : PySem.W.keepIn K (.ref f6) = true)
    (a7 : PySem.W.nsIn K mainGlobals "clashing" = some (some (.ref f7))) (l7 : K.lookup f7 = some ⟨oc7, od7, .func (PySem.W.fnOf "clashing" "clashing" (defArgs sCls) (defBody sCls) (defScope sCls) .none kV7 dc7 pm7 an7 cd7 ct7), sl7⟩) (c7 : PySem.W.codeIn K cd7 "clashing" = true) (k7 : PySem.W.keepIn K (.ref f7) = true)
    (a8 : PySem.W.nsIn K mainGlobals "standing" = some (some (.ref f8))) (l8 : K.lookup f8 = some ⟨oc8, od8, .func (PySem.W.fnOf "standing" "standing" (defArgs sSta) (defBody sSta) (defScope sSta) .none kV8 dc8 pm8 an8 cd8 ct8), sl8⟩) (c8 : PySem.W.codeIn K cd8 "standing" = true) (k8 : PySem.W.keepIn K (.ref f8) = true)
    (a9 : PySem.W.nsIn K mainGlobals "first_broken" = some (some (.ref f9))) (l9 : K.lookup f9 = some ⟨oc9, od9, .func (PySem.W.fnOf "first_broken" "first_broken" (defArgs sFib) (defBody sFib) (defScope sFib) .none kV9 dc9 pm9 an9 cd9 ct9), sl9⟩) (c9 : PySem.W.codeIn K cd9 "first_broken" = true) (k9 : PySem.W.keepIn K (.ref f9) = true)
    (a10 : PySem.W.nsIn K mainGlobals "have_next" = some (some (.ref f10))) (l10 : K.lookup f10 = some ⟨oc10, od10, .func (PySem.W.fnOf "have_next" "have_next" (defArgs sHnx) (defBody sHnx) (defScope sHnx) .none kV10 dc10 pm10 an10 cd10 ct10), sl10⟩) (c10 : PySem.W.codeIn K cd10 "have_next" = true) (k10 : PySem.W.keepIn K (.ref f10) = true)
    (a11 : PySem.W.nsIn K mainGlobals "run" = some (some (.ref f11))) (l11 : K.lookup f11 = some ⟨oc11, od11, .func (PySem.W.fnOf "run" "run" (defArgs sRun) (defBody sRun) (defScope sRun) .none kV11 dc11 pm11 an11 cd11 ct11), sl11⟩) (c11 : PySem.W.codeIn K cd11 "run" = true) (k11 : PySem.W.keepIn K (.ref f11) = true)
    (a12 : PySem.W.nsIn K mainGlobals "refuse_too_many" = some (some (.ref f12))) (l12 : K.lookup f12 = some ⟨oc12, od12, .func (PySem.W.fnOf "refuse_too_many" "refuse_too_many" (defArgs sRtm) (defBody sRtm) (defScope sRtm) .none kV12 dc12 pm12 an12 cd12 ct12), sl12⟩) (c12 : PySem.W.codeIn K cd12 "refuse_too_many" = true) (k12 : PySem.W.keepIn K (.ref f12) = true)
    (a13 : PySem.W.nsIn K mainGlobals "taken_on" = some (some (.ref f13))) (l13 : K.lookup f13 = some ⟨oc13, od13, .func (PySem.W.fnOf "taken_on" "taken_on" (defArgs sTko) (defBody sTko) (defScope sTko) .none kV13 dc13 pm13 an13 cd13 ct13), sl13⟩) (c13 : PySem.W.codeIn K cd13 "taken_on" = true) (k13 : PySem.W.keepIn K (.ref f13) = true)
    (a14 : PySem.W.nsIn K mainGlobals "mendings" = some (some (.ref f14))) (l14 : K.lookup f14 = some ⟨oc14, od14, .func (PySem.W.fnOf "mendings" "mendings" (defArgs sMds) (defBody sMds) (defScope sMds) .none kV14 dc14 pm14 an14 cd14 ct14), sl14⟩) (c14 : PySem.W.codeIn K cd14 "mendings" = true) (k14 : PySem.W.keepIn K (.ref f14) = true)
    (a15 : PySem.W.nsIn K mainGlobals "searched" = some (some (.ref f15))) (l15 : K.lookup f15 = some ⟨oc15, od15, .func (PySem.W.fnOf "searched" "searched" (defArgs sSea) (defBody sSea) (defScope sSea) .none kV15 dc15 pm15 an15 cd15 ct15), sl15⟩) (c15 : PySem.W.codeIn K cd15 "searched" = true) (k15 : PySem.W.keepIn K (.ref f15) = true)
    (a16 : PySem.W.nsIn K mainGlobals "fewest" = some (some (.ref f16))) (l16 : K.lookup f16 = some ⟨oc16, od16, .func (PySem.W.fnOf "fewest" "fewest" (defArgs sFew) (defBody sFew) (defScope sFew) .none kV16 dc16 pm16 an16 cd16 ct16), sl16⟩) (c16 : PySem.W.codeIn K cd16 "fewest" = true) (k16 : PySem.W.keepIn K (.ref f16) = true)
    (a17 : PySem.W.nsIn K mainGlobals "floors_of" = some (some (.ref f17))) (l17 : K.lookup f17 = some ⟨oc17, od17, .func (PySem.W.fnOf "floors_of" "floors_of" (defArgs sFof) (defBody sFof) (defScope sFof) .none kV17 dc17 pm17 an17 cd17 ct17), sl17⟩) (c17 : PySem.W.codeIn K cd17 "floors_of" = true) (k17 : PySem.W.keepIn K (.ref f17) = true)
    (a18 : PySem.W.nsIn K mainGlobals "is_taken" = some (some (.ref f18))) (l18 : K.lookup f18 = some ⟨oc18, od18, .func (PySem.W.fnOf "is_taken" "is_taken" (defArgs sIst) (defBody sIst) (defScope sIst) .none kV18 dc18 pm18 an18 cd18 ct18), sl18⟩) (c18 : PySem.W.codeIn K cd18 "is_taken" = true) (k18 : PySem.W.keepIn K (.ref f18) = true)
    (a19 : PySem.W.nsIn K mainGlobals "is_floor" = some (some (.ref f19))) (l19 : K.lookup f19 = some ⟨oc19, od19, .func (PySem.W.fnOf "is_floor" "is_floor" (defArgs sIsf) (defBody sIsf) (defScope sIsf) .none kV19 dc19 pm19 an19 cd19 ct19), sl19⟩) (c19 : PySem.W.codeIn K cd19 "is_floor" = true) (k19 : PySem.W.keepIn K (.ref f19) = true)
    (a20 : PySem.W.nsIn K mainGlobals "are_floors" = some (some (.ref f20))) (l20 : K.lookup f20 = some ⟨oc20, od20, .func (PySem.W.fnOf "are_floors" "are_floors" (defArgs sArf) (defBody sArf) (defScope sArf) .none kV20 dc20 pm20 an20 cd20 ct20), sl20⟩) (c20 : PySem.W.codeIn K cd20 "are_floors" = true) (k20 : PySem.W.keepIn K (.ref f20) = true)
    (a21 : PySem.W.nsIn K mainGlobals "first_of_both" = some (some (.ref f21))) (l21 : K.lookup f21 = some ⟨oc21, od21, .func (PySem.W.fnOf "first_of_both" "first_of_both" (defArgs sFob) (defBody sFob) (defScope sFob) .none kV21 dc21 pm21 an21 cd21 ct21), sl21⟩) (c21 : PySem.W.codeIn K cd21 "first_of_both" = true) (k21 : PySem.W.keepIn K (.ref f21) = true)
    (a22 : PySem.W.nsIn K mainGlobals "apart" = some (some (.ref f22))) (l22 : K.lookup f22 = some ⟨oc22, od22, .func (PySem.W.fnOf "apart" "apart" (defArgs sApr) (defBody sApr) (defScope sApr) .none kV22 dc22 pm22 an22 cd22 ct22), sl22⟩) (c22 : PySem.W.codeIn K cd22 "apart" = true) (k22 : PySem.W.keepIn K (.ref f22) = true)
    (a23 : PySem.W.nsIn K mainGlobals "_law_tape" = some (some (.ref f23))) (l23 : K.lookup f23 = some ⟨oc23, od23, .func (PySem.W.fnOf "_law_tape" "_law_tape" (defArgs sTap) (defBody sTap) (defScope sTap) .none kV23 dc23 pm23 an23 cd23 ct23), sl23⟩) (c23 : PySem.W.codeIn K cd23 "_law_tape" = true) (k23 : PySem.W.keepIn K (.ref f23) = true)
    (a24 : PySem.W.nsIn K mainGlobals "_law_digit" = some (some (.ref f24))) (l24 : K.lookup f24 = some ⟨oc24, od24, .func (PySem.W.fnOf "_law_digit" "_law_digit" (defArgs sDig) (defBody sDig) (defScope sDig) .none kV24 dc24 pm24 an24 cd24 ct24), sl24⟩) (c24 : PySem.W.codeIn K cd24 "_law_digit" = true) (k24 : PySem.W.keepIn K (.ref f24) = true)
    (a25 : PySem.W.nsIn K mainGlobals "_law_wish" = some (some (.ref f25))) (l25 : K.lookup f25 = some ⟨oc25, od25, .func (PySem.W.fnOf "_law_wish" "_law_wish" (defArgs sWis) (defBody sWis) (defScope sWis) .none kV25 dc25 pm25 an25 cd25 ct25), sl25⟩) (c25 : PySem.W.codeIn K cd25 "_law_wish" = true) (k25 : PySem.W.keepIn K (.ref f25) = true)
    (a26 : PySem.W.nsIn K mainGlobals "_law_sizes" = some (some (.ref f26))) (l26 : K.lookup f26 = some ⟨oc26, od26, .func (PySem.W.fnOf "_law_sizes" "_law_sizes" (defArgs sSzs) (defBody sSzs) (defScope sSzs) .none kV26 dc26 pm26 an26 cd26 ct26), sl26⟩) (c26 : PySem.W.codeIn K cd26 "_law_sizes" = true) (k26 : PySem.W.keepIn K (.ref f26) = true)
    (a27 : PySem.W.nsIn K mainGlobals "_law_riddle" = some (some (.ref f27))) (l27 : K.lookup f27 = some ⟨oc27, od27, .func (PySem.W.fnOf "_law_riddle" "_law_riddle" (defArgs sRid) (defBody sRid) (defScope sRid) .none kV27 dc27 pm27 an27 cd27 ct27), sl27⟩) (c27 : PySem.W.codeIn K cd27 "_law_riddle" = true) (k27 : PySem.W.keepIn K (.ref f27) = true)
    (a28 : PySem.W.nsIn K mainGlobals "_law_table" = some (some (.ref f28))) (l28 : K.lookup f28 = some ⟨oc28, od28, .func (PySem.W.fnOf "_law_table" "_law_table" (defArgs sTab) (defBody sTab) (defScope sTab) .none kV28 dc28 pm28 an28 cd28 ct28), sl28⟩) (c28 : PySem.W.codeIn K cd28 "_law_table" = true) (k28 : PySem.W.keepIn K (.ref f28) = true)
    (a29 : PySem.W.nsIn K mainGlobals "_law_order" = some (some (.ref f29))) (l29 : K.lookup f29 = some ⟨oc29, od29, .func (PySem.W.fnOf "_law_order" "_law_order" (defArgs sOrd) (defBody sOrd) (defScope sOrd) .none kV29 dc29 pm29 an29 cd29 ct29), sl29⟩) (c29 : PySem.W.codeIn K cd29 "_law_order" = true) (k29 : PySem.W.keepIn K (.ref f29) = true)
    (a30 : PySem.W.nsIn K mainGlobals "_law_meet" = some (some (.ref f30))) (l30 : K.lookup f30 = some ⟨oc30, od30, .func (PySem.W.fnOf "_law_meet" "_law_meet" (defArgs sMee) (defBody sMee) (defScope sMee) .none kV30 dc30 pm30 an30 cd30 ct30), sl30⟩) (c30 : PySem.W.codeIn K cd30 "_law_meet" = true) (k30 : PySem.W.keepIn K (.ref f30) = true)
    (a31 : PySem.W.nsIn K mainGlobals "_law_apart_riddle" = some (some (.ref f31))) (l31 : K.lookup f31 = some ⟨oc31, od31, .func (PySem.W.fnOf "_law_apart_riddle" "_law_apart_riddle" (defArgs sArd) (defBody sArd) (defScope sArd) .none kV31 dc31 pm31 an31 cd31 ct31), sl31⟩) (c31 : PySem.W.codeIn K cd31 "_law_apart_riddle" = true) (k31 : PySem.W.keepIn K (.ref f31) = true)
    (a32 : PySem.W.nsIn K mainGlobals "_law_told_right" = some (some (.ref f32))) (l32 : K.lookup f32 = some ⟨oc32, od32, .func (PySem.W.fnOf "_law_told_right" "_law_told_right" (defArgs sTor) (defBody sTor) (defScope sTor) .none kV32 dc32 pm32 an32 cd32 ct32), sl32⟩) (c32 : PySem.W.codeIn K cd32 "_law_told_right" = true) (k32 : PySem.W.keepIn K (.ref f32) = true)
    (a33 : PySem.W.nsIn K mainGlobals "_law_run_right" = some (some (.ref f33))) (l33 : K.lookup f33 = some ⟨oc33, od33, .func (PySem.W.fnOf "_law_run_right" "_law_run_right" (defArgs sRur) (defBody sRur) (defScope sRur) .none kV33 dc33 pm33 an33 cd33 ct33), sl33⟩) (c33 : PySem.W.codeIn K cd33 "_law_run_right" = true) (k33 : PySem.W.keepIn K (.ref f33) = true)
    (a34 : PySem.W.nsIn K mainGlobals "law" = some (some (.ref f34))) (l34 : K.lookup f34 = some ⟨oc34, od34, .func (PySem.W.fnOf "law" "law" (defArgs sLaw) (defBody sLaw) (defScope sLaw) .none kV34 dc34 pm34 an34 cd34 ct34), sl34⟩) (c34 : PySem.W.codeIn K cd34 "law" = true) (k34 : PySem.W.keepIn K (.ref f34) = true)
    (z_abs : PySem.W.nsIn K mainGlobals "abs" = some none)
    (z_all : PySem.W.nsIn K mainGlobals "all" = some none)
    (z_any : PySem.W.nsIn K mainGlobals "any" = some none)
    (z_bool : PySem.W.nsIn K mainGlobals "bool" = some none)
    (z_enumerate : PySem.W.nsIn K mainGlobals "enumerate" = some none)
    (z_int : PySem.W.nsIn K mainGlobals "int" = some none)
    (z_isinstance : PySem.W.nsIn K mainGlobals "isinstance" = some none)
    (z_len : PySem.W.nsIn K mainGlobals "len" = some none)
    (z_list : PySem.W.nsIn K mainGlobals "list" = some none)
    (z_max : PySem.W.nsIn K mainGlobals "max" = some none)
    (z_min : PySem.W.nsIn K mainGlobals "min" = some none)
    (z_range : PySem.W.nsIn K mainGlobals "range" = some none)
    (z_sorted : PySem.W.nsIn K mainGlobals "sorted" = some none)
    (z_tuple : PySem.W.nsIn K mainGlobals "tuple" = some none)
    (z_zip : PySem.W.nsIn K mainGlobals "zip" = some none)
    (q_MOST_CHOICES : PySem.W.nsIn K mainGlobals "MOST_CHOICES" = some (some (.int 5000 tk_MOST_CHOICES)))
    (nq0 : PySem.W.nsIn K mainGlobals "NoEnd" = some (some (.ref qn0)))
    (hq0 : okC1 K qn0 = true) :
    ∃ fd : FuncData, Fun K "law" "law" sLaw fa fd ∧ (∀ (s : Shared) (v : Value), BindsTo s fd ⟨[v], []⟩ [("script", v)]) ∧ ∀ (base : Heap) (H : Hp) (cdv : Value) (a : Addr) (ns : List Int) (s : Shared), K.In base → base.Ns mainGlobals mg → (∀ y ∈ [("hues_at" : Str), ("clash" : Str), ("standing" : Str), ("have_next" : Str), ("taken_on" : Str), ("searched" : Str), ("is_taken" : Str), ("is_floor" : Str), ("are_floors" : Str)], GxR.TabB base mg (tb y).1 (tb y).2) → (∀ y ∈ [("hues_at" : Str), ("clash" : Str), ("standing" : Str), ("have_next" : Str), ("taken_on" : Str), ("searched" : Str), ("is_taken" : Str), ("is_floor" : Str), ("are_floors" : Str)], H (tb y).2 = some (.tbl #[])) → ns.length ≤ 63 → (∀ z ∈ ns, Builtin.Int.intBits z ≤ 1048576) → SqL K H a (ns.map V.int) → Room 10 (callerA.deeper (envOfC "law" (defScope sLaw) s.heap.objs.size fa cdv)) →
        ∃ t, PSs (cxOf CX0 l.prog w K mg base nLaw "law" (defScope sLaw) fa cdv callerA [] s H (fun _ _ _ => False)).nox (defBody sLaw) t ∧ t { nx := fun _ _ => False, rt := fun v _ => v = .bl true } (start nLaw [.ref a]) H := by
  have e := hfa.symm.trans (PySem.W.mg_of X G a34)
  cases e
  have F1 := fun_mk (st := sNum) l1 c1 k1
  have F2 := fun_mk (st := sHue) l2 c2 k2
  have F3 := fun_mk (st := sIsB) l3 c3 k3
  have F4 := fun_mk (st := sBro) l4 c4 k4
  have F5 := fun_mk (st := sAlf) l5 c5 k5
  have F6 := fun_mk (st := sCla) l6 c6 k6
  have F7 := fun_mk (st := sCls) l7 c7 k7
  have F8 := fun_mk (st := sSta) l8 c8 k8
  have F9 := fun_mk (st := sFib) l9 c9 k9
  have F10 := fun_mk (st := sHnx) l10 c10 k10
  have F11 := fun_mk (st := sRun) l11 c11 k11
  have F12 := fun_mk (st := sRtm) l12 c12 k12
  have F13 := fun_mk (st := sTko) l13 c13 k13
  have F14 := fun_mk (st := sMds) l14 c14 k14
  have F15 := fun_mk (st := sSea) l15 c15 k15
  have F16 := fun_mk (st := sFew) l16 c16 k16
  have F17 := fun_mk (st := sFof) l17 c17 k17
  have F18 := fun_mk (st := sIst) l18 c18 k18
  have F19 := fun_mk (st := sIsf) l19 c19 k19
  have F20 := fun_mk (st := sArf) l20 c20 k20
  have F21 := fun_mk (st := sFob) l21 c21 k21
  have F22 := fun_mk (st := sApr) l22 c22 k22
  have F23 := fun_mk (st := sTap) l23 c23 k23
  have F24 := fun_mk (st := sDig) l24 c24 k24
  have F25 := fun_mk (st := sWis) l25 c25 k25
  have F26 := fun_mk (st := sSzs) l26 c26 k26
  have F27 := fun_mk (st := sRid) l27 c27 k27
  have F28 := fun_mk (st := sTab) l28 c28 k28
  have F29 := fun_mk (st := sOrd) l29 c29 k29
  have F30 := fun_mk (st := sMee) l30 c30 k30
  have F31 := fun_mk (st := sArd) l31 c31 k31
  have F32 := fun_mk (st := sTor) l32 c32 k32
  have F33 := fun_mk (st := sRur) l33 c33 k33
  have F34 := fun_mk (st := sLaw) l34 c34 k34
  have b1 := F1.binds (ps := ["thing", "low", "high"]) fun _ _ _ _ _ _ us hl => match us, hl with | [_, _, _], _ => rfl
  have b2 := F2.binds (ps := ["filling", "places"]) fun _ _ _ _ _ _ us hl => match us, hl with | [_, _], _ => rfl
  have b3 := F3.binds (ps := ["wish", "filling"]) fun _ _ _ _ _ _ us hl => match us, hl with | [_, _], _ => rfl
  have b4 := F4.binds (ps := ["riddle", "filling"]) fun _ _ _ _ _ _ us hl => match us, hl with | [_, _], _ => rfl
  have b5 := F5.binds (ps := ["many", "hues"]) fun _ _ _ _ _ _ us hl => match us, hl with | [_, _], _ => rfl
  have b6 := F6.binds (ps := ["one", "other"]) fun _ _ _ _ _ _ us hl => match us, hl with | [_, _], _ => rfl
  have b7 := F7.binds (ps := ["riddle"]) fun _ _ _ _ _ _ us hl => match us, hl with | [_], _ => rfl
  have b8 := F8.binds (ps := ["table", "taken"]) fun _ _ _ _ _ _ us hl => match us, hl with | [_, _], _ => rfl
  have b9 := F9.binds (ps := ["wishes", "order", "filling"]) fun _ _ _ _ _ _ us hl => match us, hl with | [_, _, _], _ => rfl
  have b10 := F10.binds (ps := ["table", "taken", "places"]) fun _ _ _ _ _ _ us hl => match us, hl with | [_, _, _], _ => rfl
  have b11 := F11.binds (ps := ["riddle", "table", "order"]) fun _ _ _ _ _ _ us hl => match us, hl with | [_, _, _], _ => rfl
  have b12 := F12.binds (ps := ["table"]) fun _ _ _ _ _ _ us hl => match us, hl with | [_], _ => rfl
  have b13 := F13.binds (ps := ["taken", "places"]) fun _ _ _ _ _ _ us hl => match us, hl with | [_, _], _ => rfl
  have b14 := F14.binds (ps := ["riddle", "table", "taken"]) fun _ _ _ _ _ _ us hl => match us, hl with | [_, _, _], _ => rfl
  have b15 := F15.binds (ps := ["riddle", "table"]) fun _ _ _ _ _ _ us hl => match us, hl with | [_, _], _ => rfl
  have b16 := F16.binds (ps := ["riddle", "table"]) fun _ _ _ _ _ _ us hl => match us, hl with | [_, _], _ => rfl
  have b17 := F17.binds (ps := ["riddle", "table"]) fun _ _ _ _ _ _ us hl => match us, hl with | [_, _], _ => rfl
  have b18 := F18.binds (ps := ["table", "taken"]) fun _ _ _ _ _ _ us hl => match us, hl with | [_, _], _ => rfl
  have b19 := F19.binds (ps := ["riddle", "table", "floors", "taken"]) fun _ _ _ _ _ _ us hl => match us, hl with | [_, _, _, _], _ => rfl
  have b20 := F20.binds (ps := ["riddle", "table", "floors"]) fun _ _ _ _ _ _ us hl => match us, hl with | [_, _, _], _ => rfl
  have b21 := F21.binds (ps := ["one", "other", "fillings"]) fun _ _ _ _ _ _ us hl => match us, hl with | [_, _, _], _ => rfl
  have b22 := F22.binds (ps := ["riddle"]) fun _ _ _ _ _ _ us hl => match us, hl with | [_], _ => rfl
  have b23 := F23.binds (ps := ["script", "start"]) fun _ _ _ _ _ _ us hl => match us, hl with | [_, _], _ => rfl
  have b24 := F24.binds (ps := ["tape", "many"]) fun _ _ _ _ _ _ us hl => match us, hl with | [_, _], _ => rfl
  have b25 := F25.binds (ps := ["tape", "many", "hues", "most"]) fun _ _ _ _ _ _ us hl => match us, hl with | [_, _, _, _], _ => rfl
  have b26 := F26.binds (ps := ["tape", "small"]) fun _ _ _ _ _ _ us hl => match us, hl with | [_, _], _ => rfl
  have b27 := F27.binds (ps := ["tape", "small"]) fun _ _ _ _ _ _ us hl => match us, hl with | [_, _], _ => rfl
  have b28 := F28.binds (ps := ["tape", "riddle", "most"]) fun _ _ _ _ _ _ us hl => match us, hl with | [_, _, _], _ => rfl
  have b29 := F29.binds (ps := ["tape", "many"]) fun _ _ _ _ _ _ us hl => match us, hl with | [_, _], _ => rfl
  have b30 := F30.binds (ps := ["one", "other"]) fun _ _ _ _ _ _ us hl => match us, hl with | [_, _], _ => rfl
  have b31 := F31.binds (ps := ["tape", "small"]) fun _ _ _ _ _ _ us hl => match us, hl with | [_, _], _ => rfl
  have b32 := F32.binds (ps := ["riddle", "table", "way"]) fun _ _ _ _ _ _ us hl => match us, hl with | [_, _, _], _ => rfl
  have b33 := F33.binds (ps := ["riddle", "log", "way", "floors"]) fun _ _ _ _ _ _ us hl => match us, hl with | [_, _, _, _], _ => rfl
  have m_abs := PySem.W.mg_none_of X G z_abs
  have m_all := PySem.W.mg_none_of X G z_all
  have m_any := PySem.W.mg_none_of X G z_any
  have m_bool := PySem.W.mg_none_of X G z_bool
  have m_enumerate := PySem.W.mg_none_of X G z_enumerate
  have m_int := PySem.W.mg_none_of X G z_int
  have m_isinstance := PySem.W.mg_none_of X G z_isinstance
  have m_len := PySem.W.mg_none_of X G z_len
  have m_list := PySem.W.mg_none_of X G z_list
  have m_max := PySem.W.mg_none_of X G z_max
  have m_min := PySem.W.mg_none_of X G z_min
  have m_range := PySem.W.mg_none_of X G z_range
  have m_sorted := PySem.W.mg_none_of X G z_sorted
  have m_tuple := PySem.W.mg_none_of X G z_tuple
  have m_zip := PySem.W.mg_none_of X G z_zip
  have g1 := PySem.W.mg_of X G a1
  have g2 := PySem.W.mg_of X G a2
  have g3 := PySem.W.mg_of X G a3
  have g4 := PySem.W.mg_of X G a4
  have g5 := PySem.W.mg_of X G a5
  have g6 := PySem.W.mg_of X G a6
  have g7 := PySem.W.mg_of X G a7
  have g8 := PySem.W.mg_of X G a8
  have g9 := PySem.W.mg_of X G a9
  have g10 := PySem.W.mg_of X G a10
  have g11 := PySem.W.mg_of X G a11
  have g12 := PySem.W.mg_of X G a12
  have g13 := PySem.W.mg_of X G a13
  have g14 := PySem.W.mg_of X G a14
  have g15 := PySem.W.mg_of X G a15
  have g16 := PySem.W.mg_of X G a16
  have g17 := PySem.W.mg_of X G a17
  have g18 := PySem.W.mg_of X G a18
  have g19 := PySem.W.mg_of X G a19
  have g20 := PySem.W.mg_of X G a20
  have g21 := PySem.W.mg_of X G a21
  have g22 := PySem.W.mg_of X G a22
  have g23 := PySem.W.mg_of X G a23
  have g24 := PySem.W.mg_of X G a24
  have g25 := PySem.W.mg_of X G a25
  have g26 := PySem.W.mg_of X G a26
  have g27 := PySem.W.mg_of X G a27
  have g28 := PySem.W.mg_of X G a28
  have g29 := PySem.W.mg_of X G a29
  have g30 := PySem.W.mg_of X G a30
  have g31 := PySem.W.mg_of X G a31
  have g32 := PySem.W.mg_of X G a32
  have g33 := PySem.W.mg_of X G a33
  have g34 := PySem.W.mg_of X G a34
  have tc2 := (ht "hues_at" (by decide)).code X g2 l2
  cases tc2
  have tc6 := (ht "clash" (by decide)).code X g6 l6
  cases tc6
  have tc8 := (ht "standing" (by decide)).code X g8 l8
  cases tc8
  have tc10 := (ht "have_next" (by decide)).code X g10 l10
  cases tc10
  have tc13 := (ht "taken_on" (by decide)).code X g13 l13
  cases tc13
  have tc15 := (ht "searched" (by decide)).code X g15 l15
  cases tc15
  have tc18 := (ht "is_taken" (by decide)).code X g18 l18
  cases tc18
  have tc19 := (ht "is_floor" (by decide)).code X g19 l19
  cases tc19
  have tc20 := (ht "are_floors" (by decide)).code X g20 l20
  cases tc20
  refine ⟨_, F34, fun s v => .of_eq rfl, fun base H cdv a ns s kb gb tB tH hl hb hS hrm => ?_⟩
  have TB2 := tB "hues_at" (by decide)
  have TH2 := tH "hues_at" (by decide)
  have TB6 := tB "clash" (by decide)
  have TH6 := tH "clash" (by decide)
  have TB8 := tB "standing" (by decide)
  have TH8 := tH "standing" (by decide)
  have TB10 := tB "have_next" (by decide)
  have TH10 := tH "have_next" (by decide)
  have TB13 := tB "taken_on" (by decide)
  have TH13 := tH "taken_on" (by decide)
  have TB15 := tB "searched" (by decide)
  have TH15 := tH "searched" (by decide)
  have TB18 := tB "is_taken" (by decide)
  have TH18 := tH "is_taken" (by decide)
  have TB19 := tB "is_floor" (by decide)
  have TH19 := tH "is_floor" (by decide)
  have TB20 := tB "are_floors" (by decide)
  have TH20 := tH "are_floors" (by decide)
  have C1 : Cal l.prog w K mg base 1 "is_number" ["thing", "low", "high"] spNumF := ⟨_, _, ok_numF (k := 0) F1 { m_isinstance := m_isinstance, m_int := m_int, m_bool := m_bool }, g1, k1, b1⟩
  have C2 : Cal l.prog w K mg base 3 "hues_at" ["filling", "places"] (spHues [(tb "hues_at").2, (tb "clash").2, (tb "standing").2, (tb "have_next").2, (tb "taken_on").2, (tb "searched").2, (tb "is_taken").2, (tb "is_floor").2, (tb "are_floors").2]) := ⟨_, _, ok_hues (k := 0) ⟨⟨_, _, _, _, _, _, _, _, rfl, l2, c2⟩⟩ TB2 (by simp) { m_tuple := m_tuple, m_zip := m_zip, m_all := m_all, m_len := m_len }, g2, k2, b2⟩
  have C3 : Cal l.prog w K mg base 4 "is_broken" ["wish", "filling"] (spIsB [(tb "hues_at").2, (tb "clash").2, (tb "standing").2, (tb "have_next").2, (tb "taken_on").2, (tb "searched").2, (tb "is_taken").2, (tb "is_floor").2, (tb "are_floors").2]) := ⟨_, _, ok_isB (k := 0) F3 { c_hues_at := C2 }, g3, k3, b3⟩
  have C4 : Cal l.prog w K mg base 5 "broken" ["riddle", "filling"] (spBro [(tb "hues_at").2, (tb "clash").2, (tb "standing").2, (tb "have_next").2, (tb "taken_on").2, (tb "searched").2, (tb "is_taken").2, (tb "is_floor").2, (tb "are_floors").2]) := ⟨_, _, ok_bro (k := 0) F4 { m_enumerate := m_enumerate, c_is_broken := C3 }, g4, k4, b4⟩
  have C5 : Cal l.prog w K mg base 1 "all_fillings" ["many", "hues"] spAlf := ⟨_, _, ok_alf (k := 0) F5 { m_range := m_range }, g5, k5, b5⟩
  have C6 : Cal l.prog w K mg base 1 "clash" ["one", "other"] (spCla [(tb "hues_at").2, (tb "clash").2, (tb "standing").2, (tb "have_next").2, (tb "taken_on").2, (tb "searched").2, (tb "is_taken").2, (tb "is_floor").2, (tb "are_floors").2]) := ⟨_, _, ok_cla (k := 0) ⟨⟨_, _, _, _, _, _, _, _, rfl, l6, c6⟩⟩ TB6 (by simp) { m_any := m_any }, g6, k6, b6⟩
  have C7 : Cal l.prog w K mg base 2 "clashing" ["riddle"] (spCls [(tb "hues_at").2, (tb "clash").2, (tb "standing").2, (tb "have_next").2, (tb "taken_on").2, (tb "searched").2, (tb "is_taken").2, (tb "is_floor").2, (tb "are_floors").2]) := ⟨_, _, ok_cls (k := 0) F7 { m_enumerate := m_enumerate, c_clash := C6 }, g7, k7, b7⟩
  have C8 : Cal l.prog w K mg base 3 "standing" ["table", "taken"] (spStaE [(tb "hues_at").2, (tb "clash").2, (tb "standing").2, (tb "have_next").2, (tb "taken_on").2, (tb "searched").2, (tb "is_taken").2, (tb "is_floor").2, (tb "are_floors").2]) := ⟨_, _, ok_staE (k := 0) ⟨⟨_, _, _, _, _, _, _, _, rfl, l8, c8⟩⟩ TB8 (by simp) { m_tuple := m_tuple, m_zip := m_zip, m_all := m_all, m_len := m_len }, g8, k8, b8⟩
  have C9 : Cal l.prog w K mg base 5 "first_broken" ["wishes", "order", "filling"] (spFib [(tb "hues_at").2, (tb "clash").2, (tb "standing").2, (tb "have_next").2, (tb "taken_on").2, (tb "searched").2, (tb "is_taken").2, (tb "is_floor").2, (tb "are_floors").2]) := ⟨_, _, ok_fib (k := 0) F9 { c_hues_at := C2, c_is_broken := C3 }, g9, k9, b9⟩
  have C10 : Cal l.prog w K mg base 2 "have_next" ["table", "taken", "places"] (spHnxE [(tb "hues_at").2, (tb "clash").2, (tb "standing").2, (tb "have_next").2, (tb "taken_on").2, (tb "searched").2, (tb "is_taken").2, (tb "is_floor").2, (tb "are_floors").2]) := ⟨_, _, ok_hnxE (k := 0) ⟨⟨_, _, _, _, _, _, _, _, rfl, l10, c10⟩⟩ TB10 (by simp) { m_tuple := m_tuple, m_zip := m_zip, m_all := m_all, m_len := m_len }, g10, k10, b10⟩
  have C11 : Cal l.prog w K mg base 6 "run" ["riddle", "table", "order"] (spRun [(tb "hues_at").2, (tb "clash").2, (tb "standing").2, (tb "have_next").2, (tb "taken_on").2, (tb "searched").2, (tb "is_taken").2, (tb "is_floor").2, (tb "are_floors").2]) := ⟨_, _, ok_run (k := 0) F11 { m_len := m_len, c_hues_at := C2, c_standing := C8, c_first_broken := C9, c_have_next := C10 }, g11, k11, b11⟩
  have C12 : Cal l.prog w K mg base 1 "refuse_too_many" ["table"] spRtm := ⟨_, _, ok_rtm (k := 0) F12 { m_len := m_len, g_MOST_CHOICES := ⟨_, PySem.W.mg_of X G q_MOST_CHOICES, ⟨_, rfl⟩⟩ }, g12, k12, b12⟩
  have C13 : Cal l.prog w K mg base 3 "taken_on" ["taken", "places"] (spTko [(tb "hues_at").2, (tb "clash").2, (tb "standing").2, (tb "have_next").2, (tb "taken_on").2, (tb "searched").2, (tb "is_taken").2, (tb "is_floor").2, (tb "are_floors").2]) := ⟨_, _, ok_tko (k := 0) ⟨⟨_, _, _, _, _, _, _, _, rfl, l13, c13⟩⟩ TB13 (by simp) { m_tuple := m_tuple, m_enumerate := m_enumerate }, g13, k13, b13⟩
  have C14 : Cal l.prog w K mg base 6 "mendings" ["riddle", "table", "taken"] (spMds [(tb "hues_at").2, (tb "clash").2, (tb "standing").2, (tb "have_next").2, (tb "taken_on").2, (tb "searched").2, (tb "is_taken").2, (tb "is_floor").2, (tb "are_floors").2]) := ⟨_, _, ok_mds (k := 0) F14 { c_broken := C4, c_standing := C8, c_have_next := C10, c_taken_on := C13 }, g14, k14, b14⟩
  have C15 : Cal l.prog w K mg base 7 "searched" ["riddle", "table"] (spSea [(tb "hues_at").2, (tb "clash").2, (tb "standing").2, (tb "have_next").2, (tb "taken_on").2, (tb "searched").2, (tb "is_taken").2, (tb "is_floor").2, (tb "are_floors").2]) := ⟨_, _, ok_sea (k := 0) ⟨⟨_, _, _, _, _, _, _, _, rfl, l15, c15⟩⟩ TB15 (by simp) { m_tuple := m_tuple, m_len := m_len, c_broken := C4, c_standing := C8, c_mendings := C14 }, g15, k15, b15⟩
  have C16 : Cal l.prog w K mg base 8 "fewest" ["riddle", "table"] (spFew [(tb "hues_at").2, (tb "clash").2, (tb "standing").2, (tb "have_next").2, (tb "taken_on").2, (tb "searched").2, (tb "is_taken").2, (tb "is_floor").2, (tb "are_floors").2]) := ⟨_, _, ok_few (k := 0) F16 { c_refuse_too_many := C12, c_searched := C15 }, g16, k16, b16⟩
  have C17 : CalX l.prog w K mg base 8 "floors_of" ["riddle", "table"] (spFof [(tb "hues_at").2, (tb "clash").2, (tb "standing").2, (tb "have_next").2, (tb "taken_on").2, (tb "searched").2, (tb "is_taken").2, (tb "is_floor").2, (tb "are_floors").2] qn0) := ⟨_, _, ok_fof (k := 0) F17 { toCls1 := cls1_of hq0, m_max := m_max, g_NoEnd := PySem.W.mg_of X G nq0, c_refuse_too_many := C12, c_searched := C15 }, g17, k17, b17⟩
  have C18 : Cal l.prog w K mg base 3 "is_taken" ["table", "taken"] (spIst [(tb "hues_at").2, (tb "clash").2, (tb "standing").2, (tb "have_next").2, (tb "taken_on").2, (tb "searched").2, (tb "is_taken").2, (tb "is_floor").2, (tb "are_floors").2]) := ⟨_, _, ok_ist (k := 0) ⟨⟨_, _, _, _, _, _, _, _, rfl, l18, c18⟩⟩ TB18 (by simp) { m_len := m_len, m_all := m_all, m_zip := m_zip, c_is_number := C1 }, g18, k18, b18⟩
  have C19 : Cal l.prog w K mg base 8 "is_floor" ["riddle", "table", "floors", "taken"] (spIsf [(tb "hues_at").2, (tb "clash").2, (tb "standing").2, (tb "have_next").2, (tb "taken_on").2, (tb "searched").2, (tb "is_taken").2, (tb "is_floor").2, (tb "are_floors").2]) := ⟨_, _, ok_isf (k := 0) ⟨⟨_, _, _, _, _, _, _, _, rfl, l19, c19⟩⟩ TB19 (by simp) { m_all := m_all, c_broken := C4, c_standing := C8, c_mendings := C14 }, g19, k19, b19⟩
  have C20 : Cal l.prog w K mg base 10 "are_floors" ["riddle", "table", "floors"] (spArf [(tb "hues_at").2, (tb "clash").2, (tb "standing").2, (tb "have_next").2, (tb "taken_on").2, (tb "searched").2, (tb "is_taken").2, (tb "is_floor").2, (tb "are_floors").2]) := ⟨_, _, ok_arf (k := 0) ⟨⟨_, _, _, _, _, _, _, _, rfl, l20, c20⟩⟩ TB20 (by simp) { m_all := m_all, c_is_taken := C18, c_is_floor := C19 }, g20, k20, b20⟩
  have C21 : Cal l.prog w K mg base 5 "first_of_both" ["one", "other", "fillings"] (spFob [(tb "hues_at").2, (tb "clash").2, (tb "standing").2, (tb "have_next").2, (tb "taken_on").2, (tb "searched").2, (tb "is_taken").2, (tb "is_floor").2, (tb "are_floors").2]) := ⟨_, _, ok_fob (k := 0) F21 { c_is_broken := C3 }, g21, k21, b21⟩
  have C22 : Cal l.prog w K mg base 6 "apart" ["riddle"] (spApr [(tb "hues_at").2, (tb "clash").2, (tb "standing").2, (tb "have_next").2, (tb "taken_on").2, (tb "searched").2, (tb "is_taken").2, (tb "is_floor").2, (tb "are_floors").2]) := ⟨_, _, ok_apr (k := 0) F22 { m_enumerate := m_enumerate, c_all_fillings := C5, c_clashing := C7, c_first_of_both := C21 }, g22, k22, b22⟩
  have C23 : Cal l.prog w K mg base 1 "_law_tape" ["script", "start"] (spTap K) := ⟨_, _, ok_tap (k := 0) F23 { m_len := m_len, m_abs := m_abs }, g23, k23, b23⟩
  have C24 : Cal l.prog w K mg base 1 "_law_digit" ["tape", "many"] spDig := ⟨_, _, ok_dig (k := 0) F24, g24, k24, b24⟩
  have C25 : Cal l.prog w K mg base 2 "_law_wish" ["tape", "many", "hues", "most"] spWis := ⟨_, _, ok_wis (k := 0) F25 { m_range := m_range, m_list := m_list, m_min := m_min, m_len := m_len, m_sorted := m_sorted, m_tuple := m_tuple, c__law_digit := C24 }, g25, k25, b25⟩
  have C26 : Cal l.prog w K mg base 2 "_law_sizes" ["tape", "small"] spSzs := ⟨_, _, ok_szs (k := 0) F26 { m_range := m_range, m_list := m_list, m_min := m_min, m_len := m_len, m_sorted := m_sorted, m_tuple := m_tuple, c__law_digit := C24 }, g26, k26, b26⟩
  have C27 : Cal l.prog w K mg base 3 "_law_riddle" ["tape", "small"] spRid := ⟨_, _, ok_rid (k := 0) F27 { m_range := m_range, m_list := m_list, m_min := m_min, m_len := m_len, m_sorted := m_sorted, m_tuple := m_tuple, c__law_digit := C24, c__law_wish := C25, c__law_sizes := C26 }, g27, k27, b27⟩
  have C28 : Cal l.prog w K mg base 2 "_law_table" ["tape", "riddle", "most"] spTab := ⟨_, _, ok_tab (k := 0) F28 { m_range := m_range, m_list := m_list, m_min := m_min, m_len := m_len, m_sorted := m_sorted, m_tuple := m_tuple, c__law_digit := C24 }, g28, k28, b28⟩
  have C29 : Cal l.prog w K mg base 2 "_law_order" ["tape", "many"] spOrd := ⟨_, _, ok_ord (k := 0) F29 { m_range := m_range, m_list := m_list, m_min := m_min, m_len := m_len, m_sorted := m_sorted, m_tuple := m_tuple, c__law_digit := C24 }, g29, k29, b29⟩
  have C30 : Cal l.prog w K mg base 1 "_law_meet" ["one", "other"] spMee := ⟨_, _, ok_mee (k := 0) F30, g30, k30, b30⟩
  have C31 : Cal l.prog w K mg base 3 "_law_apart_riddle" ["tape", "small"] spRid := ⟨_, _, ok_ard (k := 0) F31 { m_range := m_range, m_len := m_len, m_tuple := m_tuple, c__law_digit := C24, c__law_wish := C25, c__law_sizes := C26, c__law_meet := C30 }, g31, k31, b31⟩
  have C32 : Cal l.prog w K mg base 6 "_law_told_right" ["riddle", "table", "way"] (spTor [(tb "hues_at").2, (tb "clash").2, (tb "standing").2, (tb "have_next").2, (tb "taken_on").2, (tb "searched").2, (tb "is_taken").2, (tb "is_floor").2, (tb "are_floors").2]) := ⟨_, _, ok_tor (k := 0) F32 { m_zip := m_zip, m_len := m_len, m_tuple := m_tuple, c_broken := C4 }, g32, k32, b32⟩
  have C33 : Cal l.prog w K mg base 7 "_law_run_right" ["riddle", "log", "way", "floors"] (spRur [(tb "hues_at").2, (tb "clash").2, (tb "standing").2, (tb "have_next").2, (tb "taken_on").2, (tb "searched").2, (tb "is_taken").2, (tb "is_floor").2, (tb "are_floors").2]) := ⟨_, _, ok_rur (k := 0) F33 { m_enumerate := m_enumerate, m_len := m_len, m_tuple := m_tuple, c_apart := C22 }, g33, k33, b33⟩
  have hTs : Tabs [(tb "hues_at").2, (tb "clash").2, (tb "standing").2, (tb "have_next").2, (tb "taken_on").2, (tb "searched").2, (tb "is_taken").2, (tb "is_floor").2, (tb "are_floors").2] H := fun P hP => by
    simp only [List.mem_cons, List.not_mem_nil, or_false] at hP
    rcases hP with rfl | rfl | rfl | rfl | rfl | rfl | rfl | rfl | rfl
    · exact ⟨#[], TH2, trivial⟩
    · exact ⟨#[], TH6, trivial⟩
    · exact ⟨#[], TH8, trivial⟩
    · exact ⟨#[], TH10, trivial⟩
    · exact ⟨#[], TH13, trivial⟩
    · exact ⟨#[], TH15, trivial⟩
    · exact ⟨#[], TH18, trivial⟩
    · exact ⟨#[], TH19, trivial⟩
    · exact ⟨#[], TH20, trivial⟩
  exact body_law (Ps := [(tb "hues_at").2, (tb "clash").2, (tb "standing").2, (tb "have_next").2, (tb "taken_on").2, (tb "searched").2, (tb "is_taken").2, (tb "is_floor").2, (tb "are_floors").2]) (D := qn0) { m_len := m_len, m_range := m_range, m_max := m_max, m_min := m_min, c__law_tape := C23, c__law_digit := C24, c__law_riddle := C27, c__law_apart_riddle := C31, c__law_table := C28, c__law_order := C29, c__law_told_right := C32, c__law_run_right := C33, c_fewest := C16, c_floors_of := C17, c_are_floors := C20, c_run := C11 } hl hTs hS hrm
end Rd

set_option Elab.async false
set_option linter.all false
set_option maxRecDepth 100000
set_option maxHeartbeats 4000000
open PySem PySem.W PyProof.Rows
set_option maxHeartbeats 0 in
theorem PySem.Challenge.cw_redraw_k53_whole_fewest_and_runs_holds : PySem.Challenge.rw_redraw_k53_whole_fewest_and_runs.Holds := by
  w_on; o_law; k_head; (case hw => w_witness2)
  k_fill
  refine Lg.walk_of (l := PySem.Challenge.rw_redraw_k53_whole_fewest_and_runs) (n := 63) (k := 10) (x := "law") (qual := "law") (par := "script") (st := Rd.sLaw) (N := Rd.nLaw) ["hues_at", "clash", "standing", "have_next", "taken_on", "searched", "is_taken", "is_floor", "are_floors"] rfl (by decide) rfl ⟨rfl, by decide, by decide⟩ (by rfl) ?hK (fun w h Y => PySem.W.kIn_of Y) Rd.scLaw ?F
  case hK => intro w; kernel_rfl
  case F =>
    intro w mg fa h tb KX G hmg ht
    refine' Rd.all_mk KX G hmg ht ?a1 ?l1 ?c1 ?k1 ?a2 ?l2 ?c2 ?k2 ?a3 ?l3 ?c3 ?k3 ?a4 ?l4 ?c4 ?k4 ?a5 ?l5 ?c5 ?k5 ?a6 ?l6 ?c6 ?k6 ?a7 ?l7 ?c7 ?k7 ?a8 ?l8 ?c8 ?k8 ?a9 ?l9 ?c9 ?k9 ?a10 ?l10 ?c10 ?k10 ?a11 ?l11 ?c11 ?k11 ?a12 ?l12 ?c12 ?k12 ?a13 ?l13 ?c13 ?k13 ?a14 ?l14 ?c14 ?k14 ?a15 ?l15 ?c15 ?k15 ?a16 ?l16 ?c16 ?k16 ?a17 ?l17 ?c17 ?k17 ?a18 ?l18 ?c18 ?k18 ?a19 ?l19 ?c19 ?k19 ?a20 ?l20 ?c20 ?k20 ?a21 ?l21 ?c21 ?k21 ?a22 ?l22 ?c22 ?k22 ?a23 ?l23 ?c23 ?k23 ?a24 ?l24 ?c24 ?k24 ?a25 ?l25 ?c25 ?k25 ?a26 ?l26 ?c26 ?k26 ?a27 ?l27 ?c27 ?k27 ?a28 ?l28 ?c28 ?k28 ?a29 ?l29 ?c29 ?k29 ?a30 ?l30 ?c30 ?k30 ?a31 ?l31 ?c31 ?k31 ?a32 ?l32 ?c32 ?k32 ?a33 ?l33 ?c33 ?k33 ?a34 ?l34 ?c34 ?k34 ?z_abs ?z_all ?z_any ?z_bool ?z_enumerate ?z_int ?z_isinstance ?z_len ?z_list ?z_max ?z_min ?z_range ?z_sorted ?z_tuple ?z_zip ?q_MOST_CHOICES ?nq0 ?hq0
    (case a1 => k_is); (case l1 => k_is); (case c1 => k_is); (case k1 => k_is); (case a2 => k_is); (case l2 => k_is); (case c2 => k_is); (case k2 => k_is); (case a3 => k_is); (case l3 => k_is); (case c3 => k_is); (case k3 => k_is); (case a4 => k_is); (case l4 => k_is); (case c4 => k_is); (case k4 => k_is); (case a5 => k_is); (case l5 => k_is); (case c5 => k_is); (case k5 => k_is); (case a6 => k_is); (case l6 => k_is); (case c6 => k_is); (case k6 => k_is); (case a7 => k_is); (case l7 => k_is); (case c7 => k_is); (case k7 => k_is); (case a8 => k_is); (case l8 => k_is); (case c8 => k_is); (case k8 => k_is); (case a9 => k_is); (case l9 => k_is); (case c9 => k_is); (case k9 => k_is); (case a10 => k_is); (case l10 => k_is); (case c10 => k_is); (case k10 => k_is); (case a11 => k_is); (case l11 => k_is); (case c11 => k_is); (case k11 => k_is); (case a12 => k_is); (case l12 => k_is); (case c12 => k_is); (case k12 => k_is); (case a13 => k_is); (case l13 => k_is); (case c13 => k_is); (case k13 => k_is); (case a14 => k_is); (case l14 => k_is); (case c14 => k_is); (case k14 => k_is); (case a15 => k_is); (case l15 => k_is); (case c15 => k_is); (case k15 => k_is); (case a16 => k_is); (case l16 => k_is); (case c16 => k_is); (case k16 => k_is); (case a17 => k_is); (case l17 => k_is); (case c17 => k_is); (case k17 => k_is); (case a18 => k_is); (case l18 => k_is); (case c18 => k_is); (case k18 => k_is); (case a19 => k_is); (case l19 => k_is); (case c19 => k_is); (case k19 => k_is); (case a20 => k_is); (case l20 => k_is); (case c20 => k_is); (case k20 => k_is); (case a21 => k_is); (case l21 => k_is); (case c21 => k_is); (case k21 => k_is); (case a22 => k_is); (case l22 => k_is); (case c22 => k_is); (case k22 => k_is); (case a23 => k_is); (case l23 => k_is); (case c23 => k_is); (case k23 => k_is); (case a24 => k_is); (case l24 => k_is); (case c24 => k_is); (case k24 => k_is); (case a25 => k_is); (case l25 => k_is); (case c25 => k_is); (case k25 => k_is); (case a26 => k_is); (case l26 => k_is); (case c26 => k_is); (case k26 => k_is); (case a27 => k_is); (case l27 => k_is); (case c27 => k_is); (case k27 => k_is); (case a28 => k_is); (case l28 => k_is); (case c28 => k_is); (case k28 => k_is); (case a29 => k_is); (case l29 => k_is); (case c29 => k_is); (case k29 => k_is); (case a30 => k_is); (case l30 => k_is); (case c30 => k_is); (case k30 => k_is); (case a31 => k_is); (case l31 => k_is); (case c31 => k_is); (case k31 => k_is); (case a32 => k_is); (case l32 => k_is); (case c32 => k_is); (case k32 => k_is); (case a33 => k_is); (case l33 => k_is); (case c33 => k_is); (case k33 => k_is); (case a34 => k_is); (case l34 => k_is); (case c34 => k_is); (case k34 => k_is); (case z_abs => k_is); (case z_all => k_is); (case z_any => k_is); (case z_bool => k_is); (case z_enumerate => k_is); (case z_int => k_is); (case z_isinstance => k_is); (case z_len => k_is); (case z_list => k_is); (case z_max => k_is); (case z_min => k_is); (case z_range => k_is); (case z_sorted => k_is); (case z_tuple => k_is); (case z_zip => k_is); (case q_MOST_CHOICES => k_is); (case nq0 => k_is); (case hq0 => kernel_rfl)
